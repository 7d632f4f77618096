import PyProof.Rows.All
import Wide.All
import OpenK.AllK
import Wide.FinOn
import HandS.ForMost
import HandS.ForExc
import HandS.TupAny
import HandS.Rev
import HandS.Conv
import HandS.IsInst
import HandS.EndBits
import PyProof.WalksMore
import HandS.TupMul
import HandS.ExcInit
import HandS.ExcIs
import HandS.ExcOwn
import HandS.Style
import HandS.SortInts
import HandS.Flow
import PyProof.P3In
import HandS.Zip
import HandS.RevRange
import HandS.Text
import PySem.Challenge.RW_backstair_k51_clean_nets
set_option Elab.async false
set_option linter.all false
set_option maxRecDepth 100000
/-! PL: values as trees over what never changes, a small store of what may; readings that compute. -/
namespace PL
open PySem PySem.Spec PyProof.Rows L2

inductive PV where
  | non | bl (b : Bool) | int (i : Int) | str (x : Str) | ty (n : String)
  | tup (xs : List PV) | lst (xs : List PV) | scr (xs : List PV)
  | obj (C : Addr) (fs : List (Str × PV))
  | ptr (a : Addr)

mutual
inductive R (K : PySem.W.Frag) (F : Hp) : PV → V → Prop
  | non : R K F .non .non
  | bl (b : Bool) : R K F (.bl b) (.bl b)
  | int (i : Int) : R K F (.int i) (.int i)
  | str (x : Str) : R K F (.str x) (.str x)
  | ty (n : String) : R K F (.ty n) (.ty n)
  | tup {a : Addr} {xs : List PV} {vs : List V} : SqT K F a vs → RAll K F xs vs → R K F (.tup xs) (.ref a)
  | lst {a : Addr} {xs : List PV} {vs : List V} : F a = some (.lst vs) → RAll K F xs vs → R K F (.lst xs) (.ref a)
  | scr {a : Addr} {xs : List PV} {vs : List V} : SqL K F a vs → RAll K F xs vs → R K F (.scr xs) (.ref a)
  | obj {a C dx : Addr} {fs : List (Str × PV)} {vs : List (Str × V)} : F a = some (.ins C dx vs) → RFs K F fs vs → R K F (.obj C fs) (.ref a)
  | ptr (a : Addr) : R K F (.ptr a) (.ref a)
inductive RAll (K : PySem.W.Frag) (F : Hp) : List PV → List V → Prop
  | nil : RAll K F [] []
  | cons {x : PV} {xs : List PV} {v : V} {vs : List V} : R K F x v → RAll K F xs vs → RAll K F (x :: xs) (v :: vs)
inductive RFs (K : PySem.W.Frag) (F : Hp) : List (Str × PV) → List (Str × V) → Prop
  | nil : RFs K F [] []
  | cons {n : Str} {x : PV} {fs : List (Str × PV)} {v : V} {vs : List (Str × V)} : R K F x v → RFs K F fs vs → RFs K F ((n, x) :: fs) ((n, v) :: vs)
end

theorem sqT_same {K : PySem.W.Frag} {H H' : Hp} {a : Addr} {xs : List V} (e : Same H H') (h : SqT K H a xs) : SqT K H' a xs := by
  rcases h with h | h
  · rcases h with h | ⟨o, h⟩
    · exact .inl (.inl (e _ _ h))
    · exact .inl (.inr ⟨o, e _ _ h⟩)
  · exact .inr h

mutual
theorem R.same {K : PySem.W.Frag} {F F' : Hp} (e : Same F F') : ∀ {x : PV} {v : V}, R K F x v → R K F' x v
  | _, _, .non => .non
  | _, _, .bl b => .bl b
  | _, _, .int i => .int i
  | _, _, .str x => .str x
  | _, _, .ty n => .ty n
  | _, _, .tup h r => .tup (sqT_same e h) (RAll.same e r)
  | _, _, .lst h r => .lst (e _ _ h) (RAll.same e r)
  | _, _, .scr h r => .scr (e.seq h) (RAll.same e r)
  | _, _, .obj h r => .obj (e _ _ h) (RFs.same e r)
  | _, _, .ptr a => .ptr a
theorem RAll.same {K : PySem.W.Frag} {F F' : Hp} (e : Same F F') : ∀ {xs : List PV} {vs : List V}, RAll K F xs vs → RAll K F' xs vs
  | _, _, .nil => .nil
  | _, _, .cons r t => .cons (R.same e r) (RAll.same e t)
theorem RFs.same {K : PySem.W.Frag} {F F' : Hp} (e : Same F F') : ∀ {xs : List (Str × PV)} {vs : List (Str × V)}, RFs K F xs vs → RFs K F' xs vs
  | _, _, .nil => .nil
  | _, _, .cons r t => .cons (R.same e r) (RFs.same e t)
end

section
variable {K : PySem.W.Frag} {F F' : Hp}
theorem RAll.length : ∀ {xs : List PV} {vs : List V}, RAll K F xs vs → xs.length = vs.length
  | _, _, .nil => rfl
  | _, _, .cons _ t => congrArg (· + 1) (RAll.length t)
theorem RAll.get : ∀ {xs : List PV} {vs : List V} {i : Nat} {x : PV}, RAll K F xs vs → xs[i]? = some x → ∃ v, vs[i]? = some v ∧ R K F x v
  | _, _, 0, _, .cons r _, e => ⟨_, rfl, by cases e; exact r⟩
  | _, _, i + 1, x, .cons _ t, e => RAll.get (i := i) (x := x) t e
  | _, _, _, _, .nil, e => by simp at e
theorem RAll.at : ∀ {xs : List PV} {vs : List V} {i : Nat} {v : V}, RAll K F xs vs → vs[i]? = some v → ∃ x, xs[i]? = some x ∧ R K F x v
  | _, _, 0, _, .cons r _, e => ⟨_, rfl, by cases e; exact r⟩
  | _, _, i + 1, x, .cons _ t, e => RAll.at (i := i) (v := x) t e
  | _, _, _, _, .nil, e => by simp at e
theorem RAll.append : ∀ {xs ys : List PV} {vs ws : List V}, RAll K F xs vs → RAll K F ys ws → RAll K F (xs ++ ys) (vs ++ ws)
  | _, _, _, _, .nil, s => s
  | _, _, _, _, .cons r t, s => .cons r (RAll.append t s)
theorem RAll.take : ∀ {xs : List PV} {vs : List V} (n : Nat), RAll K F xs vs → RAll K F (xs.take n) (vs.take n)
  | _, _, 0, _ => .nil
  | _, _, _ + 1, .nil => .nil
  | _, _, n + 1, .cons r t => .cons r (RAll.take n t)
theorem RAll.drop : ∀ {xs : List PV} {vs : List V} (n : Nat), RAll K F xs vs → RAll K F (xs.drop n) (vs.drop n)
  | _, _, 0, r => r
  | _, _, _ + 1, .nil => .nil
  | _, _, n + 1, .cons _ t => RAll.drop n t
theorem RAll.reverse : ∀ {xs : List PV} {vs : List V}, RAll K F xs vs → RAll K F xs.reverse vs.reverse
  | _, _, .nil => .nil
  | _, _, .cons r t => by
    rw [List.reverse_cons, List.reverse_cons]
    exact RAll.append (RAll.reverse t) (.cons r .nil)
theorem RAll.set {x : PV} {v : V} (r : R K F x v) : ∀ {xs : List PV} {vs : List V} (n : Nat), RAll K F xs vs → RAll K F (xs.set n x) (vs.set n v)
  | _, _, _, .nil => .nil
  | _, _, 0, .cons _ t => .cons r t
  | _, _, n + 1, .cons q t => .cons q (RAll.set r n t)
theorem RAll.ints : ∀ {ns : List Int}, RAll K F (ns.map PV.int) (ns.map V.int)
  | [] => .nil
  | n :: r => .cons (.int n) RAll.ints
theorem RFs.get : ∀ {fs : List (Str × PV)} {vs : List (Str × V)} {f : Str} {x : PV}, RFs K F fs vs → fs.lookup f = some x → ∃ v, vs.lookup f = some v ∧ R K F x v
  | _, _, f, x, .nil, e => by simp at e
  | (n, y) :: fs, (_, w) :: vs, f, x, .cons r t, e => by
    rw [List.lookup_cons] at e ⊢
    cases hb : f == n with
    | true =>
      rw [hb] at e
      cases e
      exact ⟨w, rfl, r⟩
    | false =>
      rw [hb] at e
      exact RFs.get t e
theorem RFs.none : ∀ {fs : List (Str × PV)} {vs : List (Str × V)} {f : Str}, RFs K F fs vs → fs.lookup f = none → vs.lookup f = none
  | _, _, f, .nil, e => rfl
  | (n, y) :: fs, (_, w) :: vs, f, .cons r t, e => by
    rw [List.lookup_cons] at e ⊢
    cases hb : f == n with
    | true =>
      rw [hb] at e
      cases e
    | false =>
      rw [hb] at e
      exact RFs.none t e
def putP (f : Str) (v : PV) : List (Str × PV) → List (Str × PV)
  | [] => [(f, v)]
  | (g, x) :: r => if g = f then (g, v) :: r else (g, x) :: putP f v r
theorem RFs.put {f : Str} {x : PV} {v : V} (r : R K F x v) : ∀ {fs : List (Str × PV)} {vs : List (Str × V)}, RFs K F fs vs → RFs K F (putP f x fs) (putF f v vs)
  | _, _, .nil => .cons r .nil
  | (n, y) :: fs, (_, w) :: vs, .cons q t => by
    unfold putP putF
    by_cases h : n = f
    · rw [if_pos h, if_pos h]
      exact .cons r t
    · rw [if_neg h, if_neg h]
      exact .cons q (RFs.put r t)
theorem RFs.length : ∀ {fs : List (Str × PV)} {vs : List (Str × V)}, RFs K F fs vs → fs.length = vs.length
  | _, _, .nil => rfl
  | _, _, .cons _ t => congrArg (· + 1) (RFs.length t)
end

/-! ### the store -/
inductive MO where
  | lst (xs : List PV)
  | obj (C : Addr) (fs : List (Str × PV))
abbrev Mem := Addr → Option MO
def Mem.put (M : Mem) (a : Addr) (o : MO) : Mem := fun b => if b = a then some o else M b
def Mem.drop (M : Mem) (a : Addr) : Mem := fun b => if b = a then none else M b
theorem put_same {M : Mem} {a : Addr} {o : MO} : M.put a o a = some o := if_pos rfl
theorem put_ne {M : Mem} {a b : Addr} {o : MO} (h : b ≠ a) : M.put a o b = M b := if_neg h
theorem drop_same {M : Mem} {a : Addr} : M.drop a a = none := if_pos rfl
theorem drop_ne {M : Mem} {a b : Addr} (h : b ≠ a) : M.drop a b = M b := if_neg h
theorem put_put {M : Mem} {a : Addr} {o u : MO} : (M.put a o).put a u = M.put a u := by
  funext b
  by_cases e : b = a
  · subst e; rw [put_same, put_same]
  · rw [put_ne e, put_ne e, put_ne e]
theorem put_drop {M : Mem} {a : Addr} {o : MO} (h : M a = none) : (M.put a o).drop a = M := by
  funext b
  by_cases e : b = a
  · subst e; rw [drop_same, h]
  · rw [drop_ne e, put_ne e]
theorem put_put_drop {M : Mem} {a : Addr} {o u : MO} (h : M a = none) : ((M.put a o).put a u).drop a = M := by
  rw [put_put, put_drop h]
theorem put_self {M : Mem} {a : Addr} {o : MO} (h : M a = some o) : M.put a o = M := by
  funext b
  by_cases e : b = a
  · subst e; rw [put_same, h]
  · rw [put_ne e]
theorem put_swap {M : Mem} {a b : Addr} {o u : MO} (h : a ≠ b) : (M.put a o).put b u = (M.put b u).put a o := by
  funext c
  by_cases e : c = b
  · subst e; rw [put_same, put_ne (Ne.symm h), put_same]
  · rw [put_ne e]
    by_cases e2 : c = a
    · subst e2; rw [put_same, put_same]
    · rw [put_ne e2, put_ne e2, put_ne e]
theorem put_drop_swap {M : Mem} {a b : Addr} {o : MO} (h : a ≠ b) : (M.put a o).drop b = (M.drop b).put a o := by
  funext c
  by_cases e : c = b
  · subst e; rw [drop_same, put_ne (Ne.symm h), drop_same]
  · rw [drop_ne e]
    by_cases e2 : c = a
    · subst e2; rw [put_same, put_same]
    · rw [put_ne e2, put_ne e2, drop_ne e]
theorem drop_none {M : Mem} {a : Addr} (h : M a = none) : M.drop a = M := by
  funext b
  by_cases e : b = a
  · subst e; rw [drop_same, h]
  · rw [drop_ne e]

inductive RO (K : PySem.W.Frag) (F : Hp) : MO → HO → Prop
  | lst {xs : List PV} {vs : List V} : RAll K F xs vs → RO K F (.lst xs) (.lst vs)
  | obj {C dx : Addr} {fs : List (Str × PV)} {vs : List (Str × V)} : RFs K F fs vs → RO K F (.obj C fs) (.ins C dx vs)
theorem RO.same {K : PySem.W.Frag} {F F' : Hp} (e : Same F F') {m : MO} {o : HO} (r : RO K F m o) : RO K F' m o := by
  cases r with
  | lst r => exact .lst (r.same e)
  | obj r => exact .obj (r.same e)
theorem RO.mut {K : PySem.W.Frag} {F : Hp} {m : MO} {o : HO} (r : RO K F m o) : Mut (some o) := by
  cases r <;> exact trivial

/-- F: what never changes; M: what may; both in H -/
structure RM (K : PySem.W.Frag) (F : Hp) (M : Mem) (H : Hp) : Prop where
  fr : Same F H
  dj : ∀ a, M a ≠ none → F a = none
  mu : ∀ a m, M a = some m → ∃ o, H a = some o ∧ RO K F m o
/-- what may have changed -/
structure Fr (M : Mem) (H : Hp) (M' : Mem) (H' : Hp) : Prop where
  keep : ∀ b o, H b = some o → M b = none → H' b = some o
  grow : ∀ b, M' b ≠ none → M b ≠ none ∨ H b = none
  there : ∀ b, H b ≠ none → H' b ≠ none

section
variable {K : PySem.W.Frag} {F F' F2 : Hp} {M M' M2 : Mem} {H H' H2 : Hp} {p : Addr} {o : HO}
theorem Fr.refl : Fr M H M H := ⟨fun _ _ h _ => h, fun _ h => .inl h, fun _ h => h⟩
theorem Fr.trans (a : Fr M H M' H') (b : Fr M' H' M2 H2) : Fr M H M2 H2 where
  keep := fun c u h n => by
    refine b.keep c u (a.keep c u h n) ?_
    cases q : M' c with
    | none => rfl
    | some m =>
      rcases a.grow c (by rw [q]; exact Option.some_ne_none _) with z | z
      · exact absurd n z
      · rw [h] at z; cases z
  grow := fun c h => by
    rcases b.grow c h with z | z
    · exact a.grow c z
    · right
      cases q : H c with
      | none => rfl
      | some u => exact absurd z (a.there c (by rw [q]; exact Option.some_ne_none _))
  there := fun c h => b.there c (a.there c h)
theorem RM.nones (r : RM K F M H) (n : H p = Option.none) : F p = Option.none ∧ M p = Option.none := by
  constructor
  · exact r.fr.free n
  · cases q : M p with
    | none => rfl
    | some m =>
      obtain ⟨o, e, _⟩ := r.mu p m q
      rw [n] at e; cases e
theorem same_upd {F : Hp} (n : F p = Option.none) : Same F (upd F p o) := fun b u e => by
  rw [upd_ne (ne_of_none e n)]; exact e
/-- a new thing that never changes -/
theorem RM.fresh (r : RM K F M H) (n : H p = Option.none) : Same F (upd F p o) ∧ RM K (upd F p o) M (upd H p o) ∧ Fr M H M (upd H p o) := by
  obtain ⟨nF, nM⟩ := r.nones n
  have sm : Same F (upd F p o) := same_upd nF
  refine ⟨sm, ⟨fun b u e => ?_, fun b h => ?_, fun b m e => ?_⟩, ⟨fun b u e _ => ?_, fun b h => .inl h, fun b h => ?_⟩⟩
  · by_cases hb : b = p
    · subst hb; rw [upd_same] at e; rw [upd_same]; exact e
    · rw [upd_ne hb] at e; rw [upd_ne hb]; exact r.fr b u e
  · have hb : b ≠ p := fun z => h (by rw [z]; exact nM)
    rw [upd_ne hb]; exact r.dj b h
  · have hb : b ≠ p := fun z => by rw [z, nM] at e; cases e
    obtain ⟨u, e1, e2⟩ := r.mu b m e
    exact ⟨u, by rw [upd_ne hb]; exact e1, e2.same sm⟩
  · rw [upd_ne (ne_of_none e n)]; exact e
  · by_cases hb : b = p
    · subst hb; rw [upd_same]; exact Option.some_ne_none _
    · rw [upd_ne hb]; exact h
/-- a new thing that may change -/
theorem RM.new {m : MO} (r : RM K F M H) (n : H p = Option.none) (q : RO K F m o) : RM K F (M.put p m) (upd H p o) ∧ Fr M H (M.put p m) (upd H p o) := by
  obtain ⟨nF, nM⟩ := r.nones n
  refine ⟨⟨fun b u e => ?_, fun b h => ?_, fun b m' e => ?_⟩, ⟨fun b u e _ => ?_, fun b h => ?_, fun b h => ?_⟩⟩
  · have hb : b ≠ p := fun z => by rw [z, nF] at e; cases e
    rw [upd_ne hb]; exact r.fr b u e
  · by_cases hb : b = p
    · subst hb; exact nF
    · rw [put_ne hb] at h; exact r.dj b h
  · by_cases hb : b = p
    · subst hb; rw [put_same] at e; cases e; exact ⟨o, upd_same, q⟩
    · rw [put_ne hb] at e
      obtain ⟨u, e1, e2⟩ := r.mu b m' e
      exact ⟨u, by rw [upd_ne hb]; exact e1, e2⟩
  · rw [upd_ne (ne_of_none e n)]; exact e
  · by_cases hb : b = p
    · subst hb; exact .inr n
    · rw [put_ne hb] at h; exact .inl h
  · by_cases hb : b = p
    · subst hb; rw [upd_same]; exact Option.some_ne_none _
    · rw [upd_ne hb]; exact h
/-- a change -/
theorem RM.write {m m' : MO} (r : RM K F M H) (e : M p = some m) (q : RO K F m' o) : RM K F (M.put p m') (upd H p o) ∧ Fr M H (M.put p m') (upd H p o) := by
  have nF : F p = Option.none := r.dj p (by rw [e]; exact Option.some_ne_none _)
  refine ⟨⟨fun b u e => ?_, fun b h => ?_, fun b m' e => ?_⟩, ⟨fun b u e1 n1 => ?_, fun b h => ?_, fun b h => ?_⟩⟩
  · have hb : b ≠ p := fun z => by rw [z, nF] at e; cases e
    rw [upd_ne hb]; exact r.fr b u e
  · by_cases hb : b = p
    · subst hb; exact nF
    · rw [put_ne hb] at h; exact r.dj b h
  · by_cases hb : b = p
    · subst hb; rw [put_same] at e; cases e; exact ⟨o, upd_same, q⟩
    · rw [put_ne hb] at e
      obtain ⟨u, e1, e2⟩ := r.mu b m' e
      exact ⟨u, by rw [upd_ne hb]; exact e1, e2⟩
  · have hb : b ≠ p := fun z => by rw [z, e] at n1; cases n1
    rw [upd_ne hb]; exact e1
  · by_cases hb : b = p
    · subst hb; exact .inl (by rw [e]; exact Option.some_ne_none _)
    · rw [put_ne hb] at h; exact .inl h
  · by_cases hb : b = p
    · subst hb; rw [upd_same]; exact Option.some_ne_none _
    · rw [upd_ne hb]; exact h
/-- it is forgotten -/
theorem RM.drop (r : RM K F M H) : RM K F (M.drop p) H ∧ Fr M H (M.drop p) H := by
  refine ⟨⟨r.fr, fun b h => r.dj b ?_, fun b m e => r.mu b m ?_⟩, ⟨fun _ _ h _ => h, fun b h => .inl ?_, fun _ h => h⟩⟩
  · by_cases hb : b = p
    · subst hb; exact absurd drop_same h
    · rw [drop_ne hb] at h; exact h
  · by_cases hb : b = p
    · subst hb; rw [drop_same] at e; cases e
    · rw [drop_ne hb] at e; exact e
  · by_cases hb : b = p
    · subst hb; exact absurd drop_same h
    · rw [drop_ne hb] at h; exact h
/-- from now on it never changes -/
theorem RM.freeze {m : MO} (r : RM K F M H) (e : M p = some m) : ∃ o, Same F (upd F p o) ∧ RM K (upd F p o) (M.drop p) H ∧ Fr M H (M.drop p) H ∧ RO K F m o := by
  obtain ⟨o, e1, q⟩ := r.mu p m e
  have nF : F p = Option.none := r.dj p (by rw [e]; exact Option.some_ne_none _)
  have sm : Same F (upd F p o) := same_upd nF
  obtain ⟨r2, f2⟩ := r.drop (p := p)
  refine ⟨o, sm, ⟨fun b u e => ?_, fun b h => ?_, fun b m e => ?_⟩, f2, q⟩
  · by_cases hb : b = p
    · subst hb; rw [upd_same] at e; cases e; exact e1
    · rw [upd_ne hb] at e; exact r.fr b u e
  · have hb : b ≠ p := fun z => h (by rw [z]; exact drop_same)
    rw [upd_ne hb]; exact r2.dj b h
  · obtain ⟨u, e1, e2⟩ := r2.mu b m e
    exact ⟨u, e1, e2.same sm⟩
end

/-! ### slots -/
abbrev PSt := List (Option PV)
structure RS (K : PySem.W.Frag) (F : Hp) (σ : PSt) (σv : L2.St) : Prop where
  len : σ.length = σv.length
  at_ : ∀ (i : Nat) (x : PV), σ[i]? = some (some x) → ∃ v, σv[i]? = some (some v) ∧ R K F x v
section
variable {K : PySem.W.Frag} {F F' : Hp} {σ : PSt} {σv : L2.St}
theorem RS.same (r : RS K F σ σv) (e : Same F F') : RS K F' σ σv := ⟨r.len, fun i x h => let ⟨v, h1, h2⟩ := r.at_ i x h; ⟨v, h1, h2.same e⟩⟩
theorem RS.set {x : PV} {v : V} (r : RS K F σ σv) (i : Nat) (q : R K F x v) : RS K F (σ.set i (some x)) (σv.set i (some v)) := by
  refine ⟨by rw [List.length_set, List.length_set, r.len], fun j y h => ?_⟩
  by_cases hj : i = j
  · subst hj
    by_cases hl : i < σ.length
    · rw [List.getElem?_set_self hl] at h
      cases h
      exact ⟨v, List.getElem?_set_self (r.len ▸ hl), q⟩
    · rw [List.getElem?_eq_none (by rw [List.length_set]; omega)] at h
      cases h
  · rw [List.getElem?_set_ne hj] at h
    obtain ⟨w, h1, h2⟩ := r.at_ j y h
    exact ⟨w, by rw [List.getElem?_set_ne hj]; exact h1, h2⟩
end
def pstart (n : Nat) (xs : List PV) : PSt := xs.map some ++ List.replicate (n - xs.length) none
theorem RS.start {K : PySem.W.Frag} {F : Hp} {N : List Str} {xs : List PV} {vs : List V} (r : RAll K F xs vs) : RS K F (pstart N.length xs) (L2.start N vs) := by
  unfold pstart L2.start
  have hl := r.length
  refine ⟨by simp [hl], fun i x h => ?_⟩
  by_cases hi : i < xs.length
  · rw [List.getElem?_append_left (by simpa using hi), List.getElem?_map] at h
    cases hx : xs[i]? with
    | none => rw [hx] at h; cases h
    | some y =>
      rw [hx] at h
      cases h
      obtain ⟨v, h1, h2⟩ := r.get hx
      refine ⟨v, ?_, h2⟩
      rw [List.getElem?_append_left (by rw [List.length_map, ← hl]; exact hi), List.getElem?_map, h1]
      rfl
  · rw [List.getElem?_append_right (by simpa using Nat.le_of_not_lt hi), List.getElem?_replicate] at h
    split at h <;> cases h
end PL
set_option Elab.async false
set_option linter.all false
set_option maxRecDepth 100000
namespace PL
open PySem PySem.Spec PyProof.Rows L2

abbrev PQ := PV → Mem → Prop
/-- an exception: its class, its attributes -/
abbrev PXK := Addr → List (Str × PV) → Mem → Prop
abbrev PTE := PXK → PSt → Mem → PQ → Prop
abbrev PTA := PXK → PSt → Mem → (List PV → Mem → Prop) → Prop
abbrev PTT := PXK → PSt → Mem → (Bool → Mem → Prop) → Prop

def WE (X : Cx) (e : Expr) (σ : L2.St) (H : Hp) (Q : VK) : Prop := ∀ pins s, Inv X pins σ H s → wpAny (model X.prog X.w) X.A (eval e X.env) (EP X pins σ Q) X.xe s
def WT (X : Cx) (e : Expr) (σ : L2.St) (H : Hp) (Q : Bool → Hp → Prop) : Prop := ∀ pins s, Inv X pins σ H s → wpAny (model X.prog X.w) X.A (isTrue e X.env (eval e X.env)) (TP X pins σ Q) X.xe s
def WW (X : Cx) (e : Expr) (σ : L2.St) (H : Hp) (Q : Bool → Hp → Prop) : Prop := ∀ (whole : Sem Value) pins s, Inv X pins σ H s → wpAny (model X.prog X.w) X.A (isTrue e X.env whole) (TP X pins σ Q) X.xe s
def WA (X : Cx) (es : List Expr) (σ : L2.St) (H : Hp) (Q : List V → Hp → Prop) : Prop := ∀ (pos : Pos) pins s, Inv X pins σ H s → wpAny (model X.prog X.w) X.A (spliced (backTo pos (starEach es X.env))) (AP X pins σ Q) X.xe s
theorem WE.pe {X : Cx} {e : Expr} : PE X e (WE X e) := ⟨fun pins s σ H Q I h => h pins s I⟩
theorem WT.pt {X : Cx} {e : Expr} : PT X e (WT X e) := ⟨fun pins s σ H Q I h => h pins s I⟩
theorem WW.pw {X : Cx} {e : Expr} : PW X e (WW X e) := ⟨fun wh pins s σ H Q I h => h wh pins s I⟩
theorem WA.pa {X : Cx} {es : List Expr} : PA X es (WA X es) := ⟨fun pos pins s σ H Q I h => h pos pins s I⟩
theorem WE.of {X : Cx} {e : Expr} {t : TE} (p : PE X e t) {σ : L2.St} {H : Hp} {Q : VK} (h : t σ H Q) : WE X e σ H Q := fun pins s I => p.run pins s σ H Q I h
theorem WT.of {X : Cx} {e : Expr} {t : TT} (p : PT X e t) {σ : L2.St} {H : Hp} {Q : Bool → Hp → Prop} (h : t σ H Q) : WT X e σ H Q := fun pins s I => p.run pins s σ H Q I h
theorem WW.of {X : Cx} {e : Expr} {t : TT} (p : PW X e t) {σ : L2.St} {H : Hp} {Q : Bool → Hp → Prop} (h : t σ H Q) : WW X e σ H Q := fun wh pins s I => p.run wh pins s σ H Q I h
theorem WA.of {X : Cx} {es : List Expr} {t : TA} (p : PA X es t) {σ : L2.St} {H : Hp} {Q : List V → Hp → Prop} (h : t σ H Q) : WA X es σ H Q := fun pos pins s I => p.run pos pins s σ H Q I h
theorem WE.mono {X : Cx} {e : Expr} {σ : L2.St} {H : Hp} {Q Q' : VK} (h : WE X e σ H Q) (m : ∀ v H', Q v H' → Q' v H') : WE X e σ H Q' := fun pins s I =>
  thn (h pins s I) fun _ _ ⟨v, H', I', r, q⟩ => ⟨v, H', I', r, m v H' q⟩
theorem WT.mono {X : Cx} {e : Expr} {σ : L2.St} {H : Hp} {Q Q' : Bool → Hp → Prop} (h : WT X e σ H Q) (m : ∀ v H', Q v H' → Q' v H') : WT X e σ H Q' := fun pins s I =>
  thn (h pins s I) fun b _ ⟨H', I', q⟩ => ⟨H', I', m b H' q⟩
theorem WW.mono {X : Cx} {e : Expr} {σ : L2.St} {H : Hp} {Q Q' : Bool → Hp → Prop} (h : WW X e σ H Q) (m : ∀ v H', Q v H' → Q' v H') : WW X e σ H Q' := fun wh pins s I =>
  thn (h wh pins s I) fun b _ ⟨H', I', q⟩ => ⟨H', I', m b H' q⟩
theorem WA.mono {X : Cx} {es : List Expr} {σ : L2.St} {H : Hp} {Q Q' : List V → Hp → Prop} (h : WA X es σ H Q) (m : ∀ v H', Q v H' → Q' v H') : WA X es σ H Q' := fun pos pins s I =>
  thn (h pos pins s I) fun _ _ ⟨v, H', I', r, q⟩ => ⟨v, H', I', r, m v H' q⟩
/-- with the state at hand -/
theorem WE.inv {X : Cx} {e : Expr} {σ : L2.St} {H : Hp} {Q : VK} (h : (∃ pins s, Inv X pins σ H s) → WE X e σ H Q) : WE X e σ H Q := fun pins s I => h ⟨pins, s, I⟩ pins s I

/-- behind: what never changed stays, what may is as Q says -/
structure Beh (K : PySem.W.Frag) (F : Hp) (M : Mem) (H : Hp) (F' : Hp) (M' : Mem) (H' : Hp) : Prop where
  sm : Same F F'
  rm : RM K F' M' H'
  fr : Fr M H M' H'
  fg : ∀ b, F' b ≠ none → F b ≠ none ∨ M b ≠ none ∨ H b = none
theorem Beh.refl {K : PySem.W.Frag} {F H : Hp} {M : Mem} (r : RM K F M H) : Beh K F M H F M H := ⟨Same.refl F, r, Fr.refl, fun _ h => .inl h⟩
theorem Beh.trans {K : PySem.W.Frag} {F F1 F2 H H1 H2 : Hp} {M M1 M2 : Mem} (a : Beh K F M H F1 M1 H1) (b : Beh K F1 M1 H1 F2 M2 H2) : Beh K F M H F2 M2 H2 := by
  have back : ∀ c, H1 c = none → H c = none := fun c z => by
    cases q : H c with
    | none => rfl
    | some u => exact absurd z (a.fr.there c (by rw [q]; exact Option.some_ne_none _))
  refine ⟨a.sm.trans b.sm, b.rm, a.fr.trans b.fr, fun c h => ?_⟩
  rcases b.fg c h with z | z | z
  · exact a.fg c z
  · rcases a.fr.grow c z with y | y
    · exact .inr (.inl y)
    · exact .inr (.inr y)
  · exact .inr (.inr (back c z))
theorem fg_upd {F H : Hp} {M : Mem} {p : Addr} {o : HO} (n : H p = none ∨ M p ≠ none) : ∀ b, upd F p o b ≠ none → F b ≠ none ∨ M b ≠ none ∨ H b = none := fun b h => by
  by_cases hb : b = p
  · subst hb
    rcases n with n | n
    · exact .inr (.inr n)
    · exact .inr (.inl n)
  · rw [upd_ne hb] at h
    exact .inl h
theorem RM.beh {K : PySem.W.Frag} {F H : Hp} {M : Mem} {p : Addr} {o : HO} (r : RM K F M H) (n : H p = none) : Beh K F M H (upd F p o) M (upd H p o) := ⟨(r.fresh n).1, (r.fresh n).2.1, (r.fresh n).2.2, fg_upd (.inl n)⟩
theorem RM.behNew {K : PySem.W.Frag} {F H : Hp} {M : Mem} {p : Addr} {o : HO} {m : MO} (r : RM K F M H) (n : H p = none) (q : RO K F m o) : Beh K F M H F (M.put p m) (upd H p o) := ⟨Same.refl F, (r.new n q).1, (r.new n q).2, fun _ h => .inl h⟩
theorem RM.behWrite {K : PySem.W.Frag} {F H : Hp} {M : Mem} {p : Addr} {o : HO} {m m' : MO} (r : RM K F M H) (e : M p = some m) (q : RO K F m' o) : Beh K F M H F (M.put p m') (upd H p o) := ⟨Same.refl F, (r.write e q).1, (r.write e q).2, fun _ h => .inl h⟩
theorem RM.behDrop {K : PySem.W.Frag} {F H : Hp} {M : Mem} {p : Addr} (r : RM K F M H) : Beh K F M H F (M.drop p) H := ⟨Same.refl F, r.drop.1, r.drop.2, fun _ h => .inl h⟩
theorem RM.behFreeze {K : PySem.W.Frag} {F H : Hp} {M : Mem} {p : Addr} {m : MO} (r : RM K F M H) (e : M p = some m) : ∃ o, Beh K F M H (upd F p o) (M.drop p) H ∧ RO K F m o := by
  obtain ⟨o, a, b, c, d⟩ := r.freeze e
  exact ⟨o, ⟨a, b, c, fg_upd (.inr (by rw [e]; exact Option.some_ne_none _))⟩, d⟩
/-- a thing of the machine's own -/
theorem RM.behHid {K : PySem.W.Frag} {F H : Hp} {M : Mem} {p : Addr} {o : HO} (r : RM K F M H) (nF : F p = none) (nM : M p = none) : RM K F M (upd H p o) ∧ (H p = none → Beh K F M H F M (upd H p o)) := by
  have x : RM K F M (upd H p o) := ⟨fun b u e => by rw [upd_ne (ne_of_none e nF)]; exact r.fr b u e, r.dj, fun b m e => by
    have hb : b ≠ p := fun z => by rw [z, nM] at e; cases e
    obtain ⟨u, e1, e2⟩ := r.mu b m e
    exact ⟨u, by rw [upd_ne hb]; exact e1, e2⟩⟩
  exact ⟨x, fun n => ⟨Same.refl F, x, (r.fresh n).2.2, fun _ h => .inl h⟩⟩

def LQ (K : PySem.W.Frag) (F : Hp) (M : Mem) (H : Hp) (Q : PQ) : VK := fun v H' => ∃ F' M' x, Beh K F M H F' M' H' ∧ R K F' x v ∧ Q x M'
def LB (K : PySem.W.Frag) (F : Hp) (M : Mem) (H : Hp) (Q : Bool → Mem → Prop) : Bool → Hp → Prop := fun b H' => ∃ F' M', Beh K F M H F' M' H' ∧ Q b M'
def LL (K : PySem.W.Frag) (F : Hp) (M : Mem) (H : Hp) (Q : List PV → Mem → Prop) : List V → Hp → Prop := fun vs H' => ∃ F' M' xs, Beh K F M H F' M' H' ∧ RAll K F' xs vs ∧ Q xs M'
theorem LQ.tr {K : PySem.W.Frag} {F F1 H H1 : Hp} {M M1 : Mem} {Q : PQ} (b : Beh K F M H F1 M1 H1) {v : V} {H2 : Hp} : LQ K F1 M1 H1 Q v H2 → LQ K F M H Q v H2
  | ⟨F2, M2, x, b2, r, q⟩ => ⟨F2, M2, x, b.trans b2, r, q⟩
theorem LB.tr {K : PySem.W.Frag} {F F1 H H1 : Hp} {M M1 : Mem} {Q : Bool → Mem → Prop} (b : Beh K F M H F1 M1 H1) {v : Bool} {H2 : Hp} : LB K F1 M1 H1 Q v H2 → LB K F M H Q v H2
  | ⟨F2, M2, b2, q⟩ => ⟨F2, M2, b.trans b2, q⟩
theorem LL.tr {K : PySem.W.Frag} {F F1 H H1 : Hp} {M M1 : Mem} {Q : List PV → Mem → Prop} (b : Beh K F M H F1 M1 H1) {v : List V} {H2 : Hp} : LL K F1 M1 H1 Q v H2 → LL K F M H Q v H2
  | ⟨F2, M2, x, b2, r, q⟩ => ⟨F2, M2, x, b.trans b2, r, q⟩
theorem LQ.now {K : PySem.W.Frag} {F H : Hp} {M : Mem} {Q : PQ} {v : V} {x : PV} (r : RM K F M H) (q : R K F x v) (h : Q x M) : LQ K F M H Q v H := ⟨F, M, x, Beh.refl r, q, h⟩

/-- how the exception's attributes lie -/
def XA (K : PySem.W.Frag) (F : Hp) (fs : List (Str × PV)) (d : Option Addr) (H : Hp) : Prop := match d with
  | none => fs = []
  | some a => fs ≠ [] ∧ ∃ vs, H a = some (.xd vs) ∧ F a = some (.xd vs) ∧ RFs K F fs vs
def LX (K : PySem.W.Frag) (F : Hp) (M : Mem) (H : Hp) (E : PXK) : XK := fun cls d H' => ∃ F' M' C fs, cls = .ref C ∧ Beh K F M H F' M' H' ∧ XA K F' fs d H' ∧ E C fs M'
theorem LX.tr {K : PySem.W.Frag} {F F1 H H1 : Hp} {M M1 : Mem} {E : PXK} (b : Beh K F M H F1 M1 H1) {cls : Value} {d : Option Addr} {H2 : Hp} : LX K F1 M1 H1 E cls d H2 → LX K F M H E cls d H2
  | ⟨F2, M2, C, fs, h1, b2, h3, h4⟩ => ⟨F2, M2, C, fs, h1, b.trans b2, h3, h4⟩
/-- such exceptions may leave -/
def PTk (X : Cx) (F : Hp) (M : Mem) (H : Hp) (E : PXK) : Prop := Takes X (fun cls d _ H' => LX X.K F M H E cls d H')
theorem PTk.tr {X : Cx} {F F1 H H1 : Hp} {M M1 : Mem} {E : PXK} (tk : PTk X F M H E) (b : Beh X.K F M H F1 M1 H1) : PTk X F1 M1 H1 E := tk.imp fun _ _ _ _ h => h.tr b
def noX : PXK := fun _ _ _ => False
theorem PTk.no {X : Cx} {F H : Hp} {M : Mem} : PTk X F M H noX := fun _ _ ⟨_, _, _, _, _, _, _, _, _, _, _, _, _, _, _, _, _, _, _, _, _, _, _, z⟩ => z.elim

structure LE (X : Cx) (e : Expr) (t : PTE) : Prop where
  run : ∀ (σv : L2.St) (H : Hp) (σ : PSt) (F : Hp) (M : Mem) (Q : PQ) (E : PXK), PTk X F M H E → RM X.K F M H → RS X.K F σ σv → t E σ M Q → WE X e σv H (LQ X.K F M H Q)
structure LT (X : Cx) (e : Expr) (t : PTT) : Prop where
  run : ∀ (σv : L2.St) (H : Hp) (σ : PSt) (F : Hp) (M : Mem) (Q : Bool → Mem → Prop) (E : PXK), PTk X F M H E → RM X.K F M H → RS X.K F σ σv → t E σ M Q → WT X e σv H (LB X.K F M H Q)
structure LW (X : Cx) (e : Expr) (t : PTT) : Prop where
  run : ∀ (σv : L2.St) (H : Hp) (σ : PSt) (F : Hp) (M : Mem) (Q : Bool → Mem → Prop) (E : PXK), PTk X F M H E → RM X.K F M H → RS X.K F σ σv → t E σ M Q → WW X e σv H (LB X.K F M H Q)
structure LA (X : Cx) (es : List Expr) (t : PTA) : Prop where
  run : ∀ (σv : L2.St) (H : Hp) (σ : PSt) (F : Hp) (M : Mem) (Q : List PV → Mem → Prop) (E : PXK), PTk X F M H E → RM X.K F M H → RS X.K F σ σv → t E σ M Q → WA X es σv H (fun vs H' => vs.length = es.length ∧ LL X.K F M H Q vs H')
theorem LW.lt {X : Cx} {e : Expr} {t : PTT} (h : LW X e t) : LT X e t := ⟨fun σv H σ F M Q E tk r s q pins s' I => h.run σv H σ F M Q E tk r s q _ pins s' I⟩

/-! ### small words of the readings -/
def need {α : Type} (o : Option α) (k : α → Prop) : Prop := match o with | some a => k a | none => False
theorem need_some {α : Type} {a : α} {k : α → Prop} : need (some a) k = k a := rfl
theorem need_none {α : Type} {k : α → Prop} : need none k = False := rfl
theorem need_of {α : Type} {o : Option α} {k : α → Prop} (h : need o k) : ∃ a, o = some a ∧ k a := by
  cases o with
  | some a => exact ⟨a, rfl, h⟩
  | none => exact h.elim
theorem need_by {α : Type} {o : Option α} {a : α} {k : α → Prop} (e : o = some a) (h : k a) : need o k := by rw [e]; exact h

section
variable {X : Cx} {a b c e : Expr} {ta tb tc : PTE} {pos : Pos} {σv : L2.St} {H : Hp} {σ : PSt} {F : Hp} {M : Mem}

/-- two in a row -/
theorem seq2 (ha : LE X a ta) (hb : LE X b tb) {E : PXK} (tk : PTk X F M H E) (r : RM X.K F M H) (s : RS X.K F σ σv) {k : PV → PV → Mem → Prop} (h : ta E σ M fun x M1 => tb E σ M1 fun y M2 => k x y M2)
    {Q : V → V → Hp → Prop} (hk : ∀ x y xv yv F2 M2 H2, Beh X.K F M H F2 M2 H2 → R X.K F2 x xv → R X.K F2 y yv → k x y M2 → Q xv yv H2) :
    WE X a σv H fun xv H1 => WE X b σv H1 fun yv H2 => Q xv yv H2 := by
  refine (ha.run σv H σ F M _ E tk r s h).mono ?_
  rintro xv H1 ⟨F1, M1, x, b1, rx, h1⟩
  refine (hb.run σv H1 σ F1 M1 _ E (tk.tr b1) b1.rm (s.same b1.sm) h1).mono ?_
  rintro yv H2 ⟨F2, M2, y, b2, ry, h2⟩
  exact hk x y xv yv F2 M2 H2 (b1.trans b2) (rx.same b2.sm) ry h2

/-! ### names, constants -/
def pVar (i : Nat) : PTE := fun E σ M Q => match σ[i]? with | some (some x) => Q x M | _ => False
def pC (x : PV) : PTE := fun _ _ M Q => Q x M
theorem LE.var (i : Nat) {x : Str} (hN : X.N[i]? = some x := by rfl) (hv : Vis X.env.scope x := by first | exact Or.inl rfl | exact Or.inr (Or.inl rfl) | exact Or.inr (Or.inr rfl))
    (hd : (x == ("__debug__" : Str)) = false := by decide) (hcd : (x == ("__classdict__" : Str)) = false := by decide) : LE X (.Name x pos) (pVar i) := by
  refine ⟨fun σv H σ F M Q E tk r s h => WE.of (pe_var (i := i) hN hv hd hcd) ?_⟩
  unfold pVar at h
  split at h
  · rename_i x hx
    obtain ⟨v, h1, h2⟩ := s.at_ i x hx
    exact ⟨v, h1, LQ.now r h2 h⟩
  · exact h.elim
theorem LE.int {i j} : LE X (.Constant (.int i) j pos) (pC (.int i)) := ⟨fun σv H σ F M Q E tk r s h => WE.of pe_int (LQ.now r (.int i) h)⟩
theorem LE.bl {b j} : LE X (.Constant (.bool b) j pos) (pC (.bl b)) := ⟨fun σv H σ F M Q E tk r s h => WE.of pe_bl (LQ.now r (.bl b) h)⟩
theorem LE.non {j} : LE X (.Constant .none j pos) (pC .non) := ⟨fun σv H σ F M Q E tk r s h => WE.of pe_non (LQ.now r .non h)⟩
theorem LE.str {x j} : LE X (.Constant (.str x) j pos) (pC (.str x)) := ⟨fun σv H σ F M Q E tk r s h => WE.of pe_str (LQ.now r (.str x) h)⟩

/-! ### operators -/
abbrev PO2 := PV → PV → Mem → PQ → Prop
def POp (K : PySem.W.Frag) (r : R2) (o : PO2) : Prop := ∀ (F : Hp) (M : Mem) (H : Hp) (x y : PV) (xv yv : V) (Q : PQ) (Qv : VK), RM K F M H → R K F x xv → R K F y yv → o x y M Q →
  (∀ v H', LQ K F M H Q v H' → Qv v H') → r xv yv H Qv
def pBin (o : PO2) (ta tb : PTE) : PTE := fun E σ M Q => ta E σ M fun x M1 => tb E σ M1 fun y M2 => o x y M2 Q
theorem LE.bin {op : Operator} {r : R2} {o : PO2} (ho : OpR X (binaryOp op) r) (hp : POp X.K r o) (ha : LE X a ta) (hb : LE X b tb) : LE X (.BinOp a op b pos) (pBin o ta tb) := by
  refine ⟨fun σv H σ F M Q E tk rm rs h => WE.of (pe_op ho WE.pe WE.pe) ?_⟩
  exact seq2 ha hb tk rm rs h fun x y xv yv F2 M2 H2 bh rx ry h2 => hp F2 M2 H2 x y xv yv Q _ bh.rm rx ry h2 fun v H' q => q.tr bh
theorem LE.cmp {op : CmpOp} {r : R2} {o : PO2} (ho : OpR X (compareOp op) r) (hp : POp X.K r o) (hm : behindInMarks op b = false) (ha : LE X a ta) (hb : LE X b tb) : LE X (.Compare a [op] [b] pos) (pBin o ta tb) := by
  refine ⟨fun σv H σ F M Q E tk rm rs h => WE.of (pe_cmpR ho WE.pe WE.pe hm) ?_⟩
  exact seq2 ha hb tk rm rs h fun x y xv yv F2 M2 H2 bh rx ry h2 => hp F2 M2 H2 x y xv yv Q _ bh.rm rx ry h2 fun v H' q => q.tr bh
/-- a value that is a bool, as a test's -/
def kB (x : PV) (k : Bool → Prop) : Prop := match x with | .bl b => k b | _ => False
theorem kB_bl {b : Bool} {k : Bool → Prop} : kB (.bl b) k = k b := rfl
theorem R.bl_inv {K : PySem.W.Frag} {F : Hp} {x : PV} {v : V} {k : Bool → Prop} (r : R K F x v) (h : kB x k) : ∃ c, v = .bl c ∧ k c := by
  cases r <;> first | exact h.elim | exact ⟨_, rfl, h⟩
def pTest (t : PTE) : PTT := fun E σ M Q => t E σ M fun x M1 => kB x fun b => Q b M1
theorem LT.cmp {op : CmpOp} {r : R2} {o : PO2} (ho : OpR X (compareOp op) r) (hp : POp X.K r o) (hm : behindInMarks op b = false) (ha : LE X a ta) (hb : LE X b tb) : LT X (.Compare a [op] [b] pos) (pTest (pBin o ta tb)) := by
  refine ⟨fun σv H σ F M Q E tk rm rs h => WT.of (pt_cmpR ho WE.pe WE.pe hm) ?_⟩
  refine seq2 ha hb tk rm rs h fun x y xv yv F2 M2 H2 bh rx ry h2 => hp F2 M2 H2 x y xv yv _ _ bh.rm rx ry h2 fun v H' q => ?_
  obtain ⟨F3, M3, z, b3, rz, hz⟩ := q
  obtain ⟨c, rfl, hc⟩ := rz.bl_inv hz
  exact ⟨c, rfl, F3, M3, bh.trans b3, hc⟩
/-- any expression that hands back a bool, as a test -/
theorem LT.val (h : LE X e ta) (he : ∀ whole, isTrue e X.env whole = (do let v ← whole; standAt e.pos; holding [v] (truthy v)) := by intro _; rfl) : LT X e (pTest ta) := by
  refine ⟨fun σv H σ F M Q E tk rm rs hh => WT.of (pt_val WE.pe he) ?_⟩
  refine (h.run σv H σ F M _ E tk rm rs hh).mono ?_
  rintro v H1 ⟨F1, M1, x, b1, rx, hx⟩
  obtain ⟨c, rfl, hc⟩ := rx.bl_inv hx
  exact ⟨c, rfl, F1, M1, b1, hc⟩

/-! ### ints -/
def oI (C : Int → Int → Prop) (g : Int → Int → PV) : PO2 := fun x y M Q => match x, y with | .int i, .int j => C i j ∧ Q (g i j) M | _, _ => False
def oI0 (g : Int → Int → PV) : PO2 := fun x y M Q => match x, y with | .int i, .int j => Q (g i j) M | _, _ => False
theorem pop_I {K : PySem.W.Frag} {C : Int → Int → Prop} {g : Int → Int → PV} {gv : Int → Int → V} (hg : ∀ F i j, R K F (g i j) (gv i j)) : POp K (rI C gv) (oI C g) := by
  intro F M H x y xv yv Q Qv rm rx ry h k
  cases rx <;> cases ry <;> first
    | exact h.elim
    | exact ⟨_, _, rfl, rfl, h.1, k _ _ (LQ.now rm (hg _ _ _) h.2)⟩
theorem pop_I0 {K : PySem.W.Frag} {g : Int → Int → PV} {gv : Int → Int → V} (hg : ∀ F i j, R K F (g i j) (gv i j)) : POp K (rI0 gv) (oI0 g) := by
  intro F M H x y xv yv Q Qv rm rx ry h k
  cases rx <;> cases ry <;> first
    | exact h.elim
    | exact ⟨_, _, rfl, rfl, k _ _ (LQ.now rm (hg _ _ _) h)⟩
abbrev oSub := oI0 fun i j => .int (i - j)
abbrev oMul := oI CMul fun i j => .int (i * j)
abbrev oDiv := oI CDiv fun i j => .int (i / j)
abbrev oMod := oI (fun _ j => 0 < j) fun i j => .int (i % j)
abbrev oPow := oI CPow fun i j => .int (i ^ j.toNat)
abbrev oLt := oI0 fun i j => .bl (decide (i < j))
abbrev oLe := oI0 fun i j => .bl (decide (i ≤ j))
abbrev oGt := oI0 fun i j => .bl (decide (j < i))
abbrev oGe := oI0 fun i j => .bl (decide (j ≤ i))
theorem LE.sub (ha : LE X a ta) (hb : LE X b tb) : LE X (.BinOp a .Sub b pos) (pBin oSub ta tb) := LE.bin op_sub (pop_I0 fun _ _ _ => .int _) ha hb
theorem LE.mul (ha : LE X a ta) (hb : LE X b tb) : LE X (.BinOp a .Mult b pos) (pBin oMul ta tb) := LE.bin op_mul (pop_I fun _ _ _ => .int _) ha hb
theorem LE.div (ha : LE X a ta) (hb : LE X b tb) : LE X (.BinOp a .FloorDiv b pos) (pBin oDiv ta tb) := LE.bin op_fdiv (pop_I fun _ _ _ => .int _) ha hb
theorem LE.mod (ha : LE X a ta) (hb : LE X b tb) : LE X (.BinOp a .Mod b pos) (pBin oMod ta tb) := LE.bin op_mod (pop_I fun _ _ _ => .int _) ha hb
theorem LE.pow (ha : LE X a ta) (hb : LE X b tb) : LE X (.BinOp a .Pow b pos) (pBin oPow ta tb) := LE.bin op_pow (pop_I fun _ _ _ => .int _) ha hb
theorem LE.lt (ha : LE X a ta) (hb : LE X b tb) : LE X (.Compare a [.Lt] [b] pos) (pBin oLt ta tb) := LE.cmp op_lt (pop_I0 fun _ _ _ => .bl _) (nomark _) ha hb
theorem LE.le (ha : LE X a ta) (hb : LE X b tb) : LE X (.Compare a [.LtE] [b] pos) (pBin oLe ta tb) := LE.cmp op_le (pop_I0 fun _ _ _ => .bl _) (nomark _) ha hb
theorem LE.gt (ha : LE X a ta) (hb : LE X b tb) : LE X (.Compare a [.Gt] [b] pos) (pBin oGt ta tb) := LE.cmp op_gt (pop_I0 fun _ _ _ => .bl _) (nomark _) ha hb
theorem LE.ge (ha : LE X a ta) (hb : LE X b tb) : LE X (.Compare a [.GtE] [b] pos) (pBin oGe ta tb) := LE.cmp op_ge (pop_I0 fun _ _ _ => .bl _) (nomark _) ha hb
theorem LT.lt (ha : LE X a ta) (hb : LE X b tb) : LT X (.Compare a [.Lt] [b] pos) (pTest (pBin oLt ta tb)) := LT.cmp op_lt (pop_I0 fun _ _ _ => .bl _) (nomark _) ha hb
theorem LT.le (ha : LE X a ta) (hb : LE X b tb) : LT X (.Compare a [.LtE] [b] pos) (pTest (pBin oLe ta tb)) := LT.cmp op_le (pop_I0 fun _ _ _ => .bl _) (nomark _) ha hb
theorem LT.gt (ha : LE X a ta) (hb : LE X b tb) : LT X (.Compare a [.Gt] [b] pos) (pTest (pBin oGt ta tb)) := LT.cmp op_gt (pop_I0 fun _ _ _ => .bl _) (nomark _) ha hb
theorem LT.ge (ha : LE X a ta) (hb : LE X b tb) : LT X (.Compare a [.GtE] [b] pos) (pTest (pBin oGe ta tb)) := LT.cmp op_ge (pop_I0 fun _ _ _ => .bl _) (nomark _) ha hb
def pNeg (ta : PTE) : PTE := fun E σ M Q => ta E σ M fun x M1 => match x with | .int i => Q (.int (-i)) M1 | _ => False
theorem LE.neg (ha : LE X a ta) : LE X (.UnaryOp .USub a pos) (pNeg ta) := by
  refine ⟨fun σv H σ F M Q E tk rm rs h => WE.of (pe_un un_neg WE.pe) ?_⟩
  refine (ha.run σv H σ F M _ E tk rm rs h).mono ?_
  rintro v H1 ⟨F1, M1, x, b1, rx, hx⟩
  cases rx <;> first
    | exact hx.elim
    | exact ⟨_, rfl, LQ.tr b1 (LQ.now b1.rm (.int _) hx)⟩
/-- a <= b <= c and its like -/
def pChain (p q : Int → Int → Bool) (ta tb tc : PTE) : PTE := fun E σ M Q => ta E σ M fun x M1 => tb E σ M1 fun y M2 => match x, y with
  | .int i, .int j => if p i j = true then tc E σ M2 fun z M3 => match z with | .int l => Q (.bl (q j l)) M3 | _ => False else Q (.bl false) M2
  | _, _ => False
theorem LE.chain {op op' : CmpOp} {p q : Int → Int → Bool} (ho : OpR X (compareOp op) (rI0 fun i j => .bl (p i j))) (ho' : OpR X (compareOp op') (rI0 fun i j => .bl (q i j)))
    (hm : lastMarks [op, op'] [b, c] = false) (ha : LE X a ta) (hb : LE X b tb) (hc : LE X c tc) : LE X (.Compare a [op, op'] [b, c] pos) (pChain p q ta tb tc) := by
  refine ⟨fun σv H σ F M Q E tk rm rs h => WE.of (pe_chain ho ho' WE.pe WE.pe WE.pe hm) ?_⟩
  refine seq2 ha hb tk rm rs h fun x y xv yv F2 M2 H2 bh rx ry h2 => ?_
  cases rx <;> cases ry <;> first
    | exact h2.elim
    | skip
  rename_i i j
  dsimp only at h2
  refine ⟨i, j, rfl, rfl, p i j, rfl, ?_⟩
  split
  · rename_i hp
    rw [if_pos hp] at h2
    refine (hc.run σv H2 σ F2 M2 _ E (tk.tr bh) bh.rm (rs.same bh.sm) h2).mono ?_
    rintro v H3 ⟨F3, M3, z, b3, rz, hz⟩
    cases rz <;> first
      | exact hz.elim
      | exact ⟨j, _, rfl, rfl, LQ.tr (bh.trans b3) (LQ.now b3.rm (.bl _) hz)⟩
  · rename_i hp
    rw [if_neg hp] at h2
    exact LQ.tr bh (LQ.now bh.rm (.bl _) h2)
theorem LE.lele (ha : LE X a ta) (hb : LE X b tb) (hc : LE X c tc) (hm : lastMarks [CmpOp.LtE, CmpOp.LtE] [b, c] = false := by with_unfolding_all rfl) : LE X (.Compare a [.LtE, .LtE] [b, c] pos) (pChain (fun i j => decide (i ≤ j)) (fun i j => decide (i ≤ j)) ta tb tc) :=
  LE.chain op_le op_le hm ha hb hc
/-! ### is None -/
def isNon : PV → Bool | .non => true | _ => false
theorem R.isNon {K : PySem.W.Frag} {F : Hp} {x : PV} {v : V} (r : R K F x v) : decide (v = .non) = isNon x := by
  cases r <;> rfl
def pIsN (ta : PTE) : PTE := fun E σ M Q => ta E σ M fun x M1 => Q (.bl (isNon x)) M1
def pNotN (ta : PTE) : PTE := fun E σ M Q => ta E σ M fun x M1 => Q (.bl (!isNon x)) M1
def pTIsN (ta : PTE) : PTT := fun E σ M Q => ta E σ M fun x M1 => Q (isNon x) M1
def pTNotN (ta : PTE) : PTT := fun E σ M Q => ta E σ M fun x M1 => Q (!isNon x) M1
theorem LE.isN {j pos'} (ha : LE X a ta) : LE X (.Compare a [.Is] [.Constant .none j pos'] pos) (pIsN ta) := by
  refine ⟨fun σv H σ F M Q E tk rm rs h => WE.of (pe_cmp (pc_isN WE.pe)) ?_⟩
  refine (ha.run σv H σ F M _ E tk rm rs h).mono ?_
  rintro v H1 ⟨F1, M1, x, b1, rx, hx⟩
  exact ⟨F1, M1, _, b1, by rw [rx.isNon]; exact .bl _, hx⟩
theorem LE.notN {j pos'} (ha : LE X a ta) : LE X (.Compare a [.IsNot] [.Constant .none j pos'] pos) (pNotN ta) := by
  refine ⟨fun σv H σ F M Q E tk rm rs h => WE.of (pe_cmp (pc_notN WE.pe)) ?_⟩
  refine (ha.run σv H σ F M _ E tk rm rs h).mono ?_
  rintro v H1 ⟨F1, M1, x, b1, rx, hx⟩
  exact ⟨F1, M1, _, b1, by rw [rx.isNon]; exact .bl _, hx⟩
theorem LT.isN {j pos'} (ha : LE X a ta) : LT X (.Compare a [.Is] [.Constant .none j pos'] pos) (pTIsN ta) := by
  refine ⟨fun σv H σ F M Q E tk rm rs h => WT.of (pt_cmp (pc_isN WE.pe)) ?_⟩
  refine (ha.run σv H σ F M _ E tk rm rs h).mono ?_
  rintro v H1 ⟨F1, M1, x, b1, rx, hx⟩
  exact ⟨_, by rw [rx.isNon], F1, M1, b1, hx⟩
theorem LT.notN {j pos'} (ha : LE X a ta) : LT X (.Compare a [.IsNot] [.Constant .none j pos'] pos) (pTNotN ta) := by
  refine ⟨fun σv H σ F M Q E tk rm rs h => WT.of (pt_cmp (pc_notN WE.pe)) ?_⟩
  refine (ha.run σv H σ F M _ E tk rm rs h).mono ?_
  rintro v H1 ⟨F1, M1, x, b1, rx, hx⟩
  exact ⟨_, by rw [rx.isNon], F1, M1, b1, hx⟩
/-! ### and, or, not -/
variable {rest : List Expr} {tt tu : PTT}
def pAnd (t u : PTT) : PTT := fun E σ M Q => t E σ M fun c M1 => if c = true then u E σ M1 Q else Q false M1
def pOr (t u : PTT) : PTT := fun E σ M Q => t E σ M fun c M1 => if c = true then Q true M1 else u E σ M1 Q
def pNot (t : PTT) : PTT := fun E σ M Q => t E σ M fun c M1 => Q (!c) M1
theorem LW.and1 (ha : LT X a tt) : LW X (.BoolOp .And [a] pos) tt := ⟨fun σv H σ F M Q E tk rm rs h => WW.of (pw_and1 WT.pt) (ha.run σv H σ F M Q E tk rm rs h)⟩
theorem LW.or1 (ha : LT X a tt) : LW X (.BoolOp .Or [a] pos) tt := ⟨fun σv H σ F M Q E tk rm rs h => WW.of (pw_or1 WT.pt) (ha.run σv H σ F M Q E tk rm rs h)⟩
theorem LW.and (ha : LT X a tt) (hb : LW X (.BoolOp .And (b :: rest) pos) tu) : LW X (.BoolOp .And (a :: b :: rest) pos) (pAnd tt tu) := by
  refine ⟨fun σv H σ F M Q E tk rm rs h => WW.of (pw_and WT.pt WW.pw) ?_⟩
  refine (ha.run σv H σ F M _ E tk rm rs h).mono ?_
  rintro c H1 ⟨F1, M1, b1, hc⟩
  split
  · rename_i e
    rw [if_pos e] at hc
    exact (hb.run σv H1 σ F1 M1 _ E (tk.tr b1) b1.rm (rs.same b1.sm) hc).mono fun v H' q => q.tr b1
  · rename_i e
    rw [if_neg e] at hc
    exact ⟨F1, M1, b1, hc⟩
theorem LW.or (ha : LT X a tt) (hb : LW X (.BoolOp .Or (b :: rest) pos) tu) : LW X (.BoolOp .Or (a :: b :: rest) pos) (pOr tt tu) := by
  refine ⟨fun σv H σ F M Q E tk rm rs h => WW.of (pw_or WT.pt WW.pw) ?_⟩
  refine (ha.run σv H σ F M _ E tk rm rs h).mono ?_
  rintro c H1 ⟨F1, M1, b1, hc⟩
  split
  · rename_i e
    rw [if_pos e] at hc
    exact ⟨F1, M1, b1, hc⟩
  · rename_i e
    rw [if_neg e] at hc
    exact (hb.run σv H1 σ F1 M1 _ E (tk.tr b1) b1.rm (rs.same b1.sm) hc).mono fun v H' q => q.tr b1
theorem LT.not (ha : LT X a tt) : LT X (.UnaryOp .Not a pos) (pNot tt) := by
  refine ⟨fun σv H σ F M Q E tk rm rs h => WT.of (pt_not WT.pt) ?_⟩
  refine (ha.run σv H σ F M _ E tk rm rs h).mono ?_
  rintro c H1 ⟨F1, M1, b1, hc⟩
  exact ⟨F1, M1, b1, hc⟩
def pAndV (ta tb : PTE) : PTE := fun E σ M Q => ta E σ M fun x M1 => kB x fun c => if c = true then tb E σ M1 Q else Q (.bl false) M1
def pOrV (ta tb : PTE) : PTE := fun E σ M Q => ta E σ M fun x M1 => kB x fun c => if c = true then Q (.bl true) M1 else tb E σ M1 Q
def pNotV (ta : PTE) : PTE := fun E σ M Q => ta E σ M fun x M1 => kB x fun c => Q (.bl (!c)) M1
theorem LE.one {op} (ha : LE X a ta) : LE X (.BoolOp op [a] pos) ta := ⟨fun σv H σ F M Q E tk rm rs h => WE.of (pe_one WE.pe) (ha.run σv H σ F M Q E tk rm rs h)⟩
theorem LE.and (ha : LE X a ta) (hb : LE X (.BoolOp .And (b :: rest) pos) tb) : LE X (.BoolOp .And (a :: b :: rest) pos) (pAndV ta tb) := by
  refine ⟨fun σv H σ F M Q E tk rm rs h => WE.of (pe_and WE.pe WE.pe) ?_⟩
  refine (ha.run σv H σ F M _ E tk rm rs h).mono ?_
  rintro v H1 ⟨F1, M1, x, b1, rx, hx⟩
  obtain ⟨c, rfl, hc⟩ := rx.bl_inv hx
  refine ⟨c, rfl, ?_⟩
  split
  · rename_i e
    rw [if_pos e] at hc
    exact (hb.run σv H1 σ F1 M1 _ E (tk.tr b1) b1.rm (rs.same b1.sm) hc).mono fun v H' q => q.tr b1
  · rename_i e
    rw [if_neg e] at hc
    exact ⟨F1, M1, _, b1, .bl _, hc⟩
theorem LE.or (ha : LE X a ta) (hb : LE X (.BoolOp .Or (b :: rest) pos) tb) : LE X (.BoolOp .Or (a :: b :: rest) pos) (pOrV ta tb) := by
  refine ⟨fun σv H σ F M Q E tk rm rs h => WE.of (pe_or WE.pe WE.pe) ?_⟩
  refine (ha.run σv H σ F M _ E tk rm rs h).mono ?_
  rintro v H1 ⟨F1, M1, x, b1, rx, hx⟩
  obtain ⟨c, rfl, hc⟩ := rx.bl_inv hx
  refine ⟨c, rfl, ?_⟩
  split
  · rename_i e
    rw [if_pos e] at hc
    exact ⟨F1, M1, _, b1, .bl _, hc⟩
  · rename_i e
    rw [if_neg e] at hc
    exact (hb.run σv H1 σ F1 M1 _ E (tk.tr b1) b1.rm (rs.same b1.sm) hc).mono fun v H' q => q.tr b1
theorem LE.not (ha : LE X a ta) : LE X (.UnaryOp .Not a pos) (pNotV ta) := by
  refine ⟨fun σv H σ F M Q E tk rm rs h => WE.of (pe_not WE.pe) ?_⟩
  refine (ha.run σv H σ F M _ E tk rm rs h).mono ?_
  rintro v H1 ⟨F1, M1, x, b1, rx, hx⟩
  obtain ⟨c, rfl, hc⟩ := rx.bl_inv hx
  exact ⟨c, rfl, F1, M1, _, b1, .bl _, hc⟩
def pIf (t : PTT) (ta tb : PTE) : PTE := fun E σ M Q => t E σ M fun c M1 => if c = true then ta E σ M1 Q else tb E σ M1 Q
theorem LE.ifE (hc : LT X c tt) (ha : LE X a ta) (hb : LE X b tb) : LE X (.IfExp c a b pos) (pIf tt ta tb) := by
  refine ⟨fun σv H σ F M Q E tk rm rs h => WE.of (pe_ifExp WT.pt WE.pe WE.pe) ?_⟩
  refine (hc.run σv H σ F M _ E tk rm rs h).mono ?_
  rintro c H1 ⟨F1, M1, b1, hc⟩
  split
  · rename_i e
    rw [if_pos e] at hc
    exact (ha.run σv H1 σ F1 M1 _ E (tk.tr b1) b1.rm (rs.same b1.sm) hc).mono fun v H' q => q.tr b1
  · rename_i e
    rw [if_neg e] at hc
    exact (hb.run σv H1 σ F1 M1 _ E (tk.tr b1) b1.rm (rs.same b1.sm) hc).mono fun v H' q => q.tr b1
/-! ### argument lists, displays -/
variable {es : List Expr} {t : PTA}
def pNil : PTA := fun _ _ M Q => Q [] M
def pCons (ta : PTE) (tr : PTA) : PTA := fun E σ M Q => ta E σ M fun x M1 => tr E σ M1 fun xs M2 => Q (x :: xs) M2
theorem LA.nil : LA X [] pNil := ⟨fun σv H σ F M Q E tk rm rs h => WA.of pa_nil ⟨rfl, F, M, [], Beh.refl rm, .nil, h⟩⟩
theorem LA.cons (ha : LE X e ta) (hr : LA X es t) (hs : starEach (e :: es) X.env = (false, eval e X.env) :: starEach es X.env := by rfl) : LA X (e :: es) (pCons ta t) := by
  refine ⟨fun σv H σ F M Q E tk rm rs h => WA.of (pa_cons WE.pe WA.pa hs) ?_⟩
  refine (ha.run σv H σ F M _ E tk rm rs h).mono ?_
  rintro v H1 ⟨F1, M1, x, b1, rx, hx⟩
  refine (hr.run σv H1 σ F1 M1 _ E (tk.tr b1) b1.rm (rs.same b1.sm) hx).mono ?_
  rintro vs H2 ⟨hl, F2, M2, xs, b2, rxs, hxs⟩
  exact ⟨congrArg (· + 1) hl, F2, M2, _, b1.trans b2, .cons (rx.same b2.sm) rxs, hxs⟩
def pTup (t : PTA) : PTE := fun E σ M Q => t E σ M fun xs M1 => Q (.tup xs) M1
def pLst (t : PTA) : PTE := fun E σ M Q => t E σ M fun xs M1 => Q (.lst xs) M1
def pLstM (t : PTA) : PTE := fun E σ M Q => t E σ M fun xs M1 => ∀ p, M1 p = none → Q (.ptr p) (M1.put p (.lst xs))
theorem LE.tup {x1} (h : LA X es t) (hn : es.length ≤ 1000 := by decide) : LE X (.Tuple es x1 pos) (pTup t) := by
  refine ⟨fun σv H σ F M Q E tk rm rs hh => WE.of (pe_tup WA.pa) ?_⟩
  refine (h.run σv H σ F M _ E tk rm rs hh).mono ?_
  rintro vs H1 ⟨hl, F1, M1, xs, b1, rx, hx⟩
  refine ⟨by rw [hl]; exact Nat.le_of_lt (small1000 hn), fun p np => ?_⟩
  exact ⟨_, M1, _, b1.trans (b1.rm.beh np), .tup (SqT.of upd_same) (rx.same (b1.rm.beh (o := .tup vs) np).sm), hx⟩
theorem LE.lst (h : LA X es t) (hn : es.length ≤ 1000 := by decide) : LE X (.List es pos) (pLst t) := by
  refine ⟨fun σv H σ F M Q E tk rm rs hh => WE.of (pe_lst WA.pa) ?_⟩
  refine (h.run σv H σ F M _ E tk rm rs hh).mono ?_
  rintro vs H1 ⟨hl, F1, M1, xs, b1, rx, hx⟩
  refine ⟨by rw [hl]; exact Nat.le_of_lt (small1000 hn), fun p np => ?_⟩
  exact ⟨_, M1, _, b1.trans (b1.rm.beh np), .lst upd_same (rx.same (b1.rm.beh (o := .lst vs) np).sm), hx⟩
theorem LE.lstM (h : LA X es t) (hn : es.length ≤ 1000 := by decide) : LE X (.List es pos) (pLstM t) := by
  refine ⟨fun σv H σ F M Q E tk rm rs hh => WE.of (pe_lst WA.pa) ?_⟩
  refine (h.run σv H σ F M _ E tk rm rs hh).mono ?_
  rintro vs H1 ⟨hl, F1, M1, xs, b1, rx, hx⟩
  refine ⟨by rw [hl]; exact Nat.le_of_lt (small1000 hn), fun p np => ?_⟩
  exact ⟨_, _, _, b1.trans (b1.rm.behNew np (.lst rx)), .ptr p, hx p (b1.rm.nones np).2⟩
end
end PL
set_option Elab.async false
set_option linter.all false
set_option maxRecDepth 100000
namespace PL
open PySem PySem.Spec PyProof.Rows L2

/-! ### sequences -/
def seqOf (M : Mem) : PV → Option (List PV)
  | .tup xs => some xs
  | .lst xs => some xs
  | .scr xs => some xs
  | .ptr a => match M a with | some (.lst xs) => some xs | _ => none
  | _ => none
def lstOf (M : Mem) : PV → Option (List PV)
  | .lst xs => some xs
  | .scr xs => some xs
  | .ptr a => match M a with | some (.lst xs) => some xs | _ => none
  | _ => none
theorem seqOf_ptr {M : Mem} {a : Addr} {xs : List PV} (h : M a = some (.lst xs)) : seqOf M (.ptr a) = some xs := by
  show (match M a with | some (.lst xs) => some xs | _ => none) = some xs
  rw [h]
theorem lstOf_ptr {M : Mem} {a : Addr} {xs : List PV} (h : M a = some (.lst xs)) : lstOf M (.ptr a) = some xs := by
  show (match M a with | some (.lst xs) => some xs | _ => none) = some xs
  rw [h]
section
variable {K : PySem.W.Frag} {F H : Hp} {M : Mem} {x : PV} {v : V} {xs : List PV}
theorem R.lstI (rm : RM K F M H) (r : R K F x v) (h : lstOf M x = some xs) : ∃ a vs, v = .ref a ∧ SqL K H a vs ∧ RAll K F xs vs := by
  cases r with
  | lst e q => cases h; exact ⟨_, _, rfl, SqL.of (rm.fr _ _ e), q⟩
  | scr e q => cases h; exact ⟨_, _, rfl, rm.fr.seq e, q⟩
  | ptr a =>
    cases hm : M a with
    | none =>
      have h' : (match M a with | some (.lst xs) => some xs | _ => none) = some xs := h
      rw [hm] at h'
      cases h'
    | some m =>
      have h' : (match M a with | some (.lst xs) => some xs | _ => none) = some xs := h
      rw [hm] at h'
      cases m with
      | lst ys =>
        cases h'
        obtain ⟨o, e1, q⟩ := rm.mu _ _ hm
        cases q with
        | lst q => exact ⟨_, _, rfl, SqL.of e1, q⟩
      | obj C fs => cases h'
  | _ => cases h
theorem lstOf_seq {M : Mem} (h : lstOf M x = some xs) : seqOf M x = some xs := by
  cases x <;> first | exact h | cases h
theorem R.seqI (rm : RM K F M H) (r : R K F x v) (h : seqOf M x = some xs) : ∃ a vs, v = .ref a ∧ (SqL K H a vs ∨ SqT K H a vs) ∧ RAll K F xs vs := by
  cases r with
  | tup e q => cases h; exact ⟨_, _, rfl, .inr (sqT_same rm.fr e), q⟩
  | lst e q => cases h; exact ⟨_, _, rfl, .inl (SqL.of (rm.fr _ _ e)), q⟩
  | scr e q => cases h; exact ⟨_, _, rfl, .inl (rm.fr.seq e), q⟩
  | ptr a =>
    obtain ⟨a', vs, e, q, r⟩ := R.lstI (x := .ptr a) rm (.ptr a) h
    exact ⟨a', vs, e, .inl q, r⟩
  | _ => cases h
theorem RAll.atI {vs : List V} {i : Int} {x : PV} (r : RAll K F xs vs) (h : atI xs i = some x) : ∃ v, L2.atI vs i = some v ∧ R K F x v := by
  unfold L2.atI at h ⊢
  rw [← r.length]
  cases q : ixN xs.length i with
  | none => rw [q] at h; cases h
  | some j =>
    rw [q] at h
    obtain ⟨v, h1, h2⟩ := r.get (i := j) h
    exact ⟨v, h1, h2⟩
end

/-! ### calls of what is built in -/
abbrev POn := List PV → Mem → PQ → Prop
def POc (K : PySem.W.Frag) (r : List V → Hp → VK → Prop) (o : POn) : Prop := ∀ (F : Hp) (M : Mem) (H : Hp) (xs : List PV) (vs : List V) (Q : PQ) (Qv : VK), RM K F M H → RAll K F xs vs → o xs M Q →
  (∀ v H', LQ K F M H Q v H' → Qv v H') → r vs H Qv
def pCallB (o : POn) (t : PTA) : PTE := fun E σ M Q => t E σ M fun xs M1 => o xs M1 Q
section
variable {X : Cx} {a b c e : Expr} {ta tb tc : PTE} {pos p : Pos} {es : List Expr} {t : PTA} {x : Str} {id T : String} {r : List V → Hp → VK → Prop} {o : POn}
theorem LE.callB (hc : CallR X (.builtin id) r) (hp : POc X.K r o) (hg : Gl X x) (hm : X.mg x = none) (hv : bootBuiltins x = some (.builtin id)) (ha : LA X (e :: es) t) (hn : x ≠ "__name__" := by decide) (hdb : (x == ("__debug__" : Str)) = false := by decide)
    (he : starEach (e :: es) X.env = (false, eval e X.env) :: starEach es X.env := by rfl) (hpl : (backTo pos (starEach es X.env)).any (·.1) = false := by rfl) : LE X (.Call (.Name x p) (e :: es) [] pos) (pCallB o t) := by
  refine ⟨fun σv H σ F M Q E tk rm rs h => WE.of (pe_callB hc hg hm hv WA.pa hn hdb he hpl) ?_⟩
  refine (ha.run σv H σ F M _ E tk rm rs h).mono ?_
  rintro vs H1 ⟨hl, F1, M1, xs, b1, rx, hx⟩
  exact hp F1 M1 H1 xs vs Q _ b1.rm rx hx fun v H' q => q.tr b1
theorem LE.callT (hc : CallR X (.type T) r) (hp : POc X.K r o) (hg : Gl X x) (hm : X.mg x = none) (hv : bootBuiltins x = some (.type T)) (ha : LA X (e :: es) t) (hn : x ≠ "__name__" := by decide) (hdb : (x == ("__debug__" : Str)) = false := by decide)
    (he : starEach (e :: es) X.env = (false, eval e X.env) :: starEach es X.env := by rfl) (hpl : (backTo pos (starEach es X.env)).any (·.1) = false := by rfl) : LE X (.Call (.Name x p) (e :: es) [] pos) (pCallB o t) := by
  refine ⟨fun σv H σ F M Q E tk rm rs h => WE.of (pe_callTy hc hg hm hv WA.pa hn hdb he hpl) ?_⟩
  refine (ha.run σv H σ F M _ E tk rm rs h).mono ?_
  rintro vs H1 ⟨hl, F1, M1, xs, b1, rx, hx⟩
  exact hp F1 M1 H1 xs vs Q _ b1.rm rx hx fun v H' q => q.tr b1
theorem RAll.one {K : PySem.W.Frag} {F : Hp} {x : PV} {vs : List V} (r : RAll K F [x] vs) : ∃ v, vs = [v] ∧ R K F x v := by
  cases r with
  | cons r t => cases t; exact ⟨_, rfl, r⟩
theorem RAll.two {K : PySem.W.Frag} {F : Hp} {x y : PV} {vs : List V} (r : RAll K F [x, y] vs) : ∃ v w, vs = [v, w] ∧ R K F x v ∧ R K F y w := by
  cases r with
  | cons r t =>
    obtain ⟨w, e, q⟩ := t.one
    subst e
    exact ⟨_, _, rfl, r, q⟩
/-- one argument -/
def on1 (k : PV → Mem → PQ → Prop) : POn := fun xs M Q => match xs with | [x] => k x M Q | _ => False
def on2 (k : PV → PV → Mem → PQ → Prop) : POn := fun xs M Q => match xs with | [x, y] => k x y M Q | _ => False
theorem on1_of {k : PV → Mem → PQ → Prop} {xs : List PV} {M : Mem} {Q : PQ} (h : on1 k xs M Q) : ∃ x, xs = [x] ∧ k x M Q := by
  unfold on1 at h; split at h
  · exact ⟨_, rfl, h⟩
  · exact h.elim
theorem on2_of {k : PV → PV → Mem → PQ → Prop} {xs : List PV} {M : Mem} {Q : PQ} (h : on2 k xs M Q) : ∃ x y, xs = [x, y] ∧ k x y M Q := by
  unfold on2 at h; split at h
  · exact ⟨_, _, rfl, h⟩
  · exact h.elim
def kLen (x : PV) (M : Mem) (Q : PQ) : Prop := match x with
  | .str y => y.length ≤ sizeLine ∧ Q (.int y.length) M
  | x => need (seqOf M x) fun xs => Q (.int xs.length) M
theorem LE.len (hg : Gl X "len") (hm : X.mg "len" = none) (ha : LA X [e] t) (he : starEach [e] X.env = (false, eval e X.env) :: starEach [] X.env := by rfl) : LE X (.Call (.Name "len" p) [e] [] pos) (pCallB (on1 kLen) t) := by
  refine LE.callB call_len (fun F M H xs vs Q Qv rm rx h k => ?_) hg hm PySem.boot_len ha (he := he)
  obtain ⟨x, ex, h1⟩ := on1_of h
  subst ex
  obtain ⟨v, ev, rx1⟩ := rx.one
  subst ev
  unfold kLen at h1
  split at h1
  · rename_i y
    cases rx1
    exact ⟨_, _, rfl, ⟨h1.1, rfl⟩, k _ _ (LQ.now rm (.int _) h1.2)⟩
  · obtain ⟨ys, e, h2⟩ := need_of h1
    obtain ⟨q, ws, ev, hs, ra⟩ := rx1.seqI rm e
    subst ev
    refine ⟨_, _, rfl, ?_, k _ _ (LQ.now rm (.int _) h2)⟩
    rcases hs with hs | hs
    · exact .inl ⟨ws, hs, ra.length⟩
    · exact .inr ⟨ws, hs, ra.length⟩
def kAbs (x : PV) (M : Mem) (Q : PQ) : Prop := match x with | .int i => Q (.int (if i < 0 then -i else i)) M | _ => False
theorem LE.abs (hg : Gl X "abs") (hm : X.mg "abs" = none) (ha : LA X [e] t) (he : starEach [e] X.env = (false, eval e X.env) :: starEach [] X.env := by rfl) : LE X (.Call (.Name "abs" p) [e] [] pos) (pCallB (on1 kAbs) t) := by
  refine LE.callB call_abs (fun F M H xs vs Q Qv rm rx h k => ?_) hg hm (by decide +kernel) ha (he := he)
  obtain ⟨x, ex, h1⟩ := on1_of h
  subst ex
  obtain ⟨v, ev, rx1⟩ := rx.one
  subst ev
  cases rx1 <;> first
    | exact h1.elim
    | exact ⟨_, rfl, k _ _ (LQ.now rm (.int _) h1)⟩
def kInt (x : PV) (M : Mem) (Q : PQ) : Prop := match x with | .int i => Q (.int i) M | .bl b => Q (.int (if b then 1 else 0)) M | _ => False
theorem LE.intOf (hg : Gl X "int") (hm : X.mg "int" = none) (ha : LA X [e] t) (he : starEach [e] X.env = (false, eval e X.env) :: starEach [] X.env := by rfl) : LE X (.Call (.Name "int" p) [e] [] pos) (pCallB (on1 kInt) t) := by
  refine LE.callT call_int1 (fun F M H xs vs Q Qv rm rx h k => ?_) hg hm (by decide +kernel) ha (he := he)
  obtain ⟨x, ex, h1⟩ := on1_of h
  subst ex
  obtain ⟨v, ev, rx1⟩ := rx.one
  subst ev
  cases rx1 <;> first
    | exact h1.elim
    | exact .inl ⟨_, rfl, k _ _ (LQ.now rm (.int _) h1)⟩
    | exact .inr ⟨_, rfl, k _ _ (LQ.now rm (.int _) h1)⟩
def kMin2 (x y : PV) (M : Mem) (Q : PQ) : Prop := match x, y with | .int i, .int j => Q (.int (if j < i then j else i)) M | _, _ => False
def kMax2 (x y : PV) (M : Mem) (Q : PQ) : Prop := match x, y with | .int i, .int j => Q (.int (if j > i then j else i)) M | _, _ => False
theorem LE.min2 (hc : X.calm = true) (hg : Gl X "min") (hm : X.mg "min" = none) (ha : LA X [a, b] t) (he : starEach [a, b] X.env = (false, eval a X.env) :: starEach [b] X.env := by rfl) (hpl : (backTo pos (starEach [b] X.env)).any (·.1) = false := by rfl) : LE X (.Call (.Name "min" p) [a, b] [] pos) (pCallB (on2 kMin2) t) := by
  refine LE.callB (call_min2 hc) (fun F M H xs vs Q Qv rm rx h k => ?_) hg hm (by decide +kernel) ha (he := he) (hpl := hpl)
  obtain ⟨x, y, ex, h1⟩ := on2_of h
  subst ex
  obtain ⟨v, w, ev, rx1, ry1⟩ := rx.two
  subst ev
  cases rx1 <;> cases ry1 <;> first
    | exact h1.elim
    | exact ⟨_, _, rfl, k _ _ (LQ.now rm (.int _) h1)⟩
theorem LE.max2 (hc : X.calm = true) (hg : Gl X "max") (hm : X.mg "max" = none) (ha : LA X [a, b] t) (he : starEach [a, b] X.env = (false, eval a X.env) :: starEach [b] X.env := by rfl) (hpl : (backTo pos (starEach [b] X.env)).any (·.1) = false := by rfl) : LE X (.Call (.Name "max" p) [a, b] [] pos) (pCallB (on2 kMax2) t) := by
  refine LE.callB (call_max2 hc) (fun F M H xs vs Q Qv rm rx h k => ?_) hg hm (by decide +kernel) ha (he := he) (hpl := hpl)
  obtain ⟨x, y, ex, h1⟩ := on2_of h
  subst ex
  obtain ⟨v, w, ev, rx1, ry1⟩ := rx.two
  subst ev
  cases rx1 <;> cases ry1 <;> first
    | exact h1.elim
    | exact ⟨_, _, rfl, k _ _ (LQ.now rm (.int _) h1)⟩
/-! ### list(x), tuple(x) -/
def kList (x : PV) (M : Mem) (Q : PQ) : Prop := need (seqOf M x) fun xs => Q (.lst xs) M
def kListM (x : PV) (M : Mem) (Q : PQ) : Prop := need (seqOf M x) fun xs => ∀ p, M p = none → Q (.ptr p) (M.put p (.lst xs))
def kTup (x : PV) (M : Mem) (Q : PQ) : Prop := need (seqOf M x) fun xs => Q (.tup xs) M
theorem LE.list (hg : Gl X "list") (hm : X.mg "list" = none) (ha : LA X [e] t) (he : starEach [e] X.env = (false, eval e X.env) :: starEach [] X.env := by rfl) : LE X (.Call (.Name "list" p) [e] [] pos) (pCallB (on1 kList) t) := by
  refine LE.callT call_list_of (fun F M H xs vs Q Qv rm rx h k => ?_) hg hm (by decide +kernel) ha (he := he)
  obtain ⟨x, ex, h1⟩ := on1_of h
  subst ex
  obtain ⟨v, ev, rx1⟩ := rx.one
  subst ev
  obtain ⟨ys, e, h2⟩ := need_of h1
  obtain ⟨q, ws, ev, hs, ra⟩ := rx1.seqI rm e
  subst ev
  refine ⟨q, ws, rfl, hs, fun l nl => k _ _ ⟨_, M, _, rm.beh nl, .lst upd_same (ra.same (rm.beh (o := .lst ws) nl).sm), h2⟩⟩
theorem LE.listM (hg : Gl X "list") (hm : X.mg "list" = none) (ha : LA X [e] t) (he : starEach [e] X.env = (false, eval e X.env) :: starEach [] X.env := by rfl) : LE X (.Call (.Name "list" p) [e] [] pos) (pCallB (on1 kListM) t) := by
  refine LE.callT call_list_of (fun F M H xs vs Q Qv rm rx h k => ?_) hg hm (by decide +kernel) ha (he := he)
  obtain ⟨x, ex, h1⟩ := on1_of h
  subst ex
  obtain ⟨v, ev, rx1⟩ := rx.one
  subst ev
  obtain ⟨ys, e, h2⟩ := need_of h1
  obtain ⟨q, ws, ev, hs, ra⟩ := rx1.seqI rm e
  subst ev
  refine ⟨q, ws, rfl, hs, fun l nl => k _ _ ⟨_, _, _, rm.behNew nl (.lst ra), .ptr l, h2 l (rm.nones nl).2⟩⟩
theorem LE.tupOf (hg : Gl X "tuple") (hm : X.mg "tuple" = none) (ha : LA X [e] t) (he : starEach [e] X.env = (false, eval e X.env) :: starEach [] X.env := by rfl) : LE X (.Call (.Name "tuple" p) [e] [] pos) (pCallB (on1 kTup) t) := by
  refine LE.callT call_tuple_of (fun F M H xs vs Q Qv rm rx h k => ?_) hg hm (by decide +kernel) ha (he := he)
  obtain ⟨x, ex, h1⟩ := on1_of h
  subst ex
  obtain ⟨v, ev, rx1⟩ := rx.one
  subst ev
  obtain ⟨ys, e, h2⟩ := need_of h1
  have li : lstOf M x = some ys → ∃ p zs, [v] = [V.ref p] ∧ ((SqL X.K H p zs ∧ ∀ l, H l = none → Qv (.ref l) (upd H l (.tup zs))) ∨ (SqT X.K H p zs ∧ Qv (.ref p) H)) := fun e' => by
    obtain ⟨q, ws, ev, hs, ra⟩ := rx1.lstI rm e'
    subst ev
    exact ⟨q, ws, rfl, .inl ⟨hs, fun l nl => k _ _ ⟨_, M, _, rm.beh nl, .tup (SqT.of upd_same) (ra.same (rm.beh (o := .tup ws) nl).sm), h2⟩⟩⟩
  cases rx1 with
  | tup e' q' =>
    cases e
    exact ⟨_, _, rfl, .inr ⟨sqT_same rm.fr e', k _ _ (LQ.now rm (.tup e' q') h2)⟩⟩
  | lst e' q' => exact li e
  | scr e' q' => exact li e
  | ptr a => exact li e
  | _ => cases e
/-! ### subscripts -/
def oIx : PO2 := fun x y M Q => match y with
  | .int i => match x with
    | .str z => z.length ≤ sizeLine ∧ need (L2.atI z.cps.toList i) fun c => Q (.str ⟨#[c]⟩) M
    | x => need (seqOf M x) fun xs => need (L2.atI xs i) fun z => Q z M
  | _ => False
theorem LE.ix (ha : LE X a ta) (hb : LE X b tb) (hs : PlainIx b := by exact fun _ _ => rfl) : LE X (.Subscript a b pos) (pBin oIx ta tb) := by
  refine ⟨fun σv H σ F M Q E tk rm rs h => WE.of (pe_ix ix_seq WE.pe WE.pe hs) ?_⟩
  refine seq2 ha hb tk rm rs h fun x y xv yv F2 M2 H2 bh rx ry h2 => ?_
  unfold oIx at h2
  split at h2
  · rename_i i
    cases ry
    split at h2
    · rename_i z
      cases rx
      obtain ⟨h3, h4⟩ := h2
      obtain ⟨c, e, h5⟩ := need_of h4
      exact .inr (.inr ⟨z, i, c, rfl, rfl, h3, e, LQ.tr bh (LQ.now bh.rm (.str _) h5)⟩)
    · obtain ⟨ys, e, h3⟩ := need_of h2
      obtain ⟨z, e2, h4⟩ := need_of h3
      obtain ⟨q, ws, ev, hs, ra⟩ := rx.seqI bh.rm e
      subst ev
      obtain ⟨w, e3, rz⟩ := ra.atI e2
      rcases hs with hs | hs
      · exact .inl ⟨q, ws, i, w, rfl, rfl, hs, e3, LQ.tr bh (LQ.now bh.rm rz h4)⟩
      · exact .inr (.inl ⟨q, ws, i, w, rfl, rfl, hs, e3, LQ.tr bh (LQ.now bh.rm rz h4)⟩)
  · exact h2.elim
/-! ### slices -/
abbrev PTO := PXK → PSt → Mem → (Option Int → Mem → Prop) → Prop
structure LO (X : Cx) (e : Option Expr) (t : PTO) : Prop where
  run : ∀ (σv : L2.St) (H : Hp) (σ : PSt) (F : Hp) (M : Mem) (Q : Option Int → Mem → Prop) (E : PXK), PTk X F M H E → RM X.K F M H → RS X.K F σ σv → t E σ M Q →
    ∀ pins s, Inv X pins σv H s → wpAny (model X.prog X.w) X.A (evalPart e X.env) (fun u s' => ∃ o H', Inv X pins σv H' s' ∧ IsPart u o ∧ ∃ F' M', Beh X.K F M H F' M' H' ∧ Q o M') X.xe s
def pNoPart : PTO := fun _ _ M Q => Q none M
def pPart (t : PTE) : PTO := fun E σ M Q => t E σ M fun x M1 => match x with | .int i => Q (some i) M1 | _ => False
theorem LO.none : LO X none pNoPart := ⟨fun σv H σ F M Q E tk rm rs h pins s I => thn (po_none.run pins s σv H (fun o H' => ∃ F' M', Beh X.K F M H F' M' H' ∧ Q o M') I ⟨F, M, Beh.refl rm, h⟩) fun _ _ q => q⟩
theorem LO.some (ha : LE X e ta) : LO X (some e) (pPart ta) := by
  refine ⟨fun σv H σ F M Q E tk rm rs h pins s I => thn ((po_some WE.pe).run pins s σv H (fun o H' => ∃ F' M', Beh X.K F M H F' M' H' ∧ Q o M') I ?_) fun _ _ q => q⟩
  refine (ha.run σv H σ F M _ E tk rm rs h).mono ?_
  rintro v H1 ⟨F1, M1, x, b1, rx, hx⟩
  cases rx <;> first
    | exact hx.elim
    | exact ⟨_, rfl, F1, M1, b1, hx⟩
def WO (X : Cx) (e : Option Expr) (σ : L2.St) (H : Hp) (Q : Option Int → Hp → Prop) : Prop := ∀ pins s, Inv X pins σ H s → wpAny (model X.prog X.w) X.A (evalPart e X.env) (fun u s' => ∃ o H', Inv X pins σ H' s' ∧ IsPart u o ∧ Q o H') X.xe s
theorem WO.po {e : Option Expr} : L2.PO X e (WO X e) := ⟨fun pins s σ H Q I h => h pins s I⟩
def cutP (xs : List PV) (lo hi : Option Int) : List PV := (xs.drop (HT.sIx xs.length 0 lo)).take (HT.sIx xs.length xs.length hi - HT.sIx xs.length 0 lo)
theorem RAll.cut {K : PySem.W.Frag} {F : Hp} {xs : List PV} {vs : List V} (r : RAll K F xs vs) (lo hi : Option Int) : RAll K F (cutP xs lo hi) (cutV vs lo hi) := by
  unfold cutP cutV
  rw [r.length]
  exact (r.drop _).take _
theorem cutP_all {xs : List PV} {lo hi : Option Int} (h : HT.sIx xs.length 0 lo = 0 ∧ HT.sIx xs.length xs.length hi = xs.length) : cutP xs lo hi = xs := by
  unfold cutP
  rw [h.1, h.2]
  simp
def oSl (x : PV) (lo hi : Option Int) (M : Mem) (Q : PQ) : Prop := match x with
  | .tup xs => Q (.tup (cutP xs lo hi)) M
  | x => need (lstOf M x) fun xs => Q (.lst (cutP xs lo hi)) M
def pSl (ta : PTE) (tl th : PTO) : PTE := fun E σ M Q => ta E σ M fun x M1 => tl E σ M1 fun l M2 => th E σ M2 fun u M3 => oSl x l u M3 Q
theorem LE.slice {lo hi : Option Expr} {tl th : PTO} {p2 : Pos} (ha : LE X a ta) (hl : LO X lo tl) (hh : LO X hi th) : LE X (.Subscript a (.Slice lo hi none p2) pos) (pSl ta tl th) := by
  refine ⟨fun σv H σ F M Q E tk rm rs h => WE.of (pe_slice (SlR.or sl_list sl_tupA) WE.pe WO.po WO.po) ?_⟩
  refine (ha.run σv H σ F M _ E tk rm rs h).mono ?_
  rintro v H1 ⟨F1, M1, x, b1, rx, hx⟩
  intro pins s I
  refine thn (hl.run σv H1 σ F1 M1 _ E (tk.tr b1) b1.rm (rs.same b1.sm) hx pins s I) ?_
  rintro u1 s1 ⟨o1, H2, I2, p1, F2, M2, b2, h2⟩
  refine ⟨o1, H2, I2, p1, ?_⟩
  intro pins' s' I'
  refine thn (hh.run σv H2 σ F2 M2 _ E (tk.tr (b1.trans b2)) b2.rm (rs.same (b1.trans b2).sm) h2 pins' s' I') ?_
  rintro u2 s2 ⟨o2, H3, I3, p2, F3, M3, b3, h3⟩
  refine ⟨o2, H3, I3, p2, ?_⟩
  have b := (b1.trans b2).trans b3
  have rx3 := rx.same (b2.trans b3).sm
  unfold oSl at h3
  split at h3
  · rename_i xs
    cases rx3 with
    | tup e q =>
      refine .inr ⟨_, _, rfl, sqT_same b3.rm.fr e, fun hw => ?_, fun _ p np => ?_⟩
      · rw [← q.length] at hw
        rw [cutP_all hw] at h3
        exact LQ.tr b (LQ.now b3.rm (.tup e q) h3)
      · exact LQ.tr b ⟨_, M3, _, b3.rm.beh np, .tup (SqT.of upd_same) ((q.cut _ _).same (b3.rm.beh (o := .tup (cutV _ o1 o2)) np).sm), h3⟩
  · obtain ⟨xs, e, h4⟩ := need_of h3
    obtain ⟨q, ws, ev, hs, ra⟩ := rx3.lstI b3.rm e
    subst ev
    exact .inl ⟨q, ws, rfl, hs, fun p np => LQ.tr b ⟨_, M3, _, b3.rm.beh np, .lst upd_same ((ra.cut _ _).same (b3.rm.beh (o := .lst (cutV ws o1 o2)) np).sm), h4⟩⟩
/-! ### + -/
def oAdd : PO2 := fun x y M Q => match x, y with
  | .int i, .int j => Q (.int (i + j)) M
  | .str i, .str j => i.length + j.length ≤ sizeLine ∧ Q (.str (i ++ j)) M
  | .tup xs, .tup ys => xs.length + ys.length ≤ sizeLine ∧ Q (.tup (xs ++ ys)) M
  | .lst xs, .lst ys => xs.length + ys.length ≤ sizeLine ∧ Q (.lst (xs ++ ys)) M
  | _, _ => False
theorem LE.add (ha : LE X a ta) (hb : LE X b tb) : LE X (.BinOp a .Add b pos) (pBin oAdd ta tb) := by
  refine LE.bin (OpR.or op_add (OpR.or op_add_str (OpR.or op_catA op_cat))) (fun F M H x y xv yv Q Qv rm rx ry h k => ?_) ha hb
  cases rx <;> cases ry <;> first
    | exact h.elim
    | exact .inl ⟨_, _, rfl, rfl, k _ _ (LQ.now rm (.int _) h)⟩
    | exact .inr (.inl ⟨_, _, rfl, rfl, h.1, k _ _ (LQ.now rm (.str _) h.2)⟩)
    | skip
  · rename_i a' xs vs e q b' ys ws e2 q2
    refine .inr (.inr (.inl ⟨_, _, vs, ws, rfl, rfl, sqT_same rm.fr e, sqT_same rm.fr e2, by rw [← q.length, ← q2.length]; exact h.1, fun z => ?_, fun _ z => ?_, fun _ _ p np => ?_⟩))
    · subst z
      have z : xs = [] := List.eq_nil_of_length_eq_zero q.length
      subst z
      exact k _ _ (LQ.now rm (.tup e2 q2) h.2)
    · subst z
      have z : ys = [] := List.eq_nil_of_length_eq_zero q2.length
      subst z
      have h2 := h.2
      rw [List.append_nil] at h2
      exact k _ _ (LQ.now rm (.tup e q) h2)
    · exact k _ _ ⟨_, M, _, rm.beh np, .tup (SqT.of upd_same) ((q.append q2).same (rm.beh (o := .tup (vs ++ ws)) np).sm), h.2⟩
  · rename_i a' xs vs e q b' ys ws e2 q2
    exact .inr (.inr (.inr ⟨_, _, vs, ws, rfl, rfl, rm.fr _ _ e, rm.fr _ _ e2, by rw [← q.length, ← q2.length]; exact h.1, fun p np =>
      k _ _ ⟨_, M, _, rm.beh np, .lst upd_same ((q.append q2).same (rm.beh (o := .lst (vs ++ ws)) np).sm), h.2⟩⟩))
end
end PL
set_option Elab.async false
set_option linter.all false
set_option maxRecDepth 100000
namespace PL
open PySem PySem.Spec PyProof.Rows L2

/-! ### == of data -/
mutual
def toD : PV → Option PyData
  | .non => some .none
  | .bl b => some (.bool b)
  | .int i => some (.int i)
  | .str x => if (PyData.str x).canLay0 = true then some (.str x) else none
  | .tup xs => (toDs xs).map .tuple
  | .lst xs => (toDs xs).map .list
  | .scr xs => (toDs xs).map .list
  | _ => none
def toDs : List PV → Option (List PyData)
  | [] => some []
  | x :: xs => match toD x, toDs xs with | some d, some ds => some (d :: ds) | _, _ => none
end
mutual
theorem toD_dp {K : PySem.W.Frag} {F H : Hp} (e : Same F H) : ∀ (x : PV) (v : V) (d : PyData), R K F x v → toD x = some d → Dp K H v d ∧ d.canLay0 = true
  | .non, _, _, .non, h => by cases h; exact ⟨.non, rfl⟩
  | .bl b, _, _, .bl _, h => by cases h; exact ⟨.bl b, rfl⟩
  | .int b, _, _, .int _, h => by cases h; exact ⟨.int b, rfl⟩
  | .str b, _, _, .str _, h => by
    unfold toD at h
    split at h
    · rename_i hb
      cases h
      exact ⟨.str b, hb⟩
    · cases h
  | .tup xs, _, d, .tup q r, h => by
    unfold toD at h
    cases hd : toDs xs with
    | none => rw [hd] at h; cases h
    | some ds =>
      rw [hd] at h
      cases h
      obtain ⟨h1, h2⟩ := toDs_dp e xs _ ds r hd
      exact ⟨.tup (sqT_same e q) h1, by simpa [PyData.canLay0] using h2⟩
  | .lst xs, _, d, .lst q r, h => by
    unfold toD at h
    cases hd : toDs xs with
    | none => rw [hd] at h; cases h
    | some ds =>
      rw [hd] at h
      cases h
      obtain ⟨h1, h2⟩ := toDs_dp e xs _ ds r hd
      exact ⟨.lst (SqL.of (e _ _ q)) h1, by simpa [PyData.canLay0] using h2⟩
  | .scr xs, _, d, .scr q r, h => by
    unfold toD at h
    cases hd : toDs xs with
    | none => rw [hd] at h; cases h
    | some ds =>
      rw [hd] at h
      cases h
      obtain ⟨h1, h2⟩ := toDs_dp e xs _ ds r hd
      exact ⟨.lst (e.seq q) h1, by simpa [PyData.canLay0] using h2⟩
theorem toDs_dp {K : PySem.W.Frag} {F H : Hp} (e : Same F H) : ∀ (xs : List PV) (vs : List V) (ds : List PyData), RAll K F xs vs → toDs xs = some ds → DpAll K H vs ds ∧ PyData.canLayAll0 ds = true
  | [], _, _, .nil, h => by cases h; exact ⟨.nil, rfl⟩
  | x :: xs, _, ds, .cons r t, h => by
    unfold toDs at h
    cases h1 : toD x with
    | none => rw [h1] at h; cases h
    | some d =>
      cases h2 : toDs xs with
      | none => rw [h1, h2] at h; cases h
      | some ds' =>
        rw [h1, h2] at h
        cases h
        obtain ⟨a1, a2⟩ := toD_dp e x _ d r h1
        obtain ⟨b1, b2⟩ := toDs_dp e xs _ ds' t h2
        exact ⟨.cons a1 b1, by simp [PyData.canLayAll0, a2, b2]⟩
end
theorem toDs_ints : ∀ ns : List Int, toDs (ns.map PV.int) = some (ns.map PyData.int)
  | [] => rfl
  | n :: r => by
    show (match toD (.int n), toDs (r.map PV.int) with | some d, some ds => some (d :: ds) | _, _ => none) = _
    rw [toDs_ints r]
    rfl
theorem depth_ints : ∀ ns : List Int, PyData.depthAll (ns.map PyData.int) = 0
  | [] => rfl
  | n :: r => by
    show max 0 (PyData.depthAll (r.map PyData.int)) = 0
    rw [depth_ints r]
    rfl
/-- scalars -/
def eqF : PV → PV → Option Bool
  | .int i, .int j => some (decide (i = j))
  | .str i, .str j => some (decide (i = j))
  | .bl i, .bl j => some (decide (i = j))
  | .non, .non => some true
  | .non, .int _ => some false | .int _, .non => some false
  | .non, .bl _ => some false | .bl _, .non => some false
  | .non, .str _ => some false | .str _, .non => some false
  | .int _, .str _ => some false | .str _, .int _ => some false
  | .bl _, .str _ => some false | .str _, .bl _ => some false
  | _, _ => none
def eqP (x y : PV) (k : Bool → Prop) : Prop := match eqF x y with
  | some b => k b
  | none => need (toD x) fun d => need (toD y) fun e => d.depth ≤ 64 ∧ e.depth ≤ 64 ∧ k (PyData.eqv d e)
def oEq : PO2 := fun x y M Q => eqP x y fun b => Q (.bl b) M
def oNe : PO2 := fun x y M Q => eqP x y fun b => Q (.bl (!b)) M
theorem eqF_scal {K : PySem.W.Frag} {F : Hp} {x y : PV} {xv yv : V} {b : Bool} (rx : R K F x xv) (ry : R K F y yv) (h : eqF x y = some b) : scal xv yv = true ∧ decide (xv = yv) = b := by
  cases rx <;> cases ry <;> first
    | (cases h; exact ⟨rfl, rfl⟩)
    | (cases h; refine ⟨rfl, ?_⟩; simp)
    | cases h
theorem shaped_of {d : PyData} (h : d.canLay0 = true) (h2 : d.depth ≤ 64) : SeqAt.shaped d = true := by
  unfold SeqAt.shaped
  rw [h, decide_eq_true h2]
  rfl
section
variable {X : Cx} {a b c e : Expr} {ta tb tc : PTE} {pos p : Pos} {es : List Expr} {t : PTA} {x : Str}
theorem op_eqA (hu : X.A.units + 64 < cLine) : OpR X (compareOp .Eq) (fun x y H Q => rEq x y H Q ∨ rEqD X.K x y H Q) := OpR.or op_eq (op_eqD hu)
theorem op_neA (hu : X.A.units + 64 < cLine) : OpR X (compareOp .NotEq) (fun x y H Q => rNe x y H Q ∨ rNeD X.K x y H Q) := OpR.or op_ne (op_neD hu)
theorem pop_eq {K : PySem.W.Frag} : POp K (fun x y H Q => rEq x y H Q ∨ rEqD K x y H Q) oEq := by
  intro F M H x y xv yv Q Qv rm rx ry h k
  unfold oEq eqP at h
  split at h
  · rename_i b hb
    obtain ⟨h1, h2⟩ := eqF_scal rx ry hb
    exact .inl ⟨h1, k _ _ (LQ.now rm (by rw [h2]; exact .bl b) h)⟩
  · obtain ⟨d, e1, h⟩ := need_of h
    obtain ⟨e, e2, h⟩ := need_of h
    obtain ⟨h1, h2, h3⟩ := h
    obtain ⟨a1, a2⟩ := toD_dp rm.fr x xv d rx e1
    obtain ⟨b1, b2⟩ := toD_dp rm.fr y yv e ry e2
    exact .inr ⟨d, e, a1, b1, shaped_of a2 h1, shaped_of b2 h2, k _ _ (LQ.now rm (.bl _) h3)⟩
theorem pop_ne {K : PySem.W.Frag} : POp K (fun x y H Q => rNe x y H Q ∨ rNeD K x y H Q) oNe := by
  intro F M H x y xv yv Q Qv rm rx ry h k
  unfold oNe eqP at h
  split at h
  · rename_i b hb
    obtain ⟨h1, h2⟩ := eqF_scal rx ry hb
    exact .inl ⟨h1, k _ _ (LQ.now rm (by rw [h2]; exact .bl _) h)⟩
  · obtain ⟨d, e1, h⟩ := need_of h
    obtain ⟨e, e2, h⟩ := need_of h
    obtain ⟨h1, h2, h3⟩ := h
    obtain ⟨a1, a2⟩ := toD_dp rm.fr x xv d rx e1
    obtain ⟨b1, b2⟩ := toD_dp rm.fr y yv e ry e2
    exact .inr ⟨d, e, a1, b1, shaped_of a2 h1, shaped_of b2 h2, k _ _ (LQ.now rm (.bl _) h3)⟩
theorem LE.eq (hu : X.A.units + 64 < cLine) (ha : LE X a ta) (hb : LE X b tb) : LE X (.Compare a [.Eq] [b] pos) (pBin oEq ta tb) := LE.cmp (op_eqA hu) pop_eq (nomark _) ha hb
theorem LE.ne (hu : X.A.units + 64 < cLine) (ha : LE X a ta) (hb : LE X b tb) : LE X (.Compare a [.NotEq] [b] pos) (pBin oNe ta tb) := LE.cmp (op_neA hu) pop_ne (nomark _) ha hb
theorem LT.eq (hu : X.A.units + 64 < cLine) (ha : LE X a ta) (hb : LE X b tb) : LT X (.Compare a [.Eq] [b] pos) (pTest (pBin oEq ta tb)) := LT.cmp (op_eqA hu) pop_eq (nomark _) ha hb
theorem LT.ne (hu : X.A.units + 64 < cLine) (ha : LE X a ta) (hb : LE X b tb) : LT X (.Compare a [.NotEq] [b] pos) (pTest (pBin oNe ta tb)) := LT.cmp (op_neA hu) pop_ne (nomark _) ha hb

/-! ### isinstance of a built-in type -/
def tyOf (M : Mem) : PV → Option String
  | .non => some "NoneType"
  | .bl _ => some "bool"
  | .int _ => some "int"
  | .str _ => some "str"
  | .tup _ => some "tuple"
  | .lst _ => some "list"
  | .ptr a => match M a with | some (.lst _) => some "list" | _ => none
  | _ => none
def isi (M : Mem) (T : String) (x : PV) : Option Bool := (tyOf M x).bind fun n => kitB n T
def kIsi (T : String) (x : PV) (M : Mem) (Q : PQ) : Prop := need (isi M T x) fun b => Q (.bl b) M
theorem R.tyx {K : PySem.W.Frag} {F H : Hp} {M : Mem} {x : PV} {v : V} {n : String} (rm : RM K F M H) (r : R K F x v) (h : tyOf M x = some n) : TyX K H v (.type n) := by
  cases r with
  | non => cases h; exact .base .non
  | bl b => cases h; exact .base (.bl b)
  | int b => cases h; exact .base (.int b)
  | str b => cases h; exact .base (.str b)
  | ty n => cases h
  | tup q r =>
    cases h
    rcases sqT_same rm.fr q with q | ⟨o, its, k, hk, hc, _⟩
    · rcases q with q | ⟨o, q⟩
      · exact .base (.tup q)
      · exact .fTuple q
    · exact .kTuple hk hc
  | lst q r => cases h; exact .base (.lst (rm.fr _ _ q))
  | scr q r => cases h
  | obj _ _ => cases h
  | ptr a =>
    cases hm : M a with
    | none =>
      have h' : (match M a with | some (.lst _) => some "list" | _ => none) = some n := h
      rw [hm] at h'
      cases h'
    | some m =>
      have h' : (match M a with | some (.lst _) => some "list" | _ => none) = some n := h
      rw [hm] at h'
      cases m with
      | lst ys =>
        cases h'
        obtain ⟨o, e1, q⟩ := rm.mu _ _ hm
        cases q with
        | lst q => exact .base (.lst e1)
      | obj C fs => cases h'
theorem LE.isi {T : Str} {Ts : String} {py : Pos} (hg : Gl X "isinstance") (hm : X.mg "isinstance" = none) (hgT : Gl X T) (hmT : X.mg T = none) (hvT : bootBuiltins T = some (.type Ts)) (ha : LE X e ta)
    (hnT : T ≠ "__name__" := by decide) (hdT : (T == ("__debug__" : Str)) = false := by decide)
    (he : starEach [e, .Name T py] X.env = (false, eval e X.env) :: starEach [.Name T py] X.env := by rfl) (he2 : starEach [.Name T py] X.env = (false, eval (.Name T py) X.env) :: starEach [] X.env := by rfl)
    (hpl : (backTo pos (starEach [.Name T py] X.env)).any (·.1) = false := by rfl) : LE X (.Call (.Name "isinstance" p) [e, .Name T py] [] pos) (fun E σ M Q => ta E σ M fun x M1 => kIsi Ts x M1 Q) := by
  refine ⟨fun σv H σ F M Q E tk rm rs h => WE.of (pe_callB call_isi hg hm (by decide +kernel) (pa_cons WE.pe (pa_cons (pe_bltn (v := .ty Ts) hgT hmT hvT rfl hnT hdT) pa_nil he2) he) (he := he) (hpl := hpl)) ?_⟩
  refine (ha.run σv H σ F M _ E tk rm rs h).mono ?_
  rintro v H1 ⟨F1, M1, x, b1, rx, hx⟩
  obtain ⟨b, e1, h2⟩ := need_of hx
  unfold PL.isi at e1
  cases ht : tyOf M1 x with
  | none => rw [ht] at e1; cases e1
  | some n =>
    rw [ht] at e1
    exact ⟨v, .ty Ts, _, _, b, rfl, .ty _, rx.tyx b1.rm ht, kit_ty e1, LQ.tr b1 (LQ.now b1.rm (.bl b) h2)⟩

/-! ### fields -/
/-- the classes of the text, each with what HandS asks -/
def fldOf (M : Mem) (C : Addr) (f : Str) : PV → Option PV
  | .obj C' fs => if C' = C then fs.lookup f else none
  | .ptr a => match M a with | some (.obj C' fs) => if C' = C then fs.lookup f else none | _ => none
  | _ => none
def pFld (C : Addr) (ta : PTE) (f : Str) : PTE := fun E σ M Q => ta E σ M fun x M1 => need (fldOf M1 C f x) fun v => Q v M1
theorem fldOf_ptr {M : Mem} {C : Addr} {f : Str} {a : Addr} {fs : List (Str × PV)} (h : M a = some (.obj C fs)) : fldOf M C f (.ptr a) = fs.lookup f := by
  show (match M a with | some (.obj C' fs) => if C' = C then fs.lookup f else none | _ => none) = fs.lookup f
  rw [h]
  exact if_pos rfl
theorem fldOf_obj {M : Mem} {C : Addr} {f : Str} {fs : List (Str × PV)} : fldOf M C f (.obj C fs) = fs.lookup f := if_pos rfl
theorem R.fld {K : PySem.W.Frag} {F H : Hp} {M : Mem} {x z : PV} {v : V} {C : Addr} {f : Str} (rm : RM K F M H) (r : R K F x v) (h : fldOf M C f x = some z) : ∃ a dx vs w, v = .ref a ∧ H a = some (.ins C dx vs) ∧ vs.lookup f = some w ∧ R K F z w := by
  cases r with
  | @obj a C' dx fs vs e q =>
    have h' : (if C' = C then fs.lookup f else none) = some z := h
    split at h'
    · rename_i hC
      subst hC
      obtain ⟨w, h1, h2⟩ := q.get h'
      exact ⟨_, _, _, w, rfl, rm.fr _ _ e, h1, h2⟩
    · cases h'
  | ptr a =>
    cases hm : M a with
    | none =>
      have h' : (match M a with | some (.obj C' fs) => if C' = C then fs.lookup f else none | _ => none) = some z := h
      rw [hm] at h'
      cases h'
    | some m =>
      have h' : (match M a with | some (.obj C' fs) => if C' = C then fs.lookup f else none | _ => none) = some z := h
      rw [hm] at h'
      cases m with
      | lst ys => cases h'
      | obj C' fs =>
        dsimp only at h'
        split at h'
        · rename_i hC
          subst hC
          obtain ⟨o, e1, q⟩ := rm.mu _ _ hm
          cases q with
          | obj q =>
            obtain ⟨w, h1, h2⟩ := q.get h'
            exact ⟨_, _, _, w, rfl, e1, h1, h2⟩
        · cases h'
  | _ => cases h
theorem LE.fld {C : Addr} {f : Str} (cl : Cls X.K C) (na : NoAttr X.K C f) (ha : LE X e ta) (hb : attributeBase e f X.env (eval e X.env) = eval e X.env := by rfl) : LE X (.Attribute e f pos) (pFld C ta f) := by
  refine ⟨fun σv H σ F M Q E tk rm rs h => WE.of (pe_fld WE.pe hb) ?_⟩
  refine (ha.run σv H σ F M _ E tk rm rs h).mono ?_
  rintro v H1 ⟨F1, M1, x, b1, rx, hx⟩
  obtain ⟨z, e1, h2⟩ := need_of hx
  obtain ⟨q, dx, vs, w, rfl, e2, e3, rz⟩ := rx.fld b1.rm e1
  exact ⟨q, C, dx, vs, w, rfl, e2, cl, na, e3, LQ.tr b1 (LQ.now b1.rm rz h2)⟩
end

/-! ### what a def promises -/
abbrev PSp := List PV → Mem → PQ → PXK → Prop
def lift (K : PySem.W.Frag) (n : Nat) (sp : PSp) : Sp := fun vs H Q E => vs.length = n ∧ ∃ F M xs Qp Ep, RM K F M H ∧ RAll K F xs vs ∧ sp xs M Qp Ep ∧ (∀ v H', LQ K F M H Qp v H' → Q v H') ∧ ∀ cls d H', LX K F M H Ep cls d H' → E cls d H'
theorem lift_of {K : PySem.W.Frag} {n : Nat} {sp : PSp} {F H : Hp} {M : Mem} {xs : List PV} {vs : List V} {Q : VK} {E : XK} {Qp : PQ} {Ep : PXK} (hn : vs.length = n) (rm : RM K F M H) (rx : RAll K F xs vs) (h : sp xs M Qp Ep)
    (k : ∀ v H', LQ K F M H Qp v H' → Q v H') (kx : ∀ cls d H', LX K F M H Ep cls d H' → E cls d H') : lift K n sp vs H Q E := ⟨hn, F, M, xs, Qp, Ep, rm, rx, h, k, kx⟩
/-- a def of the text by its name -/
structure GFn (P : Program) (w : World) (K : PySem.W.Frag) (mg : Str → Option Value) (base : Heap) (x : Str) (k : Nat) (ps : List Str) (sp : PSp) : Prop where
  ex : ∃ f fd, FnOk P w K mg base (L2.CX P w) k f fd ps (lift K ps.length sp) ∧ mg x = some (.ref f) ∧ PySem.W.keepIn K (.ref f) = true ∧ Binds K fd ps []
section
variable {X : Cx} {a b c e : Expr} {ta tb tc : PTE} {pos p apos : Pos} {es : List Expr} {t : PTA} {x : Str} {k : Nat} {ps : List Str} {sp : PSp}
def pCall (sp : PSp) (t : PTA) : PTE := fun E σ M Q => t E σ M fun xs M1 => sp xs M1 Q E
theorem LE.call (G : GFn X.prog X.w X.K X.mg X.base x k ps sp) (hr : Room k X.A) (hg : Gl X x) (ha : LA X (e :: es) t) (hl : (e :: es).length = ps.length := by rfl) (hdb : (x == ("__debug__" : Str)) = false := by decide)
    (he : starEach (e :: es) X.env = (false, eval e X.env) :: starEach es X.env := by rfl) (hpl : (backTo pos (starEach es X.env)).any (·.1) = false := by rfl) : LE X (.Call (.Name x p) (e :: es) [] pos) (pCall sp t) := by
  obtain ⟨f, fd, G, hm, hk, hb⟩ := G.ex
  refine ⟨fun σv H σ F M Q E tk rm rs h => WE.of (pe_call (E := LX X.K F M H E) G hr hg hm hk hb .nil (passes_call tk fun _ _ _ _ z => z) WA.pa hdb he hpl) ?_⟩
  refine (ha.run σv H σ F M _ E tk rm rs h).mono ?_
  rintro vs H1 ⟨hl1, F1, M1, xs, b1, rx, hx⟩
  rw [List.append_nil]
  exact lift_of (by rw [hl1, hl]) b1.rm rx hx (fun v H' q => q.tr b1) fun cls d H' q => q.tr b1
/-- a method of a class of the text -/
structure GMt (P : Program) (w : World) (K : PySem.W.Frag) (mg : Str → Option Value) (base : Heap) (C : Addr) (m : Str) (k : Nat) (ps : List Str) (sp : PSp) : Prop where
  ex : ∃ f fd, FnOk P w K mg base (L2.CX P w) k f fd ps (lift K ps.length sp) ∧ Meth K C m f ∧ Binds K fd ps []
def objOf (M : Mem) (C : Addr) : PV → Option (List (Str × PV))
  | .obj C' fs => if C' = C then some fs else none
  | .ptr a => match M a with | some (.obj C' fs) => if C' = C then some fs else none | _ => none
  | _ => none
theorem objOf_ptr {M : Mem} {C : Addr} {a : Addr} {fs : List (Str × PV)} (h : M a = some (.obj C fs)) : objOf M C (.ptr a) = some fs := by
  show (match M a with | some (.obj C' fs) => if C' = C then some fs else none | _ => none) = some fs
  rw [h]
  exact if_pos rfl
theorem objOf_obj {M : Mem} {C : Addr} {fs : List (Str × PV)} : objOf M C (.obj C fs) = some fs := if_pos rfl
theorem R.objI {K : PySem.W.Frag} {F H : Hp} {M : Mem} {x : PV} {v : V} {C : Addr} {fs : List (Str × PV)} (rm : RM K F M H) (r : R K F x v) (h : objOf M C x = some fs) : ∃ a dx vs, v = .ref a ∧ H a = some (.ins C dx vs) ∧ RFs K F fs vs := by
  cases r with
  | @obj a C' dx gs vs e q =>
    have h' : (if C' = C then some gs else none) = some fs := h
    split at h'
    · rename_i hC
      subst hC
      cases h'
      exact ⟨_, _, _, rfl, rm.fr _ _ e, q⟩
    · cases h'
  | ptr a =>
    cases hm : M a with
    | none =>
      have h' : (match M a with | some (.obj C' fs) => if C' = C then some fs else none | _ => none) = some fs := h
      rw [hm] at h'
      cases h'
    | some m =>
      have h' : (match M a with | some (.obj C' fs) => if C' = C then some fs else none | _ => none) = some fs := h
      rw [hm] at h'
      cases m with
      | lst ys => cases h'
      | obj C' fs =>
        dsimp only at h'
        split at h'
        · rename_i hC
          subst hC
          cases h'
          obtain ⟨o, e1, q⟩ := rm.mu _ _ hm
          cases q with
          | obj q => exact ⟨_, _, _, rfl, e1, q⟩
        · cases h'
  | _ => cases h
def pMeth (C : Addr) (m : Str) (sp : PSp) (ta : PTE) (t : PTA) : PTE := fun E σ M Q => ta E σ M fun x M1 => need (objOf M1 C x) fun fs => fs.lookup m = none ∧ t E σ M1 fun xs M2 => sp (x :: xs) M2 Q E
theorem LE.meth {C : Addr} {m : Str} {pl : Sem Bool} {o : Expr} (G : GMt X.prog X.w X.K X.mg X.base C m k ps sp) (cl : Cls X.K C) (hr : Room k X.A) (ho : LE X o ta) (ha : LA X (e :: es) t) (hl : (e :: es).length + 1 = ps.length := by rfl)
    (hst : starEach (e :: es) X.env = (false, eval e X.env) :: starEach es X.env := by rfl) (hpl : (backTo pos (starEach es X.env)).any (·.1) = false := by rfl)
    (ht : eval (.Call (.Attribute o m apos) (e :: es) [] pos) X.env = (do
      let ov ← eval o X.env
      standAt apos.atName
      let (f, first) ← holding [ov] (getMethod ov m pl)
      callWith pos f first (backTo pos (starEach (e :: es) X.env)) (backToKw pos (keywordEach [] X.env))) := by rfl) : LE X (.Call (.Attribute o m apos) (e :: es) [] pos) (pMeth C m sp ta t) := by
  obtain ⟨f, fd, G, hm, hb⟩ := G.ex
  refine ⟨fun σv H σ F M Q E tk rm rs h => WE.of (pe_meth (pl := pl) (E := LX X.K F M H E) WE.pe cl hm G hr hb .nil (passes_call tk fun _ _ _ _ z => z) WA.pa hst hpl ht) ?_⟩
  refine (ho.run σv H σ F M _ E tk rm rs h).mono ?_
  rintro v H1 ⟨F1, M1, x, b1, rx, hx⟩
  obtain ⟨fs, e1, hn, h2⟩ := need_of hx
  obtain ⟨q, dx, vs, rfl, e2, rf⟩ := rx.objI b1.rm e1
  refine ⟨q, dx, vs, rfl, e2, rf.none hn, ?_⟩
  refine (ha.run σv H1 σ F1 M1 _ E (tk.tr b1) b1.rm (rs.same b1.sm) h2).mono ?_
  rintro ws H2 ⟨hl1, F2, M2, xs, b2, rxs, hxs⟩
  rw [List.append_nil]
  exact lift_of (by rw [List.length_cons, hl1, hl]) b2.rm (.cons (rx.same b2.sm) rxs) hxs (fun v H' q => q.tr (b1.trans b2)) fun cls d H' q => q.tr (b1.trans b2)
theorem LE.meth0 {C : Addr} {m : Str} {pl : Sem Bool} {o : Expr} (G : GMt X.prog X.w X.K X.mg X.base C m k ps sp) (cl : Cls X.K C) (hr : Room k X.A) (ho : LE X o ta) (hl : 1 = ps.length := by rfl)
    (ht : eval (.Call (.Attribute o m apos) [] [] pos) X.env = (do
      let ov ← eval o X.env
      standAt apos.atName
      let (f, first) ← holding [ov] (getMethod ov m pl)
      callWith pos f first (backTo pos (starEach [] X.env)) (backToKw pos (keywordEach [] X.env))) := by rfl) : LE X (.Call (.Attribute o m apos) [] [] pos) (pMeth C m sp ta pNil) := by
  obtain ⟨f, fd, G, hm, hb⟩ := G.ex
  refine ⟨fun σv H σ F M Q E tk rm rs h => WE.of (pe_meth0 (pl := pl) (E := LX X.K F M H E) WE.pe cl hm G hr hb .nil (passes_call tk fun _ _ _ _ z => z) ht) ?_⟩
  refine (ho.run σv H σ F M _ E tk rm rs h).mono ?_
  rintro v H1 ⟨F1, M1, x, b1, rx, hx⟩
  obtain ⟨fs, e1, hn, h2⟩ := need_of hx
  obtain ⟨q, dx, vs, rfl, e2, rf⟩ := rx.objI b1.rm e1
  refine ⟨q, dx, vs, rfl, e2, rf.none hn, ?_⟩
  exact lift_of hl b1.rm (.cons rx .nil) h2 (fun v H' q => q.tr b1) fun cls d H' q => q.tr b1
/-- a class of the text that is made by its __init__ -/
structure GMk (P : Program) (w : World) (K : PySem.W.Frag) (mg : Str → Option Value) (base : Heap) (x : Str) (C : Addr) (k : Nat) (ps : List Str) (sp : PSp) : Prop where
  ex : ∃ f fd, FnOk P w K mg base (L2.CX P w) k f fd ps (lift K ps.length sp) ∧ mg x = some (.ref C) ∧ Mk K C f ∧ Binds K fd ps []
/-- made, and from then on never changed -/
def pMake (C : Addr) (sp : PSp) (t : PTA) : PTE := fun E σ M Q => t E σ M fun xs M1 => ∀ p, M1 p = none → sp (.ptr p :: xs) (M1.put p (.obj C [])) (fun r M2 => isNon r = true ∧ match M2 p with | some (.obj C' fs) => C' = C ∧ Q (.obj C fs) (M2.drop p) | _ => False) E
theorem LE.make {C : Addr} (G : GMk X.prog X.w X.K X.mg X.base x C k ps sp) (hr : Room (k + 1) X.A) (hg : Gl X x) (ha : LA X (e :: es) t) (hl : (e :: es).length + 1 = ps.length := by rfl) (hdb : (x == ("__debug__" : Str)) = false := by decide)
    (he : starEach (e :: es) X.env = (false, eval e X.env) :: starEach es X.env := by rfl) (hpl : (backTo pos (starEach es X.env)).any (·.1) = false := by rfl) : LE X (.Call (.Name x p) (e :: es) [] pos) (pMake C sp t) := by
  obtain ⟨f, fd, G, hm, mk, hb⟩ := G.ex
  refine ⟨fun σv H σ F M Q E tk rm rs h => WE.of (pe_make (E := LX X.K F M H E) mk G hr hg hm hb .nil (passes_call tk fun _ _ _ _ z => z) WA.pa hdb he hpl) ?_⟩
  refine (ha.run σv H σ F M _ E tk rm rs h).mono ?_
  rintro vs H1 ⟨hl1, F1, M1, xs, b1, rx, hx⟩
  intro q dx nq ndx ne
  rw [List.append_nil]
  have c1 : Beh X.K F1 M1 H1 (upd F1 dx (.own q)) M1 (upd H1 dx (.own q)) := b1.rm.beh ndx
  have nq' : upd H1 dx (.own q) q = none := by rw [upd_ne (Ne.symm ne)]; exact nq
  have c2 := c1.rm.behNew (m := .obj C []) (o := .ins C dx []) nq' (.obj .nil)
  have c := b1.trans (c1.trans c2)
  refine lift_of (by rw [List.length_cons, hl1, hl]) c2.rm (.cons (.ptr q) (rx.same (c1.trans c2).sm)) (hx q (b1.rm.nones nq).2) (fun v H' z => ?_) fun cls d H' q => q.tr c
  obtain ⟨F2, M2, r, b2, rr, hz, h2⟩ := z
  refine ⟨?_, ?_⟩
  · have := rr.isNon
    rw [hz] at this
    exact of_decide_eq_true this
  · cases hm2 : M2 q with
    | none => rw [hm2] at h2; exact h2.elim
    | some mo =>
      rw [hm2] at h2
      cases mo with
      | lst ys => exact h2.elim
      | obj C' fs =>
        obtain ⟨hC, h3⟩ := h2
        subst hC
        obtain ⟨o, s1, s4⟩ := b2.rm.behFreeze hm2
        cases s4 with
        | obj s4 => exact ⟨_, _, _, c.trans (b2.trans s1), .obj upd_same (s4.same s1.sm), h3⟩
end
end PL
set_option Elab.async false
set_option linter.all false
set_option maxRecDepth 100000
namespace PL
open PySem PySem.Spec PyProof.Rows L2

abbrev PNx := PSt → Mem → Prop
structure PEnds where
  nx : PNx
  rt : PQ
  ex : PXK
  bk : PNx := fun _ _ => False
  ct : PNx := fun _ _ => False
abbrev PTS := PEnds → PSt → Mem → Prop
def LN (K : PySem.W.Frag) (F : Hp) (M : Mem) (H : Hp) (Q : PNx) : L2.St → Hp → Prop := fun σv' H' => ∃ F' M' σ', Beh K F M H F' M' H' ∧ RS K F' σ' σv' ∧ Q σ' M'
theorem LN.tr {K : PySem.W.Frag} {F F1 H H1 : Hp} {M M1 : Mem} {Q : PNx} (b : Beh K F M H F1 M1 H1) {v : L2.St} {H2 : Hp} : LN K F1 M1 H1 Q v H2 → LN K F M H Q v H2
  | ⟨F2, M2, x, b2, r, q⟩ => ⟨F2, M2, x, b.trans b2, r, q⟩
def LD (K : PySem.W.Frag) (F : Hp) (M : Mem) (H : Hp) (D : PEnds) : Ends := { nx := LN K F M H D.nx, rt := LQ K F M H D.rt, bk := LN K F M H D.bk, ct := LN K F M H D.ct }
def WS (X : Cx) (st : Stmt) : TS := fun D σ H => ∀ pins s, Inv X pins σ H s → wpAny (model X.prog X.w) X.A (exec st X.env) (SP X pins D) X.xe s
def WSs (X : Cx) (st : List Stmt) : TS := fun D σ H => ∀ pins s, Inv X pins σ H s → wpAny (model X.prog X.w) X.A (execs st X.env) (SP X pins D) X.xe s
theorem WS.ps {X : Cx} {st : Stmt} : PS X st (WS X st) := ⟨fun pins s σ H D I h => h pins s I⟩
theorem WSs.ps {X : Cx} {st : List Stmt} : PSs X st (WSs X st) := ⟨fun pins s σ H D I h => h pins s I⟩
theorem WS.of {X : Cx} {st : Stmt} {t : TS} (p : PS X st t) {D : Ends} {σ : L2.St} {H : Hp} (h : t D σ H) : WS X st D σ H := fun pins s I => p.run pins s σ H D I h
theorem WSs.of {X : Cx} {st : List Stmt} {t : TS} (p : PSs X st t) {D : Ends} {σ : L2.St} {H : Hp} (h : t D σ H) : WSs X st D σ H := fun pins s I => p.run pins s σ H D I h
structure Ends.Le (D D' : Ends) : Prop where
  nx : ∀ σ H, D.nx σ H → D'.nx σ H
  rt : ∀ v H, D.rt v H → D'.rt v H
  bk : ∀ σ H, D.bk σ H → D'.bk σ H
  ct : ∀ σ H, D.ct σ H → D'.ct σ H
theorem SP.mono {X : Cx} {pins : List (Addr × Obj)} {D D' : Ends} (m : Ends.Le D D') {f : Flow} {s' : Shared} (h : SP X pins D f s') : SP X pins D' f s' := by
  cases f with
  | next => obtain ⟨σ, H, I, q⟩ := h; exact ⟨σ, H, I, m.nx _ _ q⟩
  | brk => obtain ⟨σ, H, I, q⟩ := h; exact ⟨σ, H, I, m.bk _ _ q⟩
  | cont => obtain ⟨σ, H, I, q⟩ := h; exact ⟨σ, H, I, m.ct _ _ q⟩
  | ret u => obtain ⟨v, σ, H, I, r, q⟩ := h; exact ⟨v, σ, H, I, r, m.rt _ _ q⟩
theorem WS.mono {X : Cx} {st : Stmt} {D D' : Ends} {σ : L2.St} {H : Hp} (h : WS X st D σ H) (m : Ends.Le D D') : WS X st D' σ H := fun pins s I => thn (h pins s I) fun _ _ q => SP.mono m q
theorem WSs.mono {X : Cx} {st : List Stmt} {D D' : Ends} {σ : L2.St} {H : Hp} (h : WSs X st D σ H) (m : Ends.Le D D') : WSs X st D' σ H := fun pins s I => thn (h pins s I) fun _ _ q => SP.mono m q
theorem LD.tr {K : PySem.W.Frag} {F F1 H H1 : Hp} {M M1 : Mem} {D : PEnds} (b : Beh K F M H F1 M1 H1) : Ends.Le (LD K F1 M1 H1 D) (LD K F M H D) := ⟨fun _ _ q => q.tr b, fun _ _ q => q.tr b, fun _ _ q => q.tr b, fun _ _ q => q.tr b⟩
structure LS (X : Cx) (st : Stmt) (t : PTS) : Prop where
  run : ∀ (σv : L2.St) (H : Hp) (σ : PSt) (F : Hp) (M : Mem) (D : PEnds), PTk X F M H D.ex → RM X.K F M H → RS X.K F σ σv → t D σ M → WS X st (LD X.K F M H D) σv H
structure LSs (X : Cx) (st : List Stmt) (t : PTS) : Prop where
  run : ∀ (σv : L2.St) (H : Hp) (σ : PSt) (F : Hp) (M : Mem) (D : PEnds), PTk X F M H D.ex → RM X.K F M H → RS X.K F σ σv → t D σ M → WSs X st (LD X.K F M H D) σv H

/-! ### targets -/
abbrev PTG := PV → PSt → Mem → PNx → Prop
def WG (X : Cx) (tg : Expr) : TG := fun v σ H Q => ∀ pins s u, Inv X pins σ H s → RelV v u → wpAny (model X.prog X.w) X.A (assign tg X.env u) (fun _ s' => ∃ σ' H', Inv X pins σ' H' s' ∧ Q σ' H') X.xe s
theorem WG.pg {X : Cx} {tg : Expr} : PG X tg (WG X tg) := ⟨fun pins s σ H v u Q I r h => h pins s u I r⟩
theorem WG.of {X : Cx} {tg : Expr} {g : TG} (p : PG X tg g) {v : V} {σ : L2.St} {H : Hp} {Q : L2.St → Hp → Prop} (h : g v σ H Q) : WG X tg v σ H Q := fun pins s u I r => p.run pins s σ H v u Q I r h
theorem WG.mono {X : Cx} {tg : Expr} {v : V} {σ : L2.St} {H : Hp} {Q Q' : L2.St → Hp → Prop} (h : WG X tg v σ H Q) (m : ∀ σ H, Q σ H → Q' σ H) : WG X tg v σ H Q' := fun pins s u I r => thn (h pins s u I r) fun _ _ ⟨σ', H', I', q⟩ => ⟨σ', H', I', m _ _ q⟩
structure LG (X : Cx) (tg : Expr) (g : PTG) : Prop where
  run : ∀ (σv : L2.St) (H : Hp) (σ : PSt) (F : Hp) (M : Mem) (x : PV) (v : V) (Q : PNx), RM X.K F M H → RS X.K F σ σv → R X.K F x v → g x σ M Q → WG X tg v σv H (LN X.K F M H Q)
abbrev PTGs := List PV → PSt → Mem → PNx → Prop
def WGs (X : Cx) (ts : List Expr) : TGs := fun vs σ H Q => ∀ pins s us, Inv X pins σ H s → Vals vs us → wpAny (model X.prog X.w) X.A (assignInOrder ((assignEach ts X.env).map (·.2)) us) (fun _ s' => ∃ σ' H', Inv X pins σ' H' s' ∧ Q σ' H') X.xe s
theorem WGs.pg {X : Cx} {ts : List Expr} : PGs X ts (WGs X ts) := ⟨fun pins s σ H v u Q I r h => h pins s u I r⟩
theorem WGs.of {X : Cx} {ts : List Expr} {g : TGs} (p : PGs X ts g) {v : List V} {σ : L2.St} {H : Hp} {Q : L2.St → Hp → Prop} (h : g v σ H Q) : WGs X ts v σ H Q := fun pins s u I r => p.run pins s σ H v u Q I r h
theorem WGs.mono {X : Cx} {tg : List Expr} {v : List V} {σ : L2.St} {H : Hp} {Q Q' : L2.St → Hp → Prop} (h : WGs X tg v σ H Q) (m : ∀ σ H, Q σ H → Q' σ H) : WGs X tg v σ H Q' := fun pins s u I r => thn (h pins s u I r) fun _ _ ⟨σ', H', I', q⟩ => ⟨σ', H', I', m _ _ q⟩
structure LGs (X : Cx) (ts : List Expr) (g : PTGs) : Prop where
  run : ∀ (σv : L2.St) (H : Hp) (σ : PSt) (F : Hp) (M : Mem) (xs : List PV) (vs : List V) (Q : PNx), RM X.K F M H → RS X.K F σ σv → RAll X.K F xs vs → g xs σ M Q → WGs X ts vs σv H (LN X.K F M H Q)
section
variable {X : Cx} {a b c e o i : Expr} {ta tb tc to ti te : PTE} {pos pos' p : Pos} {es : List Expr} {x : Str}
def gpName (i : Nat) : PTG := fun x σ M Q => Q (σ.set i (some x)) M
theorem LG.name (i : Nat) (hN : X.N.Nodup) (hi : X.N[i]? = some x := by rfl) (hx : Loc X.env.scope x := by first | exact .inl rfl | exact .inr rfl) (hf : X.fn x = true ∨ X.env.scope.names.lookup x = some .local := by first | exact .inl rfl | exact .inr rfl) : LG X (.Name x pos) (gpName i) :=
  ⟨fun σv H σ F M x v Q rm rs r h => WG.of (pg_name hN hi hx hf) ⟨F, M, _, Beh.refl rm, rs.set i r, h⟩⟩
def gpNil : PTGs := fun xs σ M Q => match xs with | [] => Q σ M | _ => False
def gpCons (t : PTG) (u : PTGs) : PTGs := fun xs σ M Q => match xs with | x :: r => t x σ M fun σ' M' => u r σ' M' Q | [] => False
theorem LGs.nil : LGs X [] gpNil := by
  refine ⟨fun σv H σ F M xs vs Q rm rs r h => WGs.of pgs_nil ?_⟩
  cases r with
  | nil => exact ⟨rfl, F, M, σ, Beh.refl rm, rs, h⟩
  | cons _ _ => exact h.elim
theorem LGs.cons {g : PTG} {gs : PTGs} (h1 : LG X e g) (h2 : LGs X es gs) (hs : (assignEach (e :: es) X.env).map (·.2) = assign e X.env :: (assignEach es X.env).map (·.2) := by rfl) : LGs X (e :: es) (gpCons g gs) := by
  refine ⟨fun σv H σ F M xs vs Q rm rs r h => WGs.of (pgs_cons WG.pg WGs.pg hs) ?_⟩
  cases r with
  | nil => exact h.elim
  | cons r t =>
    refine ⟨_, _, rfl, ?_⟩
    refine (h1.run σv H σ F M _ _ _ rm rs r h).mono ?_
    rintro σv1 H1 ⟨F1, M1, σ1, b1, rs1, h1⟩
    exact (h2.run σv1 H1 σ1 F1 M1 _ _ Q b1.rm rs1 (t.same b1.sm) h1).mono fun _ _ q => q.tr b1
def gpTup (n : Nat) (u : PTGs) : PTG := fun x σ M Q => match x with | .tup xs => xs.length = n ∧ u xs σ M Q | _ => False
theorem LG.tup {k n : Nat} {gs : PTGs} (hc : X.calm = true) (h : LGs X es gs) (hn : (assignEach es X.env).length = n := by rfl) (hst : (assignEach es X.env).findIdx? (·.1) = none := by rfl) : LG X (.Tuple es k pos) (gpTup n gs) := by
  refine ⟨fun σv H σ F M x v Q rm rs r hh => WG.of (pg_tup hc WGs.pg hn hst) ?_⟩
  unfold gpTup at hh
  split at hh
  · cases r with
    | tup q r =>
      refine ⟨_, _, rfl, sqT_same rm.fr q, by rw [← r.length]; exact hh.1, ?_⟩
      exact h.run σv H σ F M _ _ Q rm rs r hh.2
  · exact hh.elim
/-- o[i] = x of a list that may change -/
def kSet (o i x : PV) (M : Mem) (Q : Mem → Prop) : Prop := match o, i with
  | .ptr p, .int k => match M p with
    | some (.lst xs) => need (ixN xs.length k) fun j => Q (M.put p (.lst (xs.set j x)))
    | _ => False
  | _, _ => False
def gpSub (to ti : PTE) : PTG := fun x σ M Q => to noX σ M fun o M1 => ti noX σ M1 fun i M2 => kSet o i x M2 fun M3 => Q σ M3
theorem LG.sub (ho : LE X o to) (hi : LE X i ti) (ha : ∀ v, assign (.Subscript o i pos) X.env v = (do
      let ov ← holding [v] (eval o X.env)
      let iv ← holding [v, ov] (eval i X.env)
      standAt pos
      holding [v, ov, iv] (setItem ov iv v)
      release [v, ov, iv] []) := by intro _; rfl) : LG X (.Subscript o i pos) (gpSub to ti) := by
  refine ⟨fun σv H σ F M x v Q rm rs r h => WG.of (pg_sub WE.pe WE.pe set_list ha) ?_⟩
  refine seq2 (k := fun o i M2 => kSet o i x M2 fun M3 => Q σ M3) ho hi PTk.no rm rs h fun o i ov iv F2 M2 H2 bh ro ri h2 => ?_
  unfold kSet at h2
  split at h2
  · rename_i p k
    cases ro
    cases ri
    cases hm : M2 p with
    | none => rw [hm] at h2; exact h2.elim
    | some mo =>
      rw [hm] at h2
      cases mo with
      | obj C fs => exact h2.elim
      | lst xs =>
        obtain ⟨j, e1, h3⟩ := need_of h2
        obtain ⟨u, e2, ru⟩ := bh.rm.mu _ _ hm
        cases ru with
        | lst ru =>
          refine ⟨p, _, k, j, rfl, rfl, e2, by rw [← ru.length]; exact e1, ?_⟩
          have b3 := bh.rm.behWrite (o := .lst _) hm (.lst (RAll.set (r.same bh.sm) j ru))
          exact ⟨F2, _, σ, bh.trans b3, rs.same bh.sm, h3⟩
  · exact h2.elim
end

/-! ### blocks and small statements -/
section
variable {X : Cx} {st : Stmt} {sts rest body : List Stmt} {t u : PTS} {a b c e o i : Expr} {ta tb tc te tv : PTE} {tt : PTT} {pos pos' p : Pos} {es : List Expr} {x : Str} {g : PTG}
def pNext : PTS := fun D σ M => D.nx σ M
def pSeq (t u : PTS) : PTS := fun D σ M => t { D with nx := u D } σ M
theorem LSs.nil : LSs X [] pNext := ⟨fun σv H σ F M D tk rm rs h => WSs.of pss_nil ⟨F, M, σ, Beh.refl rm, rs, h⟩⟩
theorem LSs.cons (h1 : LS X st t) (h2 : LSs X rest u) : LSs X (st :: rest) (pSeq t u) := by
  refine ⟨fun σv H σ F M D tk rm rs h => WSs.of (pss_cons WS.ps WSs.ps) ?_⟩
  refine (h1.run σv H σ F M { D with nx := u D } tk rm rs h).mono ⟨?_, fun _ _ q => q, fun _ _ q => q, fun _ _ q => q⟩
  rintro σv1 H1 ⟨F1, M1, σ1, b1, rs1, q1⟩
  exact (h2.run σv1 H1 σ1 F1 M1 D (tk.tr b1) b1.rm rs1 q1).mono (LD.tr b1)
theorem LSs.one (h1 : LS X st t) : LSs X [st] t := ⟨fun σv H σ F M D tk rm rs h => WSs.of (pss_one WS.ps) (h1.run σv H σ F M D tk rm rs h)⟩
def pBreak : PTS := fun D σ M => D.bk σ M
def pCont : PTS := fun D σ M => D.ct σ M
theorem LS.pass : LS X (.Pass pos) pNext := ⟨fun σv H σ F M D tk rm rs h => WS.of ps_pass ⟨F, M, σ, Beh.refl rm, rs, h⟩⟩
theorem LS.brk : LS X (.Break pos) pBreak := ⟨fun σv H σ F M D tk rm rs h => WS.of ps_break ⟨F, M, σ, Beh.refl rm, rs, h⟩⟩
theorem LS.cont : LS X (.Continue pos) pCont := ⟨fun σv H σ F M D tk rm rs h => WS.of ps_continue ⟨F, M, σ, Beh.refl rm, rs, h⟩⟩
def pNever : PTS := fun _ _ _ => False
theorem LS.never : LS X st pNever := ⟨fun σv H σ F M D tk rm rs h => h.elim⟩
theorem LSs.never : LSs X sts pNever := ⟨fun σv H σ F M D tk rm rs h => h.elim⟩
def pDrop (te : PTE) : PTS := fun D σ M => te D.ex σ M fun _ M1 => D.nx σ M1
theorem LS.expr (he : LE X e te) (hs : swapsWith e none pos.line X.env = pure false := by rfl) : LS X (.Expr e pos) (pDrop te) := by
  refine ⟨fun σv H σ F M D tk rm rs h => WS.of (ps_expr WE.pe hs) ?_⟩
  refine (he.run σv H σ F M _ D.ex tk rm rs h).mono ?_
  rintro v H1 ⟨F1, M1, x, b1, rx, hx⟩
  exact ⟨F1, M1, σ, b1, rs.same b1.sm, hx⟩
def pRet (te : PTE) : PTS := fun D σ M => te D.ex σ M D.rt
theorem LS.ret (he : LE X e te) : LS X (.Return (some e) pos) (pRet te) := ⟨fun σv H σ F M D tk rm rs h => WS.of (ps_ret WE.pe) (he.run σv H σ F M _ D.ex tk rm rs h)⟩
def pRetN : PTS := fun D _ M => D.rt .non M
theorem LS.retN : LS X (.Return none pos) pRetN := ⟨fun σv H σ F M D tk rm rs h => WS.of ps_retN ⟨F, M, .non, Beh.refl rm, .non, h⟩⟩
/-- what is handed back never changes from now on -/
def kFz (x : PV) (M : Mem) (Q : PQ) : Prop := match x with
  | .ptr p => match M p with | some (.lst xs) => Q (.lst xs) (M.drop p) | some (.obj C fs) => Q (.obj C fs) (M.drop p) | none => False
  | _ => False
theorem R.fz {K : PySem.W.Frag} {F H : Hp} {M : Mem} {x : PV} {v : V} {Q : PQ} (rm : RM K F M H) (r : R K F x v) (h : kFz x M Q) : LQ K F M H Q v H := by
  unfold kFz at h
  split at h
  · rename_i p
    cases r
    split at h
    · rename_i xs hm
      obtain ⟨o, b, q⟩ := rm.behFreeze hm
      cases q with
      | lst q => exact ⟨_, _, _, b, .lst upd_same (q.same b.sm), h⟩
    · rename_i C fs hm
      obtain ⟨o, b, q⟩ := rm.behFreeze hm
      cases q with
      | obj q => exact ⟨_, _, _, b, .obj upd_same (q.same b.sm), h⟩
    · exact h.elim
  · exact h.elim
def pRetF (te : PTE) : PTS := fun D σ M => te D.ex σ M fun x M1 => kFz x M1 D.rt
theorem LS.retF (he : LE X e te) : LS X (.Return (some e) pos) (pRetF te) := by
  refine ⟨fun σv H σ F M D tk rm rs h => WS.of (ps_ret WE.pe) ?_⟩
  refine (he.run σv H σ F M _ D.ex tk rm rs h).mono ?_
  rintro v H1 ⟨F1, M1, x, b1, rx, hx⟩
  exact (rx.fz b1.rm hx).tr b1
/-- the list in a slot never changes from now on -/
def pFz (i : Nat) (t : PTS) : PTS := fun D σ M => match σ[i]? with
  | some (some x) => kFz x M fun y M1 => t D (σ.set i (some y)) M1
  | _ => False
theorem LSs.fz (i : Nat) (h : LSs X sts t) : LSs X sts (pFz i t) := by
  refine ⟨fun σv H σ F M D tk rm rs hh => ?_⟩
  unfold pFz at hh
  split at hh
  · rename_i x hx
    obtain ⟨v, e1, r⟩ := rs.at_ i x hx
    obtain ⟨F1, M1, y, b1, ry, h1⟩ := r.fz rm hh
    have rs1 : RS X.K F1 (σ.set i (some y)) σv := by
      have q := (rs.same b1.sm).set i ry
      have hl : i < σv.length := (List.getElem?_eq_some_iff.mp e1).1
      have e2 : σv.set i (some v) = σv := by
        have e3 : σv[i] = some v := Option.some.inj ((List.getElem?_eq_getElem hl).symm.trans e1)
        rw [← e3, List.set_getElem_self]
      rw [e2] at q
      exact q
    exact (h.run σv H _ F1 M1 D (tk.tr b1) b1.rm rs1 h1).mono (LD.tr b1)
  · exact hh.elim
/-- what is in the store at a slot's place is forgotten -/
def pDropAt (i : Nat) (t : PTS) : PTS := fun D σ M => match σ[i]? with
  | some (some (.ptr p)) => t D σ (M.drop p)
  | _ => False
theorem LSs.dropAt (i : Nat) (h : LSs X sts t) : LSs X sts (pDropAt i t) := by
  refine ⟨fun σv H σ F M D tk rm rs hh => ?_⟩
  unfold pDropAt at hh
  split at hh
  · rename_i p hx
    have b1 := rm.behDrop (p := p)
    exact (h.run σv H _ F _ D (tk.tr b1) b1.rm (rs.same b1.sm) hh).mono (LD.tr b1)
  · exact hh.elim
def pIfS (c : PTT) (t u : PTS) : PTS := fun D σ M => c D.ex σ M fun b M1 => if b = true then t D σ M1 else u D σ M1
theorem LS.ite {as bs : List Stmt} (hc : LT X c tt) (ha : LSs X as t) (hb : LSs X bs u) : LS X (.If c as bs pos) (pIfS tt t u) := by
  refine ⟨fun σv H σ F M D tk rm rs h => WS.of (ps_if WT.pt WSs.ps WSs.ps) ?_⟩
  refine (hc.run σv H σ F M _ D.ex tk rm rs h).mono ?_
  rintro b H1 ⟨F1, M1, b1, hx⟩
  split
  · rename_i e
    rw [if_pos e] at hx
    exact (ha.run σv H1 σ F1 M1 D (tk.tr b1) b1.rm (rs.same b1.sm) hx).mono (LD.tr b1)
  · rename_i e
    rw [if_neg e] at hx
    exact (hb.run σv H1 σ F1 M1 D (tk.tr b1) b1.rm (rs.same b1.sm) hx).mono (LD.tr b1)
def pAsg (te : PTE) (g : PTG) : PTS := fun D σ M => te D.ex σ M fun x M1 => g x σ M1 D.nx
theorem LS.asg {tg : Expr} (he : LE X e te) (hg : LG X tg g) (hs : swapsWithSole [tg] e pos.line X.env = pure false := by rfl) (hw : swappedStores [tg] e X.env = pure none := by rfl)
    (h1 : (assignEach [tg] X.env).map (·.2) = [assign tg X.env] := by rfl) : LS X (.Assign [tg] e pos) (pAsg te g) := by
  refine ⟨fun σv H σ F M D tk rm rs h => WS.of (ps_asg WE.pe WG.pg hs hw h1) ?_⟩
  refine (he.run σv H σ F M _ D.ex tk rm rs h).mono ?_
  rintro v H1 ⟨F1, M1, x, b1, rx, hx⟩
  exact (hg.run σv H1 σ F1 M1 x v _ b1.rm (rs.same b1.sm) rx hx).mono fun _ _ q => q.tr b1
def pSet (i : Nat) (te : PTE) : PTS := fun D σ M => te D.ex σ M fun x M1 => D.nx (σ.set i (some x)) M1
theorem LS.set (i : Nat) {pos' : Pos} (hN : X.N.Nodup) (he : LE X e te) (hi : X.N[i]? = some x := by rfl) (hx : Loc X.env.scope x := by first | exact .inl rfl | exact .inr rfl) (hs : swapsWith e (some (.Name x pos')) pos.line X.env = pure false := by rfl)
    (hf : X.fn x = true ∨ X.env.scope.names.lookup x = some .local := by first | exact .inl rfl | exact .inr rfl) : LS X (.Assign [.Name x pos'] e pos) (pSet i te) := by
  refine ⟨fun σv H σ F M D tk rm rs h => WS.of (ps_set hN hi hx WE.pe hs hf) ?_⟩
  refine (he.run σv H σ F M _ D.ex tk rm rs h).mono ?_
  rintro v H1 ⟨F1, M1, x, b1, rx, hx⟩
  exact ⟨F1, M1, _, b1, (rs.same b1.sm).set i rx, hx⟩
/-- self.f = e of an object that may change -/
def kPutF (C : Addr) (f : Str) (x : PV) (o : PV) (M : Mem) (Q : Mem → Prop) : Prop := match o with
  | .ptr p => match M p with | some (.obj C' fs) => C' = C ∧ fs.length < 1000 ∧ Q (M.put p (.obj C (putP f x fs))) | _ => False
  | _ => False
def pFldS (C : Addr) (f : Str) (to tv : PTE) : PTS := fun D σ M => tv D.ex σ M fun x M1 => to D.ex σ M1 fun o M2 => kPutF C f x o M2 fun M3 => D.nx σ M3
theorem LS.fld {C : Addr} {f : Str} {to : PTE} (cl : Cls X.K C) (na : NoAttr X.K C f) (ho : LE X o to) (hv : LE X e tv) (hs : swapsWith e (some (.Attribute o f pos')) pos.line X.env = pure false := by rfl) : LS X (.Assign [.Attribute o f pos'] e pos) (pFldS C f to tv) := by
  refine ⟨fun σv H σ F M D tk rm rs h => WS.of (ps_fld WE.pe WE.pe hs) ?_⟩
  refine seq2 (k := fun x o M2 => kPutF C f x o M2 fun M3 => D.nx σ M3) hv ho tk rm rs h fun x o xv ov F2 M2 H2 bh rx ro h2 => ?_
  unfold kPutF at h2
  split at h2
  · rename_i p
    cases ro
    split at h2
    · rename_i C' fs hm
      obtain ⟨hC, hl, h3⟩ := h2
      subst hC
      obtain ⟨u, e2, ru⟩ := bh.rm.mu _ _ hm
      cases ru with
      | @obj _ dx _ vs ru =>
        refine ⟨p, _, _, _, rfl, e2, cl, na, by rw [← ru.length]; exact hl, ?_⟩
        have b3 := bh.rm.behWrite (m' := .obj C' (putP f x fs)) (o := .ins C' dx (putF f xv vs)) hm (.obj (RFs.put rx ru))
        exact ⟨F2, _, σ, bh.trans b3, rs.same bh.sm, h3⟩
    · exact h2.elim
  · exact h2.elim
/-- name op= e -/
def oIp : Operator → PO2
  | .Add => oAdd
  | .Sub => oSub
  | _ => fun _ _ _ _ => False
def pAug (i : Nat) (o : PO2) (te : PTE) : PTS := fun D σ M => match σ[i]? with
  | some (some x) => te D.ex σ M fun y M1 => o x y M1 fun z M2 => D.nx (σ.set i (some z)) M2
  | _ => False
theorem LS.aug {op : Operator} {r : R2} {po : PO2} (i : Nat) {pos' : Pos} (ho : OpR X (inplaceOp op) r) (hp : POp X.K r po) (hN : X.N.Nodup) (he : LE X e te) (hi : X.N[i]? = some x := by rfl) (hx : Loc X.env.scope x := by first | exact .inl rfl | exact .inr rfl)
    (hf : X.fn x = true ∨ X.env.scope.names.lookup x = some .local := by first | exact .inl rfl | exact .inr rfl) : LS X (.AugAssign (.Name x pos') op e pos) (pAug i po te) := by
  refine ⟨fun σv H σ F M D tk rm rs h => WS.of (ps_aug (ti := r) hN hi hx WE.pe (fun pins s σ H x y v u Q I rx ry q => ho pins s σ H x y v u Q I rx ry q) hf) ?_⟩
  unfold pAug at h
  split at h
  · rename_i y hy
    obtain ⟨v, e1, rv⟩ := rs.at_ i y hy
    refine ⟨v, e1, ?_⟩
    refine (he.run σv H σ F M _ D.ex tk rm rs h).mono ?_
    rintro w H1 ⟨F1, M1, z, b1, rz, hz⟩
    refine hp F1 M1 H1 y z v w _ _ b1.rm (rv.same b1.sm) rz hz ?_
    rintro w2 H2 ⟨F2, M2, z2, b2, rz2, hz2⟩
    exact ⟨F2, M2, _, b1.trans b2, (rs.same (b1.trans b2).sm).set i rz2, hz2⟩
  · exact h.elim
theorem LS.augAdd (i : Nat) {pos' : Pos} (hN : X.N.Nodup) (he : LE X e te) (hi : X.N[i]? = some x := by rfl) (hx : Loc X.env.scope x := by first | exact .inl rfl | exact .inr rfl)
    (hf : X.fn x = true ∨ X.env.scope.names.lookup x = some .local := by first | exact .inl rfl | exact .inr rfl) : LS X (.AugAssign (.Name x pos') .Add e pos) (pAug i (oI0 fun i j => .int (i + j)) te) := LS.aug i iop_add (pop_I0 fun _ _ _ => .int _) hN he hi hx hf
theorem LS.augSub (i : Nat) {pos' : Pos} (hN : X.N.Nodup) (he : LE X e te) (hi : X.N[i]? = some x := by rfl) (hx : Loc X.env.scope x := by first | exact .inl rfl | exact .inr rfl)
    (hf : X.fn x = true ∨ X.env.scope.names.lookup x = some .local := by first | exact .inl rfl | exact .inr rfl) : LS X (.AugAssign (.Name x pos') .Sub e pos) (pAug i oSub te) := LS.aug i iop_sub (pop_I0 fun _ _ _ => .int _) hN he hi hx hf
/-- xs.append(e) of a list that may change -/
def kApp (o x : PV) (M : Mem) (Q : PQ) : Prop := match o with
  | .ptr p => match M p with | some (.lst xs) => xs.length < sizeLine ∧ Q .non (M.put p (.lst (xs ++ [x]))) | _ => False
  | _ => False
def pApp (to te : PTE) : PTE := fun E σ M Q => to E σ M fun o M1 => lstOf M1 o ≠ none ∧ te E σ M1 fun x M2 => kApp o x M2 Q
theorem LE.app {to : PTE} {apos : Pos} (ho : LE X o to) (he : LE X e te) (hbase : attributeBase o "append" X.env (eval o X.env) = eval o X.env := by rfl)
    (hfew : ((backTo pos (starEach [e] X.env)).all (fun x => !x.1) && (backToKw pos (keywordEach [] X.env)).all (fun x => x.1.isSome) && decide ([e].length + ([] : List Keyword).length + (if ([] : List Keyword).isEmpty then 0 else 1) < 30)) = true := by rfl)
    (hline : (apos.endLine == pos.line) = true := by rfl) (hs : starEach [e] X.env = (false, eval e X.env) :: starEach [] X.env := by rfl) (hplain : (backTo pos (starEach [] X.env)).any (·.1) = false := by rfl) :
    LE X (.Call (.Attribute o "append" apos) [e] [] pos) (pApp to te) := by
  refine ⟨fun σv H σ F M Q E tk rm rs h => WE.of (pe_bm PySem.F.plainAttrs_list PySem.F.slot_list_append PySem.F.type_list_append mt_append WE.pe (pa_cons WE.pe pa_nil hs) hbase hfew hline hs hplain) ?_⟩
  refine (ho.run σv H σ F M _ E tk rm rs h).mono ?_
  rintro v H1 ⟨F1, M1, x, b1, rx, hl, hx⟩
  refine ⟨?_, ?_⟩
  · cases hq : lstOf M1 x with
    | none => exact absurd hq hl
    | some xs =>
      obtain ⟨q, ws, ev, hs, _⟩ := rx.lstI b1.rm hq
      subst ev
      exact .inl ⟨rfl, _, hs⟩
  · refine (he.run σv H1 σ F1 M1 _ E (tk.tr b1) b1.rm (rs.same b1.sm) hx).mono ?_
    rintro w H2 ⟨F2, M2, y, b2, ry, hy⟩
    unfold kApp at hy
    split at hy
    · rename_i p
      cases rx
      split at hy
      · rename_i xs hm
        obtain ⟨u, e2, ru⟩ := b2.rm.mu _ _ hm
        cases ru with
        | lst ru =>
          refine ⟨p, _, w, rfl, rfl, e2, by rw [← ru.length]; exact hy.1, ?_⟩
          have b3 := b2.rm.behWrite (o := .lst _) hm (.lst (ru.append (.cons ry .nil)))
          exact ⟨F2, _, _, (b1.trans b2).trans b3, .non, hy.2⟩
      · exact hy.elim
    · exact hy.elim
end
end PL
set_option Elab.async false
set_option linter.all false
set_option maxRecDepth 100000
namespace PL
open PySem PySem.Spec PyProof.Rows L2

/-! ### what a loop goes over -/
abbrev PTI := PXK → PSt → Mem → (List PV → Mem → Prop) → Prop
def WI (X : Cx) (tg iter : Expr) : TI := fun σ H R => ∀ pins s, Inv X pins σ H s → wpAny (model X.prog X.w) X.A (eval iter X.env) (fun v s1 => wpAny (model X.prog X.w) X.A (pyIter v) (PIE X pins σ tg R) X.xe s1) X.xe s
theorem WI.pi {X : Cx} {tg iter : Expr} : PI X tg iter (WI X tg iter) := ⟨fun pins s σ H R I h => h pins s I⟩
theorem WI.of {X : Cx} {tg iter : Expr} {wi : TI} (p : PI X tg iter wi) {σ : L2.St} {H : Hp} {R : It → Hp → Prop} (h : wi σ H R) : WI X tg iter σ H R := fun pins s I => p.run pins s σ H R I h
theorem WI.mono {X : Cx} {tg iter : Expr} {σ : L2.St} {H : Hp} {R R' : It → Hp → Prop} (h : WI X tg iter σ H R) (m : ∀ J H, R J H → R' J H) : WI X tg iter σ H R' := fun pins s I =>
  thn (h pins s I) fun _ _ h1 => thn h1 fun _ _ ⟨it, fp, tn, J, H', a, b, c, d, e, r⟩ => ⟨it, fp, tn, J, H', a, b, c, d, e, m _ _ r⟩
/-- the iterator hands out these, whatever comes -/
def Stab (K : PySem.W.Frag) (J : It) (F : Hp) (xs : List PV) : Prop := ∀ (i : Nat) (F' : Hp) (M : Mem) (H : Hp), Same F F' → RM K F' M H →
  (∀ h : i < xs.length, J.go i H ∧ ∀ v H', J.yld i H v H' → ∃ F2, Beh K F' M H F2 M H' ∧ R K F2 xs[i] v) ∧ (xs.length ≤ i → J.stop i H)
structure LI (X : Cx) (tg iter : Expr) (wi : PTI) : Prop where
  run : ∀ (σv : L2.St) (H : Hp) (σ : PSt) (F : Hp) (M : Mem) (Q : List PV → Mem → Prop) (E : PXK), PTk X F M H E → RM X.K F M H → RS X.K F σ σv → wi E σ M Q →
    WI X tg iter σv H (fun J H' => ∃ F' M' xs, Beh X.K F M H F' M' H' ∧ Stab X.K J F' xs ∧ Q xs M')
theorem stab_list {K : PySem.W.Frag} {F : Hp} {a : Addr} {xs : List PV} {vs : List V} (h : SqL K F a vs) (r : RAll K F xs vs) : Stab K (Itl K a) F xs := by
  intro i F' M H sm rm
  have hH : SqL K H a vs := rm.fr.seq (sm.seq h)
  refine ⟨fun hi => ?_, fun hi => ⟨vs, hH, by rw [← r.length]; exact hi⟩⟩
  obtain ⟨v, e, rv⟩ := r.get (List.getElem?_eq_getElem hi)
  refine ⟨⟨vs, v, hH, e⟩, fun w H' y => ?_⟩
  obtain ⟨rfl, y⟩ := y
  have e2 := y vs hH
  rw [e] at e2
  cases e2
  exact ⟨F', Beh.refl rm, rv.same sm⟩
theorem stab_tup {K : PySem.W.Frag} {F : Hp} {a : Addr} {xs : List PV} {vs : List V} (h : SqT K F a vs) (r : RAll K F xs vs) : Stab K (Itt K a) F xs := by
  intro i F' M H sm rm
  have hH : SqT K H a vs := sqT_same rm.fr (sqT_same sm h)
  refine ⟨fun hi => ?_, fun hi => ⟨vs, hH, by rw [← r.length]; exact hi⟩⟩
  obtain ⟨v, e, rv⟩ := r.get (List.getElem?_eq_getElem hi)
  refine ⟨⟨vs, v, hH, e⟩, fun w H' y => ?_⟩
  obtain ⟨rfl, y⟩ := y
  have e2 := y vs hH
  rw [e] at e2
  cases e2
  exact ⟨F', Beh.refl rm, rv.same sm⟩
/-- the ints lo, lo + 1, .. -/
def rngP (lo : Int) (n : Nat) : List PV := (List.range n).map fun (i : Nat) => PV.int (lo + i)
theorem rngP_length {lo : Int} {n : Nat} : (rngP lo n).length = n := by unfold rngP; rw [List.length_map, List.length_range]
theorem stab_rng {K : PySem.W.Frag} {F : Hp} {lo : Int} {n : Nat} : Stab K (Itr lo n) F (rngP lo n) := by
  intro i F' M H sm rm
  refine ⟨fun hi => ?_, fun hi => by rw [rngP_length] at hi; exact hi⟩
  have hn : i < n := by rw [rngP_length] at hi; exact hi
  refine ⟨hn, fun w H' y => ?_⟩
  obtain ⟨rfl, rfl⟩ := y
  refine ⟨F', Beh.refl rm, ?_⟩
  have e : (rngP lo n)[i] = PV.int (lo + i) := by simp [rngP]
  rw [e]
  exact .int _
/-- a frozen list or a tuple: which it is, is told -/
def lstF : PV → Option (List PV)
  | .lst xs => some xs
  | .scr xs => some xs
  | _ => none
def tupF : PV → Option (List PV)
  | .tup xs => some xs
  | _ => none
def piL (te : PTE) : PTI := fun E σ M Q => te E σ M fun x M1 => need (lstF x) fun xs => Q xs M1
def piT (te : PTE) : PTI := fun E σ M Q => te E σ M fun x M1 => need (tupF x) fun xs => Q xs M1
def piR1 (te : PTE) : PTI := fun E σ M Q => te E σ M fun x M1 => match x with | .int j => (-(2 ^ 62) ≤ j ∧ j < 2 ^ 62) ∧ Q (rngP 0 j.toNat) M1 | _ => False
def piR2 (ta tb : PTE) : PTI := fun E σ M Q => ta E σ M fun x M1 => tb E σ M1 fun y M2 => match x, y with | .int i, .int j => (-(2 ^ 62) ≤ i ∧ i < 2 ^ 62 ∧ -(2 ^ 62) ≤ j ∧ j < 2 ^ 62) ∧ Q (rngP i (j - i).toNat) M2 | _, _ => False
section
variable {X : Cx} {tg iter e a b : Expr} {te ta tb : PTE} {pos p : Pos}
theorem LI.list (he : LE X e te) : LI X tg e (piL te) := by
  refine ⟨fun σv H σ F M Q E tk rm rs h => WI.of (pi_list WE.pe) ?_⟩
  refine (he.run σv H σ F M _ E tk rm rs h).mono ?_
  rintro v H1 ⟨F1, M1, x, b1, rx, hx⟩
  obtain ⟨xs, e1, h2⟩ := need_of hx
  cases rx with
  | lst q r => cases e1; exact ⟨_, rfl, ⟨_, SqL.of (b1.rm.fr _ _ q)⟩, F1, M1, _, b1, stab_list (SqL.of q) r, h2⟩
  | scr q r => cases e1; exact ⟨_, rfl, ⟨_, b1.rm.fr.seq q⟩, F1, M1, _, b1, stab_list q r, h2⟩
  | _ => cases e1
theorem LI.tup (he : LE X e te) : LI X tg e (piT te) := by
  refine ⟨fun σv H σ F M Q E tk rm rs h => WI.of (pi_tup WE.pe) ?_⟩
  refine (he.run σv H σ F M _ E tk rm rs h).mono ?_
  rintro v H1 ⟨F1, M1, x, b1, rx, hx⟩
  obtain ⟨xs, e1, h2⟩ := need_of hx
  cases rx with
  | tup q r => cases e1; exact ⟨_, rfl, ⟨_, sqT_same b1.rm.fr q⟩, F1, M1, _, b1, stab_tup q r, h2⟩
  | _ => cases e1
theorem LI.rng1 (hg : Gl X "range") (hm : X.mg "range" = none) (ha : LE X a ta) (hs : starEach [a] X.env = [(false, eval a X.env)] := by rfl) : LI X tg (.Call (.Name "range" p) [a] [] pos) (piR1 ta) := by
  refine ⟨fun σv H σ F M Q E tk rm rs h => WI.of (pi_range1 hg hm (pa_cons WE.pe pa_nil hs) hs) ?_⟩
  refine (ha.run σv H σ F M _ E tk rm rs h).mono ?_
  rintro v H1 ⟨F1, M1, x, b1, rx, hx⟩
  cases rx <;> first
    | exact hx.elim
    | exact ⟨_, rfl, hx.1.1, hx.1.2, F1, M1, _, b1, stab_rng, hx.2⟩
theorem LI.rng2 (hg : Gl X "range") (hm : X.mg "range" = none) (ha : LE X a ta) (hb : LE X b tb) (hs : starEach [a, b] X.env = [(false, eval a X.env), (false, eval b X.env)] := by rfl) (hs2 : starEach [b] X.env = [(false, eval b X.env)] := by rfl) : LI X tg (.Call (.Name "range" p) [a, b] [] pos) (piR2 ta tb) := by
  refine ⟨fun σv H σ F M Q E tk rm rs h => WI.of (pi_range2 hg hm (pa_cons WE.pe (pa_cons WE.pe pa_nil hs2) (by rw [hs2]; exact hs)) hs hs2) ?_⟩
  refine seq2 (k := fun x y M2 => match x, y with | .int i, .int j => (-(2 ^ 62) ≤ i ∧ i < 2 ^ 62 ∧ -(2 ^ 62) ≤ j ∧ j < 2 ^ 62) ∧ Q (rngP i (j - i).toNat) M2 | _, _ => False) ha hb tk rm rs h fun x y xv yv F2 M2 H2 bh rx ry h2 => ?_
  cases rx <;> cases ry <;> first
    | exact h2.elim
    | exact ⟨_, _, rfl, h2.1, F2, M2, _, bh, stab_rng, h2.2⟩
end

/-! ### for, while -/
def pForL (g : PTG) (tb : PTS) : List PV → PTS
  | [] => fun D σ M => D.nx σ M
  | x :: xs => fun D σ M => g x σ M fun σ1 M1 => tb { D with nx := pForL g tb xs D, bk := D.nx, ct := pForL g tb xs D } σ1 M1
def pFor (wi : PTI) (g : PTG) (tb : PTS) : PTS := fun D σ M => wi D.ex σ M fun xs M1 => pForL g tb xs D σ M1
def pWhileN (c : PTT) (tb : PTS) : Nat → PTS
  | 0 => fun _ _ _ => False
  | n + 1 => fun D σ M => c D.ex σ M fun b M1 => if b = true then tb { D with nx := pWhileN c tb n D, bk := D.nx, ct := pWhileN c tb n D } σ M1 else D.nx σ M1
def pWhile (c : PTT) (tb : PTS) : PTS := fun D σ M => ∃ n, pWhileN c tb n D σ M
section
variable {X : Cx} {tg iter c : Expr} {body : List Stmt} {wi : PTI} {g : PTG} {tb : PTS} {tt : PTT} {pos : Pos}
theorem LS.for (hp : PassesOwn (model X.prog X.w) X.A X.env X.xe) (hc : X.calm = true) (hi : LI X tg iter wi) (hg : LG X tg g) (hb : LSs X body tb) (hs : ∀ x, foldedSetIterable iter X.env x = pure x := by intro _; rfl) : LS X (.For tg iter body [] pos) (pFor wi g tb) := by
  refine ⟨fun σv H σ F M D tk rm rs h => WS.of (ps_for hp hc WI.pi WG.pg WSs.ps hs) ?_⟩
  refine (hi.run σv H σ F M _ D.ex tk rm rs h).mono ?_
  rintro J H1 ⟨F1, M1, xs, b1, st, h1⟩
  refine ⟨fun i m σv' H' => m = xs.length - i ∧ i ≤ xs.length ∧ ∃ F' M' σ', Beh X.K F M H F' M' H' ∧ Same F1 F' ∧ RS X.K F' σ' σv' ∧ pForL g tb (xs.drop i) D σ' M', ⟨xs.length, rfl, Nat.zero_le _, F1, M1, σ, b1, Same.refl _, rs.same b1.sm, h1⟩, ?_⟩
  rintro i m σv2 H2 ⟨rfl, hi2, F2, M2, σ2, b2, sm2, rs2, h2⟩
  obtain ⟨s1, s2⟩ := st i F2 M2 H2 sm2 b2.rm
  by_cases hlt : i < xs.length
  · obtain ⟨go, yl⟩ := s1 hlt
    rw [List.drop_eq_getElem_cons hlt] at h2
    refine .inr ⟨go, _, fun σv' H' n => ⟨_, (show xs.length - (i + 1) < xs.length - i by omega), n⟩, fun v H3 y => ?_⟩
    obtain ⟨F3, b3, r3⟩ := yl v H3 y
    refine (hg.run σv2 H3 σ2 F3 M2 _ v _ b3.rm (rs2.same b3.sm) r3 h2).mono ?_
    rintro σv4 H4 ⟨F4, M4, σ4, b4, rs4, h4⟩
    have b24 := b3.trans b4
    have b04 := b2.trans b24
    refine (hb.run σv4 H4 σ4 F4 M4 { D with nx := pForL g tb (xs.drop (i + 1)) D, bk := D.nx, ct := pForL g tb (xs.drop (i + 1)) D } (tk.tr b04) b04.rm rs4 h4).mono ⟨?_, fun _ _ q => q.tr b04, fun _ _ q => q.tr b04, ?_⟩
    · rintro σv5 H5 ⟨F5, M5, σ5, b5, rs5, h5⟩
      exact ⟨rfl, hlt, F5, M5, σ5, b04.trans b5, (sm2.trans b24.sm).trans b5.sm, rs5, h5⟩
    · rintro σv5 H5 ⟨F5, M5, σ5, b5, rs5, h5⟩
      exact ⟨rfl, hlt, F5, M5, σ5, b04.trans b5, (sm2.trans b24.sm).trans b5.sm, rs5, h5⟩
  · have e : i = xs.length := by omega
    subst e
    rw [List.drop_length] at h2
    exact .inl ⟨s2 (Nat.le_refl _), F2, M2, σ2, b2, rs2, h2⟩
theorem LS.while (hp : PassesOwn (model X.prog X.w) X.A X.env X.xe) (hc : LT X c tt) (hb : LSs X body tb) : LS X (.While c body [] pos) (pWhile tt tb) := by
  refine ⟨fun σv H σ F M D tk rm rs h => WS.of (ps_while hp WT.pt WSs.ps) ?_⟩
  obtain ⟨n, h⟩ := h
  refine ⟨fun m σv' H' => ∃ F' M' σ', Beh X.K F M H F' M' H' ∧ RS X.K F' σ' σv' ∧ pWhileN tt tb m D σ' M', ⟨n, F, M, σ, Beh.refl rm, rs, h⟩, ?_⟩
  rintro m σv2 H2 ⟨F2, M2, σ2, b2, rs2, h2⟩
  cases m with
  | zero => exact h2.elim
  | succ m =>
    refine (hc.run σv2 H2 σ2 F2 M2 _ D.ex (tk.tr b2) b2.rm rs2 h2).mono ?_
    rintro b H3 ⟨F3, M3, b3, h3⟩
    split
    · rename_i e
      rw [if_pos e] at h3
      have b03 := b2.trans b3
      refine ⟨_, fun σv' H' n => ⟨m, Nat.lt_succ_self m, n⟩, ?_⟩
      refine (hb.run σv2 H3 σ2 F3 M3 { D with nx := pWhileN tt tb m D, bk := D.nx, ct := pWhileN tt tb m D } (tk.tr b03) b03.rm (rs2.same b3.sm) h3).mono ⟨?_, fun _ _ q => q.tr b03, fun _ _ q => q.tr b03, ?_⟩
      · rintro σv5 H5 ⟨F5, M5, σ5, b5, rs5, h5⟩
        exact ⟨F5, M5, σ5, b03.trans b5, rs5, h5⟩
      · rintro σv5 H5 ⟨F5, M5, σ5, b5, rs5, h5⟩
        exact ⟨F5, M5, σ5, b03.trans b5, rs5, h5⟩
    · rename_i e
      rw [if_neg e] at h3
      exact ⟨F3, M3, σ2, b2.trans b3, rs2.same b3.sm, h3⟩
end

/-! ### list comprehensions over one name -/
abbrev PTTs := PTT
def pYes : PTT := fun _ _ M Q => Q true M
def pLcL (i : Nat) (tt : PTT) (te : PTE) : List PV → List PV → PSt → Mem → PQ → Prop
  | [], acc => fun _ M Q => Q (.lst acc) M
  | x :: xs, acc => fun σ M Q => tt noX (σ.set i (some x)) M fun b M1 => if b = true then te noX (σ.set i (some x)) M1 fun y M2 => pLcL i tt te xs (acc ++ [y]) σ M2 Q else pLcL i tt te xs acc σ M1 Q
def pLc (wi : PTI) (i : Nat) (tt : PTT) (te : PTE) : PTE := fun E σ M Q => wi E σ M fun xs M1 => xs.length ≤ sizeLine ∧ pLcL i tt te xs [] σ M1 Q
/-- a clause's tests -/
structure LTs (X : Cx) (ifs : List Expr) (t : PTT) : Prop where
  run : ∀ (σv : L2.St) (H : Hp) (σ : PSt) (F : Hp) (M : Mem) (Q : Bool → Mem → Prop), RM X.K F M H → RS X.K F σ σv → t noX σ M Q →
    ∀ pins s, Inv X pins σv H s → wpAny (model X.prog X.w) X.A (forIn ifs true fun c r => if r = true then do let ok ← isTrue c X.env (eval c X.env); pure (ForInStep.yield ok) else pure (ForInStep.yield r)) (TP X pins σv (LB X.K F M H Q)) X.xe s
theorem LTs.nil {X : Cx} : LTs X [] pYes := ⟨fun σv H σ F M Q rm rs h pins s I => pts_nil.run pins s σv H _ I ⟨F, M, Beh.refl rm, h⟩⟩
theorem LTs.one {X : Cx} {c : Expr} {t : PTT} (hc : LT X c t) : LTs X [c] t := ⟨fun σv H σ F M Q rm rs h pins s I => (pts_one WT.pt).run pins s σv H _ I (hc.run σv H σ F M Q noX PTk.no rm rs h)⟩
section
variable {X : Cx} {elt tg iter : Expr} {ifs : List Expr} {scope : Scope} {x : Str} {i : Nat} {pos pt : Pos} {wi : PTI} {tt : PTT} {te : PTE}
abbrev Blk (X : Cx) (scope : Scope) (s : Shared) (H : Hp) (C : Addr) (cl : List (Str × Addr)) (fp : List Addr) : Cx := X.blk s H scope (compEnvC scope cl C X.env) fp
theorem hid_app {K : PySem.W.Frag} {F H : Hp} {M : Mem} {p : Addr} {o : HO} (r : RM K F M H) (nF : F p = none) (nM : M p = none) : RM K F M (upd H p o) := (r.behHid nF nM).1
/-- the turns of the block, D the new list -/
theorem lc_turns {te' : TE} {tt' : TT} (hi : i < X.N.length)
    (ht : ∀ (σv : L2.St) (H : Hp) (σ : PSt) (F : Hp) (M : Mem) (Q : Bool → Mem → Prop), RM X.K F M H → RS X.K F σ σv → tt noX σ M Q → tt' σv H (LB X.K F M H Q))
    (he : ∀ (σv : L2.St) (H : Hp) (σ : PSt) (F : Hp) (M : Mem) (Q : PQ), RM X.K F M H → RS X.K F σ σv → te noX σ M Q → te' σv H (LQ X.K F M H Q))
    (mt : ∀ σv H Q Q', tt' σv H Q → (∀ b H', Q b H' → Q' b H') → tt' σv H Q') (me : ∀ σv H Q Q', te' σv H Q → (∀ b H', Q b H' → Q' b H') → te' σv H Q')
    {σv : L2.St} {σ : PSt} {F M H F1 M1 H1} {Q : PQ} {J : It} {xs : List PV} (b1 : Beh X.K F M H F1 M1 H1) (rs : RS X.K F σ σv) (st : Stab X.K J F1 xs) (hz : xs.length ≤ sizeLine) (h1 : pLcL i tt te xs [] σ M1 Q) {D : Addr} (nD : H1 D = none) :
    ∃ W : Nat → Nat → Hp → Prop, (∃ m, W 0 m (upd H1 D (.lst []))) ∧ ∀ j m H', W j m H' →
      (J.stop j H' ∧ LQ X.K F M H Q (.ref D) H') ∨ (J.go j H' ∧ ∃ Nx : Hp → Prop, (∀ H2, Nx H2 → ∃ m', m' < m ∧ W (j + 1) m' H2) ∧ ∀ v H2, J.yld j H' v H2 → gName i v (wipe σv [i]) H2 fun σ2 H3 => wipe σ2 [i] = wipe σv [i] ∧ tt' σ2 H3 fun b H4 =>
        if b = true then te' σ2 H4 fun y H5 => ∃ acc, H5 D = some (.lst acc) ∧ acc.length < sizeLine ∧ Nx (upd H5 D (.lst (acc ++ [y]))) else Nx H4) := by
  obtain ⟨nF, nM⟩ := b1.rm.nones nD
  have b1' := b1.trans ((b1.rm.behHid (o := .lst []) nF nM).2 nD)
  refine ⟨fun j m H' => m = xs.length - j ∧ j ≤ xs.length ∧ ∃ F' M' acc vacc, Beh X.K F M H F' M' H' ∧ Same F1 F' ∧ F' D = none ∧ M' D = none ∧ H' D = some (.lst vacc) ∧ RAll X.K F' acc vacc ∧ acc.length ≤ j ∧ pLcL i tt te (xs.drop j) acc σ M' Q,
    ⟨xs.length, rfl, Nat.zero_le _, F1, M1, [], [], b1', Same.refl _, nF, nM, upd_same, .nil, Nat.le_refl _, h1⟩, ?_⟩
  rintro j m H2 ⟨rfl, hj, F2, M2, acc, vacc, b2, sm2, nF2, nM2, hD, ra, hl, h2⟩
  obtain ⟨s1, s2⟩ := st j F2 M2 H2 sm2 b2.rm
  by_cases hlt : j < xs.length
  · obtain ⟨go, yl⟩ := s1 hlt
    rw [List.drop_eq_getElem_cons hlt] at h2
    refine .inr ⟨go, _, fun H' n => ⟨_, (show xs.length - (j + 1) < xs.length - j by omega), n⟩, fun v H3 y => ?_⟩
    obtain ⟨F3, b3, r3⟩ := yl v H3 y
    have keepD : ∀ {Fa : Hp} {Ma : Mem} {Ha : Hp}, Beh X.K F2 M2 H2 Fa Ma Ha → Fa D = none ∧ Ma D = none ∧ Ha D = some (.lst vacc) := fun {Fa Ma Ha} b => by
      refine ⟨?_, ?_, b.fr.keep D _ hD nM2⟩
      · cases q : Fa D with
        | none => rfl
        | some u =>
          rcases b.fg D (by rw [q]; exact Option.some_ne_none _) with z | z | z
          · exact absurd nF2 z
          · exact absurd nM2 z
          · rw [hD] at z; cases z
      · cases q : Ma D with
        | none => rfl
        | some u =>
          rcases b.fr.grow D (by rw [q]; exact Option.some_ne_none _) with z | z
          · exact absurd nM2 z
          · rw [hD] at z; cases z
    have hw : wipe σv [i] = σv.set i none := rfl
    have e1 : (wipe σv [i]).set i (some v) = σv.set i (some v) := by rw [hw, List.set_set]
    show wipe ((wipe σv [i]).set i (some v)) [i] = wipe σv [i] ∧ _
    rw [e1]
    refine ⟨by show (σv.set i (some v)).set i none = σv.set i none; rw [List.set_set], ?_⟩
    have rs3 : RS X.K F3 (σ.set i (some xs[j])) (σv.set i (some v)) := (rs.same (b2.trans b3).sm).set i r3
    refine mt _ _ _ _ (ht _ H3 _ F3 M2 _ b3.rm rs3 h2) ?_
    rintro b H4 ⟨F4, M4, b4, h4⟩
    have b24 := b3.trans b4
    split
    · rename_i e
      rw [if_pos e] at h4
      refine me _ _ _ _ (he _ H4 _ F4 M4 _ b4.rm (rs3.same b4.sm) h4) ?_
      rintro yv H5 ⟨F5, M5, y5, b5, r5, h5⟩
      have b25 := b24.trans b5
      obtain ⟨k1, k2, k3⟩ := keepD b25
      refine ⟨vacc, k3, by rw [← ra.length]; omega, rfl, hlt, F5, M5, acc ++ [y5], vacc ++ [yv], ?_, sm2.trans b25.sm, k1, k2, upd_same, (ra.same b25.sm).append (.cons r5 .nil), by rw [List.length_append]; show acc.length + 1 ≤ j + 1; omega, h5⟩
      have b05 := b2.trans b25
      have x : RM X.K F5 M5 (upd H5 D (.lst (vacc ++ [yv]))) := hid_app b05.rm k1 k2
      refine ⟨b05.sm, x, ⟨fun c u hc nc => ?_, b05.fr.grow, fun c hc => ?_⟩, b05.fg⟩
      · have hcD : c ≠ D := fun z => by
          subst z
          rcases b1.fr.there c (by rw [hc]; exact Option.some_ne_none _) with _
          exact absurd nD (b1.fr.there c (by rw [hc]; exact Option.some_ne_none _))
        rw [upd_ne hcD]
        exact b05.fr.keep c u hc nc
      · by_cases hcD : c = D
        · subst hcD; rw [upd_same]; exact Option.some_ne_none _
        · rw [upd_ne hcD]; exact b05.fr.there c hc
    · rename_i e
      rw [if_neg e] at h4
      obtain ⟨k1, k2, k3⟩ := keepD b24
      exact ⟨rfl, hlt, F4, M4, acc, vacc, b2.trans b24, sm2.trans b24.sm, k1, k2, k3, ra.same b24.sm, by omega, h4⟩
  · have e : j = xs.length := by omega
    subst e
    rw [List.drop_length] at h2
    refine .inl ⟨s2 (Nat.le_refl _), ?_⟩
    have sm : Same F2 (upd F2 D (.lst vacc)) := same_upd nF2
    refine ⟨upd F2 D (.lst vacc), M2, _, ⟨b2.sm.trans sm, ⟨fun c u hc => ?_, fun c hc => ?_, fun c mo hc => ?_⟩, b2.fr, fun c hc => ?_⟩, .lst upd_same (ra.same sm), h2⟩
    · by_cases hcD : c = D
      · subst hcD; rw [upd_same] at hc; cases hc; exact hD
      · rw [upd_ne hcD] at hc; exact b2.rm.fr c u hc
    · have hcD : c ≠ D := fun z => hc (by rw [z]; exact nM2)
      rw [upd_ne hcD]; exact b2.rm.dj c hc
    · obtain ⟨u, e1, e2⟩ := b2.rm.mu c mo hc
      exact ⟨u, e1, e2.same sm⟩
    · by_cases hcD : c = D
      · subst hcD
        right; right
        cases q : H c with
        | none => rfl
        | some u => exact absurd nD (b1.fr.there c (by rw [q]; exact Option.some_ne_none _))
      · rw [upd_ne hcD] at hc; exact b2.fg c hc
def TBlk (X : Cx) (scope : Scope) (ifs : List Expr) : TT := fun σ H Q => ∀ s0 H0 C cl fp pins s, Inv (Blk X scope s0 H0 C cl fp) pins σ H s →
  wpAny (model X.prog X.w) X.A (forIn ifs true fun c r => if r = true then do let ok ← isTrue c (Blk X scope s0 H0 C cl fp).env (eval c (Blk X scope s0 H0 C cl fp).env); pure (ForInStep.yield ok) else pure (ForInStep.yield r)) (TP (Blk X scope s0 H0 C cl fp) pins σ Q) (fun _ _ => False) s
def EBlk (X : Cx) (scope : Scope) (elt : Expr) : TE := fun σ H Q => ∀ s0 H0 C cl fp, WE (Blk X scope s0 H0 C cl fp) elt σ H Q
theorem TBlk.mono {σv H Q Q'} (h : TBlk X scope ifs σv H Q) (m : ∀ b H', Q b H' → Q' b H') : TBlk X scope ifs σv H Q' := fun s0 H0 C cl fp pins s I => thn (h s0 H0 C cl fp pins s I) fun b s' ⟨H', I', q⟩ => ⟨H', I', m b H' q⟩
theorem EBlk.mono {σv H Q Q'} (h : EBlk X scope elt σv H Q) (m : ∀ b H', Q b H' → Q' b H') : EBlk X scope elt σv H Q' := fun s0 H0 C cl fp => (h s0 H0 C cl fp).mono m
theorem lc_core' (hi : LI X tg iter wi) (hl : i < X.N.length)
    (ht : ∀ (s : Shared) (H : Hp) (C : Addr) (cl : List (Str × Addr)) (fp : List Addr), LTs (Blk X scope s H C cl fp) ifs tt)
    (he : ∀ (s : Shared) (H : Hp) (C : Addr) (cl : List (Str × Addr)) (fp : List Addr), LE (Blk X scope s H C cl fp) elt te)
    {σv : L2.St} {H : Hp} {σ : PSt} {F : Hp} {M : Mem} {Q : PQ} {E : PXK} (tk : PTk X F M H E) (rm : RM X.K F M H) (rs : RS X.K F σ σv) (h : pLc wi i tt te E σ M Q) : tLc (WI X tg iter) (gName i) (TBlk X scope ifs) (EBlk X scope elt) [i] σv H (LQ X.K F M H Q) := by
  refine (hi.run σv H σ F M _ E tk rm rs h).mono ?_
  rintro J H1 ⟨F1, M1, xs, b1, st, hz, h1⟩
  intro D nD
  exact lc_turns (te := te) (tt := tt) (te' := EBlk X scope elt) (tt' := TBlk X scope ifs) hl (fun σv H σ F M Q rm rs h s0 H0 C cl fp pins s I => (ht s0 H0 C cl fp).run σv H σ F M Q rm rs h pins s I)
    (fun σv H σ F M Q rm rs h s0 H0 C cl fp => (he s0 H0 C cl fp).run σv H σ F M Q noX PTk.no rm rs h)
    (fun σv H Q Q' h m => TBlk.mono h m) (fun σv H Q Q' h m => EBlk.mono h m) b1 rs st hz h1 nD
/-- [elt for x in iter if ..] -/
theorem LE.lc (hc : X.calm = true) (hN : X.N.Nodup) (hi : LI X (.Name x pt) iter wi) (ok : BlkOk X.N X.env.scope scope [(x, i)])
    (hg : ∀ (s : Shared) (H : Hp) (C : Addr) (cl : List (Str × Addr)) (fp : List Addr), PG (Blk X scope s H C cl fp) (.Name x pt) (gName i))
    (ht : ∀ (s : Shared) (H : Hp) (C : Addr) (cl : List (Str × Addr)) (fp : List Addr), LTs (Blk X scope s H C cl fp) ifs tt)
    (he : ∀ (s : Shared) (H : Hp) (C : Addr) (cl : List (Str × Addr)) (fp : List Addr), LE (Blk X scope s H C cl fp) elt te)
    (hs : ∀ v, foldedSetIterable iter X.env v = pure v := by intro _; rfl) : LE X (.ListComp elt [⟨.Name x pt, iter, ifs, 0⟩] scope pos) (pLc wi i tt te) := by
  refine ⟨fun σv H σ F M Q E tk rm rs h => ?_⟩
  refine WE.of (pe_lc (own := [(x, i)]) (g := gName i) (tt := TBlk X scope ifs) (te := EBlk X scope elt) hc hN WI.pi ok hg (fun s0 H0 C cl fp => ⟨fun pins s σ H Q I hh => hh s0 H0 C cl fp pins s I⟩) (fun s0 H0 C cl fp => ⟨fun pins s σ H Q I hh => hh s0 H0 C cl fp pins s I⟩) hs) ?_
  exact lc_core' hi (List.getElem?_eq_some_iff.mp (ok.ix (x, i) (by simp))).1 ht he tk rm rs h
/-- y = [elt for x in iter if ..] on one row -/
theorem LS.setLc (k : Nat) {y : Str} {py spos : Pos} (hc : X.calm = true) (hN : X.N.Nodup) (hy : X.N[k]? = some y) (hyl : X.env.scope.names.lookup y = some .local)
    (hsw : swapsWith (.ListComp elt [⟨.Name x pt, iter, ifs, 0⟩] scope pos) (some (.Name y py)) spos.line X.env = pure true) (hi : LI X (.Name x pt) iter wi) (ok : BlkOk X.N X.env.scope scope [(x, i)])
    (hg : ∀ (s : Shared) (H : Hp) (C : Addr) (cl : List (Str × Addr)) (fp : List Addr), PG (Blk X scope s H C cl fp) (.Name x pt) (gName i))
    (ht : ∀ (s : Shared) (H : Hp) (C : Addr) (cl : List (Str × Addr)) (fp : List Addr), LTs (Blk X scope s H C cl fp) ifs tt)
    (he : ∀ (s : Shared) (H : Hp) (C : Addr) (cl : List (Str × Addr)) (fp : List Addr), LE (Blk X scope s H C cl fp) elt te)
    (hs : ∀ v, foldedSetIterable iter X.env v = pure v := by intro _; rfl) : LS X (.Assign [.Name y py] (.ListComp elt [⟨.Name x pt, iter, ifs, 0⟩] scope pos) spos) (pSet k (pLc wi i tt te)) := by
  refine ⟨fun σv H σ F M D tk rm rs h => ?_⟩
  refine WS.of (ps_setLc (own := [(x, i)]) (g := gName i) (tt := TBlk X scope ifs) (te := EBlk X scope elt) hc hN hy hyl hsw WI.pi ok hg (fun s0 H0 C cl fp => ⟨fun pins s σ H Q I hh => hh s0 H0 C cl fp pins s I⟩) (fun s0 H0 C cl fp => ⟨fun pins s σ H Q I hh => hh s0 H0 C cl fp pins s I⟩) hs) ?_
  have q := lc_core' (elt := elt) (ifs := ifs) (scope := scope) hi (List.getElem?_eq_some_iff.mp (ok.ix (x, i) (by simp))).1 ht he tk rm rs h
  have m : ∀ v H', LQ X.K F M H (fun x M1 => D.nx (σ.set k (some x)) M1) v H' → gName k v σv H' (LD X.K F M H D).nx := fun v H' ⟨F1, M1, y, b1, ry, hy⟩ => ⟨F1, M1, _, b1, (rs.same b1.sm).set k ry, hy⟩
  refine WI.mono q fun J H1 h1 => ?_
  intro D' nD
  obtain ⟨W, w0, w1⟩ := h1 D' nD
  refine ⟨W, w0, fun j m' H' w => ?_⟩
  rcases w1 j m' H' w with ⟨s1, s2⟩ | s
  · exact .inl ⟨s1, m _ _ s2⟩
  · exact .inr s
end

/-! ### a def keeps its promise -/
section
variable {P : Program} {w : World} {K : PySem.W.Frag} {mg : Str → Option Value} {base : Heap}
theorem Fn.ok {x qual : Str} {st : Stmt} {f : Addr} {fd : FuncData} {N ps : List Str} {k n : Nat} {sp : PSp} (F : Fun K x qual st f fd) (S : FnScope N ps (defScope st)) (hn : N.length = n)
    (body : ∀ (cdv : Value) (A : Around) (outer : List Env) (s : Shared) (H : Hp) (E : XK), Room k (A.deeper (envOfC qual (defScope st) s.heap.objs.size f cdv)) →
      ∃ t, LSs (cxOf (L2.CX P w) P w K mg base N qual (defScope st) f cdv A outer s H E) (defBody st) t ∧ ∀ xs M Q Ep, xs.length = ps.length → sp xs M Q Ep → t { nx := fun _ M' => Q .non M', rt := Q, ex := Ep } (pstart n xs) M) :
    FnOk P w K mg base (L2.CX P w) (k + 1) f fd ps (lift K ps.length sp) := by
  refine F.okX S (fun vs H Q E h => h.1) (fun cdv A outer s H vs Q E hr h => ?_)
  obtain ⟨t, ht, hb⟩ := body cdv A outer s H E hr
  obtain ⟨hl, F0, M, xs, Qp, Ep, rm, rx, h1, k1, k2⟩ := h
  refine ⟨_, WSs.ps, ?_⟩
  have rs : RS K F0 (pstart n xs) (L2.start N vs) := hn ▸ RS.start rx
  have tk : PTk (cxOf (L2.CX P w) P w K mg base N qual (defScope st) f cdv A outer s H E) F0 M H Ep :=
    (takes_of (X := cxOf (L2.CX P w) P w K mg base N qual (defScope st) f cdv A outer s H E) rfl rfl rfl rfl).imp fun c d _ H' q => k2 c d H' q
  refine (ht.run (L2.start N vs) H (pstart n xs) F0 M { nx := fun _ M' => Qp .non M', rt := Qp, ex := Ep } tk rm rs (hb xs M Qp Ep (by rw [rx.length, hl]) h1)).mono ⟨?_, fun v H' q => k1 v H' q, fun _ _ ⟨_, _, _, _, _, z⟩ => z.elim, fun _ _ ⟨_, _, _, _, _, z⟩ => z.elim⟩
  rintro σ' H' ⟨F1, M1, σ1, b1, rs1, q1⟩
  exact k1 .non H' ⟨F1, M1, .non, b1, .non, q1⟩
end
end PL
set_option Elab.async false
set_option linter.all false
set_option maxRecDepth 100000
namespace PL
open PySem PySem.Spec PyProof.Rows L2

/-! ### all(..), any(..) of a list of bools -/
def blsOf : List PV → Option (List Bool)
  | [] => some []
  | .bl b :: r => (blsOf r).map (b :: ·)
  | _ => none
def intsOf : List PV → Option (List Int)
  | [] => some []
  | .int i :: r => (intsOf r).map (i :: ·)
  | _ => none
theorem blsOf_map : ∀ bs : List Bool, blsOf (bs.map PV.bl) = some bs
  | [] => rfl
  | b :: r => by
    show (blsOf (r.map PV.bl)).map (b :: ·) = _
    rw [blsOf_map r]
    rfl
theorem intsOf_map : ∀ bs : List Int, intsOf (bs.map PV.int) = some bs
  | [] => rfl
  | b :: r => by
    show (intsOf (r.map PV.int)).map (b :: ·) = _
    rw [intsOf_map r]
    rfl
theorem blsOf_eq : ∀ {xs : List PV} {bs : List Bool}, blsOf xs = some bs → xs = bs.map PV.bl
  | [], bs, h => by cases h; rfl
  | .bl b :: r, bs, h => by
    cases hr : blsOf r with
    | none =>
      have h' : (blsOf r).map (b :: ·) = some bs := h
      rw [hr] at h'; cases h'
    | some cs =>
      have h' : (blsOf r).map (b :: ·) = some bs := h
      rw [hr] at h'; cases h'
      rw [blsOf_eq hr]; rfl
theorem intsOf_eq : ∀ {xs : List PV} {bs : List Int}, intsOf xs = some bs → xs = bs.map PV.int
  | [], bs, h => by cases h; rfl
  | .int b :: r, bs, h => by
    cases hr : intsOf r with
    | none =>
      have h' : (intsOf r).map (b :: ·) = some bs := h
      rw [hr] at h'; cases h'
    | some cs =>
      have h' : (intsOf r).map (b :: ·) = some bs := h
      rw [hr] at h'; cases h'
      rw [intsOf_eq hr]; rfl
theorem RAll.bls {K : PySem.W.Frag} {F : Hp} : ∀ {bs : List Bool} {vs : List V}, RAll K F (bs.map PV.bl) vs → vs = bs.map V.bl
  | [], _, .nil => rfl
  | b :: r, _, .cons (.bl _) t => by rw [RAll.bls t]; rfl
theorem RAll.intsI {K : PySem.W.Frag} {F : Hp} : ∀ {bs : List Int} {vs : List V}, RAll K F (bs.map PV.int) vs → vs = bs.map V.int
  | [], _, .nil => rfl
  | b :: r, _, .cons (.int _) t => by rw [RAll.intsI t]; rfl
def kAll (x : PV) (M : Mem) (Q : PQ) : Prop := need (lstOf M x) fun xs => need (blsOf xs) fun bs => Q (.bl (bs.all id)) M
def kAny (x : PV) (M : Mem) (Q : PQ) : Prop := need (lstOf M x) fun xs => need (blsOf xs) fun bs => Q (.bl (bs.any id)) M
section
variable {X : Cx} {a b c e : Expr} {ta tb tc te : PTE} {pos p p2 pos2 : Pos} {es : List Expr} {t : PTA} {x : Str}
theorem LE.all (hc : X.calm = true) (hg : Gl X "all") (hm : X.mg "all" = none) (ha : LA X [e] t) (he : starEach [e] X.env = (false, eval e X.env) :: starEach [] X.env := by rfl) : LE X (.Call (.Name "all" p) [e] [] pos) (pCallB (on1 kAll) t) := by
  refine LE.callB (cr_all hc) (fun F M H xs vs Q Qv rm rx h k => ?_) hg hm (by decide +kernel) ha (he := he)
  obtain ⟨x, ex, h1⟩ := on1_of h
  subst ex
  obtain ⟨v, ev, rx1⟩ := rx.one
  subst ev
  obtain ⟨ys, e1, h2⟩ := need_of h1
  obtain ⟨bs, e2, h3⟩ := need_of h2
  obtain ⟨q, ws, ev, hs, ra⟩ := rx1.lstI rm e1
  subst ev
  rw [blsOf_eq e2] at ra
  rw [ra.bls] at hs
  exact ⟨q, bs, rfl, hs, k _ _ (LQ.now rm (.bl _) h3)⟩
theorem LE.any (hc : X.calm = true) (hg : Gl X "any") (hm : X.mg "any" = none) (ha : LA X [e] t) (he : starEach [e] X.env = (false, eval e X.env) :: starEach [] X.env := by rfl) : LE X (.Call (.Name "any" p) [e] [] pos) (pCallB (on1 kAny) t) := by
  refine LE.callB (cr_any hc) (fun F M H xs vs Q Qv rm rx h k => ?_) hg hm (by decide +kernel) ha (he := he)
  obtain ⟨x, ex, h1⟩ := on1_of h
  subst ex
  obtain ⟨v, ev, rx1⟩ := rx.one
  subst ev
  obtain ⟨ys, e1, h2⟩ := need_of h1
  obtain ⟨bs, e2, h3⟩ := need_of h2
  obtain ⟨q, ws, ev, hs, ra⟩ := rx1.lstI rm e1
  subst ev
  rw [blsOf_eq e2] at ra
  rw [ra.bls] at hs
  exact ⟨q, bs, rfl, hs, k _ _ (LQ.now rm (.bl _) h3)⟩
end

/-! ### max(t) of a tuple of ints -/
section
variable {prog : Program} {w : World} {A : Around} {E : Value → Shared → Prop} {s : Shared} {l : Addr}
theorem max_tupRaw {its : List Value} {ns : List Int} {Q : Value → Shared → Prop} (hh : A.handled = none) (hl : s.heap.IsTuple l its.toArray) (hi : IntsAre its ns) (hne : 0 < ns.length)
    (h : ∀ h' tk m t', (∀ b o, s.heap.get? b = some o → h'.get? b = some o) → m ∈ ns → (∀ a, a ∈ ns → a ≤ m) → Q (.int m t') { s with heap := h', toks := tk }) : wpAny (model prog w) A (call (.builtin "max") [.ref l]) Q E s := by
  obtain ⟨xs, e⟩ := hi.allInts.items
  have hn : numsOf (intItems xs).toList = ns := by rw [← e]; exact hi.numsOf
  rw [nums_intItems] at hn
  subst hn
  rw [e] at hl
  have hsz : 0 < xs.size := by simpa using hne
  have hlt : l < s.heap.objs.size := by
    obtain ⟨_, q, _⟩ := hl
    exact Heap.lt_size q
  have push1 : ∀ b o, s.heap.get? b = some o → (s.heap.push { cls := .type "tuple_iterator", data := .fields #[.ref l, .int 0 0] }).get? b = some o := fun b o q => Heap.get?_push_of_some _ q
  refine call_max_walk (wpAny_pyIter_tuple hl ?_)
  refine ⟨_, _, _, _, _, _, _, rfl, Walks.tuple (A := A.in1) hh _ l (Nat.ne_of_lt hlt) (intItems xs), ⟨⟨_, Heap.get?_push_size _ rfl, rfl, rfl⟩, hl.push _⟩, fun b hb => ?_, by simpa [intItems] using hsz, CmpOf.ints_gt (numAt xs) (fun _ _ => intItems_at), fun v h' tk hP hk => ?_⟩
  · show b < (s.heap.push _).objs.size
    rw [Heap.size_push]
    have hb2 : b = s.heap.objs.size ∨ b = l := by simpa using hb
    rcases hb2 with e1 | e1
    · rw [e1]; exact Nat.lt_succ_self _
    · rw [e1]; exact Nat.lt_succ_of_lt hlt
  · obtain ⟨t, rfl⟩ := intItems_at (by simpa [intItems] using hP)
    obtain ⟨h1, h2⟩ := argBest_gt (numAt xs) (xs.size - 1)
    refine h h' tk _ t (fun b o q => hk b o (fun hm => ?_) (push1 b o q)) ?_ fun a ha => ?_
    · have : b = s.heap.objs.size := by simpa using hm
      exact absurd (this ▸ Heap.lt_size q) (Nat.lt_irrefl _)
    · rw [numAt_eq]; exact PySem.getD_mem (by rw [List.length_map, Array.length_toList]; exact Nat.lt_of_le_of_lt h1 (by omega))
    · obtain ⟨j, hj, rfl⟩ := mem_getD ha
      have hj' : j < xs.size := by simpa using hj
      rw [← numAt_eq]; exact h2 j (by omega)
end
def kMaxT (x : PV) (M : Mem) (Q : PQ) : Prop := need (tupF x) fun xs => need (intsOf xs) fun ns => 0 < ns.length ∧ ∀ m, m ∈ ns → (∀ y, y ∈ ns → y ≤ m) → Q (.int m) M
section
variable {X : Cx} {a b c e : Expr} {ta tb tc te : PTE} {pos p p2 pos2 : Pos} {es : List Expr} {t : PTA} {x : Str}
theorem cr_maxT (hc : X.calm = true) : CallR X (.builtin "max") (fun vs H Q => ∃ (a : Addr) (ns : List Int), vs = [V.ref a] ∧ SqT X.K H a (ns.map V.int) ∧ 0 < ns.length ∧ ∀ m, m ∈ ns → (∀ y, y ∈ ns → y ≤ m) → Q (.int m) H) := by
  rintro pins s σ H vs us Q I r ⟨a, ns, ev, hs, hne, q⟩
  subst ev
  obtain ⟨its, rv, hl, _⟩ := I.tuple hs
  rw [Vals.ref1 r]
  exact max_tupRaw (I.ok.hd hc) hl (intsAre_of rv) hne fun h' tk m t' hk h1 h2 => ⟨.int _, H, I.kept hk, ⟨_, rfl⟩, q m h1 h2⟩
theorem LE.maxT (hc : X.calm = true) (hg : Gl X "max") (hm : X.mg "max" = none) (ha : LA X [e] t) (he : starEach [e] X.env = (false, eval e X.env) :: starEach [] X.env := by rfl) : LE X (.Call (.Name "max" p) [e] [] pos) (pCallB (on1 kMaxT) t) := by
  refine LE.callB (cr_maxT hc) (fun F M H xs vs Q Qv rm rx h k => ?_) hg hm (by decide +kernel) ha (he := he)
  obtain ⟨x, ex, h1⟩ := on1_of h
  subst ex
  obtain ⟨v, ev, rx1⟩ := rx.one
  subst ev
  obtain ⟨ys, e1, h2⟩ := need_of h1
  obtain ⟨ns, e2, h3, h4⟩ := need_of h2
  cases rx1 with
  | tup q ra =>
    cases e1
    rw [intsOf_eq e2] at ra
    have hs := sqT_same rm.fr q
    rw [ra.intsI] at hs
    exact ⟨_, ns, rfl, hs, h3, fun m h5 h6 => k _ _ (LQ.now rm (.int _) (h4 m h5 h6))⟩
  | _ => cases e1
end
/-! ### tuple(reversed(x)) -/
theorem nolen_rt : typeLookup (.type "reversed") "__len__" = pure none := by
  rw [typeLookup_type, builtinLookup_eq_fast]
  kernel_rfl
theorem hint_rt : typeLookup (.type "reversed") "__length_hint__" = pure (some (.builtin "reversed.__length_hint__")) := by
  rw [typeLookup_type, builtinLookup_eq_fast]
  kernel_rfl
section
open RT
variable {prog : Program} {w : World} {A : Around} {E : Value → Shared → Prop} {s : Shared}
/-- reversed(t) of a tuple as a walk -/
theorem walks_rt (hh : A.handled = none) (it l : Addr) (hne : l ≠ it) (items : Array Value) (hsz : items.size ≤ sizeLine) :
    Walks prog w A it [it, l] [it] items.size (fun i v => items[items.size - 1 - i]? = some v) (fun i h => i ≤ items.size ∧ IsRt h it l ((items.size : Int) - 1 - (i : Nat)) ∧ IsTup h l items) where
  sub := fun b hb => by simp at hb; simp [hb]
  frame := fun i h h' st hk => ⟨st.1, st.2.1.at fun o e => hk it (by simp) o e, (show Heap.IsTuple h l items from st.2.2).at fun o e => hk l (by simp) o e⟩
  item := fun i s Q E hi st hQ => by
    have e : ((items.size : Int) - 1 - (i : Nat)) = ((items.size - 1 - i : Nat) : Int) := by omega
    have hit := st.2.1
    rw [e] at hit
    have hj : items.size - 1 - i < items.size := by omega
    refine next_rt_item hit st.2.2 (Array.getElem?_eq_getElem hj) hsz fun h' hit' sb => ?_
    refine hQ _ h' (s.toks + 1) (Array.getElem?_eq_getElem hj) ⟨hi, ?_, (show Heap.IsTuple s.heap l items from st.2.2).at fun o e => (sb.2 l hne).trans e⟩ fun b o hb e => (sb.2 b (fun z => hb (by simp [z]))).trans e
    have e2 : ((items.size - 1 - i : Nat) : Int) - 1 = (items.size : Int) - 1 - ((i + 1 : Nat) : Int) := by omega
    rw [← e2]
    exact hit'
  done := fun s Q E st hQ => by
    have e : ((items.size : Int) - 1 - (items.size : Nat)) = -1 := by omega
    have hit := st.2.1
    rw [e] at hit
    exact next_rt_end hh hit fun h' eb => hQ h' s.toks fun b o hb e => eb b o (fun z => hb (by simp [z])) e
  self := fun i s Q E st hQ => iter_rt st.2.1 hQ
end
end PL
set_option Elab.async false
set_option linter.all false
set_option maxRecDepth 100000
set_option maxHeartbeats 1000000
namespace PL
open PySem PySem.Spec PyProof.Rows L2 RT
theorem slot_rt_hint : Slot "reversed" "__length_hint__" "reversed.__length_hint__" := by
  refine .of (owner := "reversed") (n := "__length_hint__") ?_ ?_ ?_ ?_ ?_ ?_
  · rw [typeLookup_type, builtinLookup_eq_fast]
    kernel_rfl
  · decide +kernel
  · decide +kernel
  · decide +kernel
  · first
      | exact .inl (by decide +kernel)
      | exact .inr (by decide +kernel)
  · rw [isSubtype_type]
    kernel_rfl
theorem entry_rt_hint : entryFor table "reversed.__length_hint__" = some Builtin.«reversed.__length_hint__» := entryFor_of_tree (by kernel_rfl)
theorem args_rt_hint (a : Value) : argsOk "reversed.__length_hint__" ⟨[a], []⟩ := by
  unfold argsOk
  rw [signature?_of (id := "reversed.__length_hint__") (n := "__length_hint__".toList.reverse) (o := "reversed".toList.reverse) (by kernel_rfl) owner_rt]
  kernel_rfl
theorem bind_rt_hint (self : Value) : bindSpecial (.builtin "reversed.__length_hint__") self = pure (.builtin "reversed.__length_hint__", [self]) := by
  kernel_rfl
section
variable {prog : Program} {w : World} {A : Around} {E : Value → Shared → Prop} {s : Shared}
theorem call_rt_hint {it t : Addr} {items : Array Value} {Q : Value → Shared → Prop} (hit : IsRt s.heap it t ((items.size : Int) - 1)) (ht : IsTup s.heap t items) (hsz : items.size ≤ sizeLine)
    (hQ : ∀ k, Q (.int items.size k) { s with toks := k + 1 }) : wpAny (model prog w) A (call (.builtin "reversed.__length_hint__") [.ref it]) Q E s := by
  obtain ⟨o, ho, hc, hd⟩ := id hit
  refine wpAny_call_entry slot_rt_hint hit.typeIs entry_rt_hint ?_ (args_rt_hint _)
  unfold Builtin.«reversed.__length_hint__»
  refine wpAny_bind (wpAny_of_eq (a := Value.ref it) rfl ?_)
  refine wpAny_bind (wpAny_field ho hd (x := .ref t) rfl ?_)
  rw [if_neg (by exact Bool.false_ne_true)]
  refine wpAny_bind (len_tuple ht (by have := line63; omega) ?_)
  refine wpAny_bind (wpAny_of_eq (a := some (items.size : Int)) rfl ?_)
  refine wpAny_bind (wpAny_field (s := { s with toks := s.toks + 1 + 1 }) ho hd (x := rawInt ((items.size : Int) - 1)) rfl ?_)
  show wpAny _ _ (if (items.size : Int) < (items.size : Int) - 1 + 1 then _ else _) _ _ _
  rw [if_neg (by omega)]
  refine wpAny_bind (wpAny_mkInt (wpAny_pure ⟨_, rfl, ?_⟩))
  have e : (items.size : Int) - 1 + 1 = items.size := by omega
  rw [e]
  exact hQ (s.toks + 1 + 1)
theorem nolen_rt' : typeLookup (.type "reversed") "__len__" = pure none := by
  rw [typeLookup_type, builtinLookup_eq_fast]
  kernel_rfl
/-- all that reversed(t) hands out, in a list -/
theorem collect_rt {it l : Addr} {items : Array Value} {Q : List Value → Shared → Prop} (hh : A.handled = none) (hit : IsRt s.heap it l ((items.size : Int) - 1)) (hl : IsTup s.heap l items) (hne : l ≠ it) (hn : items.size ≤ sizeLine)
    (hQ : ∀ (h' : Heap) (tk : Nat) (acc : Array Value), (∀ b o, b ≠ it → s.heap.get? b = some o → h'.get? b = some o) → ItemsOf (fun i v => items[items.size - 1 - i]? = some v) acc items.size → Q acc.toList { s with heap := h', toks := tk }) :
    wpAny (model prog w) A (collect (.ref it)) Q E s := by
  have W := (walks_rt (prog := prog) (w := w) (A := A.in1) hh it l hne items hn).toS
  obtain ⟨oi, hoi, _⟩ := id hit
  obtain ⟨ol, hol, _⟩ := id hl
  have n1 : s.heap.objs.size ≠ it := fun z => absurd (z ▸ Heap.lt_size hoi) (Nat.lt_irrefl _)
  have n2 : s.heap.objs.size ≠ l := fun z => absurd (z ▸ Heap.lt_size hol) (Nat.lt_irrefl _)
  have n3 : s.heap.objs.size ∉ [it, l] := fun z => by
    rcases List.mem_cons.mp z with z | z
    · exact n1 z
    · exact n2 (List.mem_singleton.mp z)
  let h1 : Heap := s.heap.push { cls := .type "list", data := .seq ([] : List Value).toArray }
  have old : ∀ b o, s.heap.get? b = some o → h1.get? b = some o := fun b o e => Heap.get?_push_of_some _ e
  have hit1 : IsRt h1 it l ((items.size : Int) - 1) := hit.at fun o e => old _ _ e
  have hl1 : IsTup h1 l items := (show Heap.IsTuple s.heap l items from hl).at fun o e => old _ _ e
  have hS1 : h1.get? s.heap.objs.size = some { cls := .type "list", data := .seq ([] : List Value).toArray } := Heap.get?_push_size _ rfl
  have hT : ({ s with heap := h1 } : Shared).TypeIs (.ref it) "reversed" := IsRt.typeIs (s := { s with heap := h1 }) hit1
  unfold collect
  refine wpAny_bind (wpAny_runValue (codeAny_builtin F.entry_proto_collect ?_))
  rw [Around.under_plainId F.plain_proto_collect _]
  show wpAny _ A.in1 (newList [] >>= fun z => again (.builtin "list.__iadd__" ⟨[z, .ref it], []⟩)) _ _ s
  refine wpAny_bind (wpAny_newObj_type ?_)
  refine wpAny_pure ⟨plainId_quiet F.plain_list_iadd _, codeAny_builtin F.entry_list_iadd ?_⟩
  rw [Around.under_plainId F.plain_list_iadd _]
  have same : Builtin.List.listSameRef (.ref s.heap.objs.size) (.ref it) = false := by simp [Builtin.List.listSameRef, n1]
  show wpAny _ A.in1 (Builtin.List.listExtendWith (.ref s.heap.objs.size) (.ref it) (.ref s.heap.objs.size)) _ _ { s with heap := h1 }
  unfold Builtin.List.listExtendWith
  refine wpAny_bind (wpAny_typeOf hT ?_)
  rw [if_neg (by rw [same]; decide)]
  refine wpAny_bind (iter_rt (s := { s with heap := h1 }) hit1 ?_)
  refine wpAny_bind (wpAny_holding ?_)
  unfold Builtin.List.listLengthHint
  refine wpAny_bind (wpAny_specialOf hT nolen_rt' ?_)
  show wpAny _ A.in1 (specialOf (Value.ref it) (Str.ofString "__length_hint__") >>= _) _ _ _
  refine wpAny_bind (wpAny_specialOf hT hint_rt ?_)
  generalize hid : ("reversed.__length_hint__" : String) = id0
  wp_delta
  rw [show splitId id0 = some ("reversed", "__length_hint__") from by subst hid; decide +kernel]
  refine wpAny_bind (wpAny_isInstance (b := true) hT (by rw [isSubtype_type]; kernel_rfl) ?_)
  subst hid
  rw [if_neg (by decide)]
  dsimp only
  rw [if_neg (by decide +kernel)]
  refine wpAny_bind (wpAny_rule ?_)
  refine wpAny_bind (wpAny_of_eq (bind_rt_hint _) ?_)
  dsimp only
  refine wpAny_bind (wpAny_attempt ?_)
  refine call_rt_hint (s := { s with heap := h1 }) hit1 hl1 hn fun k => ?_
  have ea : ∀ (n : Int) (t : Tok), asInt? (Value.int n t) = pure (some n) := fun _ _ => rfl
  simp only [ea, pure_bind]
  have hz := hn
  rw [sizeLine_eq] at hz
  have f1 : Builtin.List.listFitsIndex (items.size : Int) = true := by
    unfold Builtin.List.listFitsIndex
    rw [Bool.and_eq_true]
    exact ⟨decide_eq_true (by omega), decide_eq_true (by omega)⟩
  have f2 : Builtin.List.listTooLong (items.size : Int).toNat = false := by
    unfold Builtin.List.listTooLong
    exact decide_eq_false (by rw [sizeLine_eq]; omega)
  rw [if_neg (by rw [f1]; decide), if_neg (by omega), if_neg (by rw [f2]; decide)]
  refine wpAny_pure ?_
  have e0 : ((items.size : Nat) : Int) - 1 - ((0 : Nat) : Int) = (items.size : Int) - 1 := by omega
  have fin : ∀ (R : Result → Shared → Prop) (h2 : Heap) (tk : Nat) (c : Nat), (∀ b o, b ≠ s.heap.objs.size → h1.get? b = some o → h2.get? b = some o) → h2.get? s.heap.objs.size = some { cls := .type "list", dict := none, data := .seq #[] c, slots := #[] } →
      (∀ (h' : Heap) (tk : Nat) (acc : Array Value) (c' : Nat), h'.get? s.heap.objs.size = some { cls := .type "list", dict := none, data := .seq acc c', slots := #[] } → (∀ b o, b ≠ it → s.heap.get? b = some o → h'.get? b = some o) → ItemsOf (fun i v => items[items.size - 1 - i]? = some v) acc items.size →
        R (.ok (.ret (.ref s.heap.objs.size))) { s with heap := h', toks := tk }) →
      codeAny (model prog w) A (.builtin "list.extend.loop" ⟨[.ref s.heap.objs.size, .ref it, .ref s.heap.objs.size], []⟩) R { s with heap := h2, toks := tk } := fun R h2 tk c k1 k2 hR => by
    refine codeAny_extend_loopS W hn s.heap.objs.size n3 _ items.size 0 _ _ _ rfl (Nat.zero_le _) ⟨Nat.zero_le _, ?_, ?_⟩ k2 (ItemsOf.nil _) fun s' acc' c' hm hS' hacc => ?_
    · rw [e0]
      exact hit1.at fun o e => k1 it o (Ne.symm n1) e
    · exact (show Heap.IsTuple h1 l items from hl1).at fun o e => k1 l o (Ne.symm n2) e
    · rw [Moved.eq_with hm]
      refine hR s'.heap s'.toks acc' c' hS' (fun b o hb e => hm.heap b o (fun hmem => ?_) (k1 b o (fun z => absurd (z ▸ Heap.lt_size e) (Nat.lt_irrefl _)) (old b o e))) hacc
      rcases List.mem_cons.mp hmem with z | z
      · exact absurd (z ▸ Heap.lt_size e) (Nat.lt_irrefl _)
      · exact hb (List.mem_singleton.mp z)
  have ret : ∀ (h' : Heap) (tk : Nat) (acc : Array Value) (c' : Nat), h'.get? s.heap.objs.size = some { cls := .type "list", dict := none, data := .seq acc c', slots := #[] } → (∀ b o, b ≠ it → s.heap.get? b = some o → h'.get? b = some o) → ItemsOf (fun i v => items[items.size - 1 - i]? = some v) acc items.size →
      wpAny (model prog w) A (do let o ← load s.heap.objs.size; match o.data with | .seq xs _ => pure xs.toList | _ => unsupported "internal:collect") Q E { s with heap := h', toks := tk } := fun h' tk acc c' hS' kk hacc => by
    refine wpAny_bind (wpAny_load hS' ?_)
    exact wpAny_pure (hQ h' tk acc kk hacc)
  by_cases hroom : items.size = 0
  · have r0 : ((items.size : Int) != 0) = false := by rw [hroom]; rfl
    rw [if_neg (by rw [r0]; decide +kernel)]
    exact wpAny_pure ⟨plainId_quiet F.plain_extend_loop _, fin _ h1 _ _ (fun _ _ _ e => e) hS1 fun h' tk acc c' a b d => ret h' tk acc c' a b d⟩
  · have r0 : ((items.size : Int) != 0) = true := by
      rw [bne_iff_ne]
      omega
    rw [if_pos (by rw [r0, Bool.true_or])]
    refine wpAny_bind (wpAny_rule ?_)
    refine wpAny_bind ?_
    show wpAny _ A.in1 (updateSeq s.heap.objs.size (·.push .none) >>= fun _ => updateSeq s.heap.objs.size (·.pop)) _ _ _
    refine wpAny_bind (wpAny_updateSeq hS1 rfl ?_ (by show 0 ≤ sizeLine; exact Nat.zero_le _) (by show 1 ≤ sizeLine + 1; rw [sizeLine_eq]; decide))
    have hS2 := Heap.get?_update_self (Obj.mapSeq (·.push Value.none)) hS1 rfl
    refine wpAny_updateSeq hS2 rfl ?_ (by show 1 ≤ sizeLine; rw [sizeLine_eq]; decide) (by show 0 ≤ sizeLine + 1; exact Nat.zero_le _)
    have hS3 := Heap.get?_update_self (Obj.mapSeq (·.pop)) hS2 rfl
    refine wpAny_pure ⟨plainId_quiet F.plain_extend_loop _, fin _ _ _ _ (fun b o hb e => ?_) hS3 fun h' tk acc c' a b d => ret h' tk acc c' a b d⟩
    exact (Heap.get?_update_other _ _ (Ne.symm hb)).trans ((Heap.get?_update_other _ _ (Ne.symm hb)).trans e)
theorem call_tuple_rt {it l : Addr} {items : Array Value} {Q : Value → Shared → Prop} (hh : A.handled = none) (hit : IsRt s.heap it l ((items.size : Int) - 1)) (hl : IsTup s.heap l items) (hne : l ≠ it) (hn : items.size ≤ sizeLine)
    (hQ : ∀ (h' : Heap) (tk : Nat) (acc : Array Value), (∀ b o, b ≠ it → s.heap.get? b = some o → h'.get? b = some o) → ItemsOf (fun i v => items[items.size - 1 - i]? = some v) acc items.size →
      Q (.ref h'.objs.size) { s with heap := h'.push { cls := .type "tuple", data := .seq acc }, toks := tk }) : wpAny (model prog w) A (call (.type "tuple") [.ref it]) Q E s := by
  have made : codeAny (model prog w) A.in1 (.call (.builtin "tuple.__new__") ⟨[.type "tuple", .ref it], []⟩) (wants (fun obj s₁ => s₁.TypeIs obj "tuple" ∧ Q obj s₁) E) s := by
    refine codeAny_of_tree ?_
    show wpAny _ A.in1.in1 (checkBuiltinCall "tuple.__new__" ⟨[.type "tuple", .ref it], []⟩ >>= fun _ => again (.builtin "tuple.__new__" ⟨[.type "tuple", .ref it], []⟩)) _ _ s
    refine wpAny_bind (wpAny_of_eq (F.newCall_tuple_1 _) (wpAny_pure ⟨plainId_quiet F.plain_tuple_new _, codeAny_builtin F.entry_tuple_new ?_⟩))
    rw [Around.under_plainId F.plain_tuple_new _]
    have hsub := sub_tuple_self
    have hinit := init_tuple_lookup
    have hmh := madeHere_tuple
    have hTI : s.TypeIs (.ref it) "reversed" := hit.typeIs
    have hh1 : A.in1.in1.handled = none := hh
    wp_walk using wpAny_typeOf hTI, collect_rt (A := A.in1.in1) hh1 hit hl hne hn
    intro h' tk acc hk hacc
    show wpAny _ _ (Builtin.Tuple.tupleExact acc.toList.toArray >>= fun v => ret v) _ _ _
    unfold Builtin.Tuple.tupleExact
    refine wpAny_bind (wpAny_newObj_type ?_ (by show acc.toList.toArray.size ≤ sizeLine; simp only [Array.toArray_toList]; rw [hacc.1]; exact hn))
    refine wpAny_pure ?_
    have e : acc.toList.toArray = acc := by simp
    rw [e]
    exact ⟨⟨_, Heap.get?_push_size _ rfl, rfl⟩, hQ h' tk acc hk hacc⟩
  refine callType_codes F.called_tuple (F.typeCall_tuple_1 _) F.entry_object_init made fun obj s₁ h₁ => ?_
  exact ⟨h₁.1, F.args_object_init_2 obj _, object_init_meets F.called_tuple.init.lookup F.called_tuple.made (by decide) prog w A.in1 _ s₁ ⟨h₁.1, rfl, h₁.2⟩⟩
end

section
variable {X : Cx} {a b c e : Expr} {ta tb tc te : PTE} {pos p p2 pos2 : Pos} {es : List Expr} {t : PTA} {x : Str}
/-- tuple(reversed(x)) of a tuple or a list -/
theorem pe_tupRevA {te : TE} (hc : X.calm = true) (hg : Gl X "tuple") (hm : X.mg "tuple" = none) (hg2 : Gl X "reversed") (hm2 : X.mg "reversed" = none) (he : PE X e te) (hs : starEach [e] X.env = (false, eval e X.env) :: starEach [] X.env := by rfl)
    (hs2 : starEach [.Call (.Name "reversed" p2) [e] [] pos2] X.env = (false, eval (.Call (.Name "reversed" p2) [e] [] pos2) X.env) :: starEach [] X.env := by rfl) :
    PE X (.Call (.Name "tuple" p) [.Call (.Name "reversed" p2) [e] [] pos2] [] pos) (fun σ H Q => te σ H fun v H1 => ∃ (a : Addr) (xs : List V), v = .ref a ∧ SqT X.K H1 a xs ∧ ∀ q, H1 q = none → Q (.ref q) (upd H1 q (.tup xs.reverse))) := by
  refine ⟨fun pins s σ H Q I h => ?_⟩
  refine Call_ (ld_blt I hg hm boot_tuple (callWith_type1 (args_cons (Call_ (ld_blt I hg2 hm2 PyProof.Rows.boot_reversed (callWith_type1 (args_cons (thn (he.run pins s σ H _ I h) fun u s1 ⟨v, H1, I1, r1, q1⟩ => args_nil ?_) hs) hs rfl))) hs2) hs2 rfl))
  obtain ⟨a, xs, ev, hq, q⟩ := q1
  subst ev
  obtain rfl : u = Value.ref a := r1
  obtain ⟨its, rv, p', hz⟩ := I1.tuple hq
  have hsz : its.toArray.size ≤ sizeLine := by rw [List.size_toArray, ← rv.length]; exact hz
  refine call_reversed_tup p' (fun A E Q k => len_tuple p' (by have := line63; omega) k) (args_nil ?_)
  have na : a ≠ s1.heap.objs.size := by
    obtain ⟨ol, hol, _⟩ := id p'
    exact Nat.ne_of_lt (Heap.lt_size hol)
  obtain ⟨f0, f1, f2, f3, f4, f5⟩ := I1.fpOk (H' := H1) (b := s1.heap.objs.size) (Nat.le_refl _) (I1.hok.fresh (Nat.le_refl _))
  have I2 := I1.kept (h' := s1.heap.push (rtObj a ((its.toArray.size : Int) - 1))) (t' := s1.toks + 1 + 1) fun b o e => Heap.get?_push_of_some _ e
  refine call_tuple_rt (s := { s1 with heap := s1.heap.push (rtObj a ((its.toArray.size : Int) - 1)), toks := s1.toks + 1 + 1 }) (I1.ok.hd hc) ⟨_, Heap.get?_push_size _ rfl, rfl, rfl⟩ ((show Heap.IsTuple s1.heap a its.toArray from p').push _) na hsz fun h' tk acc hk hi => ?_
  have I3 : Inv X pins σ H1 { s1 with heap := h', toks := tk } := I2.turned (t' := tk) (fun b o hb e => hk b o hb e) f0 f1 f3 f4 f5
  have ok : ObjOk X.prog X.w (upd H1 h'.objs.size (.tup xs.reverse)) (h'.push { cls := .type "tuple", data := .seq acc }) h'.objs.size (.tup xs.reverse) := by
    refine ⟨by rw [List.length_reverse]; exact hz, acc.toList, vals_rev rv hi, ?_⟩
    rw [Array.toArray_toList]
    exact IsTup.new _ _
  exact ⟨.ref h'.objs.size, _, I3.laid (t' := tk) (fun c o e => Heap.get?_push_of_some _ e) (Nat.le_refl _) ok, rfl, q _ (I3.hok.fresh (Nat.le_refl _))⟩
def pTupRev (te : PTE) : PTE := fun E σ M Q => te E σ M fun x M1 => need (tupF x) fun xs => Q (.tup xs.reverse) M1
theorem LE.tupRev (hc : X.calm = true) (hg : Gl X "tuple") (hm : X.mg "tuple" = none) (hg2 : Gl X "reversed") (hm2 : X.mg "reversed" = none) (he : LE X e te) (hs : starEach [e] X.env = (false, eval e X.env) :: starEach [] X.env := by rfl)
    (hs2 : starEach [.Call (.Name "reversed" p2) [e] [] pos2] X.env = (false, eval (.Call (.Name "reversed" p2) [e] [] pos2) X.env) :: starEach [] X.env := by rfl) :
    LE X (.Call (.Name "tuple" p) [.Call (.Name "reversed" p2) [e] [] pos2] [] pos) (pTupRev te) := by
  refine ⟨fun σv H σ F M Q E tk rm rs h => WE.of (pe_tupRevA hc hg hm hg2 hm2 WE.pe hs hs2) ?_⟩
  refine (he.run σv H σ F M _ E tk rm rs h).mono ?_
  rintro v H1 ⟨F1, M1, x, b1, rx, hx⟩
  obtain ⟨xs, e1, h2⟩ := need_of hx
  cases rx with
  | tup q r =>
    cases e1
    refine ⟨_, _, rfl, sqT_same b1.rm.fr q, fun z nz => ?_⟩
    exact ⟨_, M1, _, b1.trans (b1.rm.beh nz), .tup (SqT.of upd_same) (r.reverse.same (b1.rm.beh (o := .tup _) nz).sm), h2⟩
  | _ => cases e1
end
end PL
set_option Elab.async false
set_option linter.all false
set_option maxRecDepth 100000
namespace PL
open PySem PySem.Spec PyProof.Rows L2
/-- the store without what stands at these slots -/
def dropSlots (σ : PSt) : List Nat → Mem → Mem
  | [], M => M
  | j :: js, M => dropSlots σ js (match σ[j]? with | some (some (.ptr p)) => M.drop p | _ => M)
theorem behDrops {K : PySem.W.Frag} {F H : Hp} {σ : PSt} : ∀ (js : List Nat) {M : Mem}, RM K F M H → Beh K F M H F (dropSlots σ js M) H
  | [], M, r => Beh.refl r
  | j :: js, M, r => by
    unfold dropSlots
    split
    · exact (r.behDrop).trans (behDrops js r.behDrop.rm)
    · exact behDrops js r
section
variable {X : Cx} {e : Expr} {te : PTE} {pos : Pos}
def pRetD (js : List Nat) (te : PTE) : PTS := fun D σ M => te D.ex σ M fun x M1 => D.rt x (dropSlots σ js M1)
theorem LS.retD (js : List Nat) (he : LE X e te) : LS X (.Return (some e) pos) (pRetD js te) := by
  refine ⟨fun σv H σ F M D tk rm rs h => WS.of (ps_ret WE.pe) ?_⟩
  refine (he.run σv H σ F M _ D.ex tk rm rs h).mono ?_
  rintro v H1 ⟨F1, M1, x, b1, rx, hx⟩
  exact ⟨F1, _, x, b1.trans (behDrops js b1.rm), rx, hx⟩
def pRetFD (js : List Nat) (te : PTE) : PTS := fun D σ M => te D.ex σ M fun x M1 => kFz x M1 fun y M2 => D.rt y (dropSlots σ js M2)
theorem LS.retFD (js : List Nat) (he : LE X e te) : LS X (.Return (some e) pos) (pRetFD js te) := by
  refine ⟨fun σv H σ F M D tk rm rs h => WS.of (ps_ret WE.pe) ?_⟩
  refine (he.run σv H σ F M _ D.ex tk rm rs h).mono ?_
  rintro v H1 ⟨F1, M1, x, b1, rx, hx⟩
  obtain ⟨F2, M2, y, b2, ry, hy⟩ := rx.fz b1.rm hx
  exact ⟨F2, _, y, (b1.trans b2).trans (behDrops js b2.rm), ry, hy⟩
end
/-- a reading keeps a promise -/
def Keeps (t : PTS) (np n : Nat) (sp : PSp) : Prop := ∀ (xs : List PV) (M : Mem) (Q : PQ) (E : PXK), xs.length = np → sp xs M Q E → t { nx := fun _ M' => Q .non M', rt := Q, ex := E } (pstart n xs) M
end PL
set_option Elab.async false
set_option linter.all false
set_option maxRecDepth 100000
namespace PL
open PySem PySem.Spec PyProof.Rows L2
/-! ### a tuple times an int, of any sign -/
theorem tuple_mul0 (l : Addr) (items : Array Value) (n : Nat) (sl : Array (Option Value)) (dd : Option Addr) (x : Int) (u : Tok) (c0 : (decide (x < -(2 ^ 63)) || decide (x ≥ 2 ^ 63)) = false) (c1 : (items.isEmpty || x == 1) = false) (c2 : (decide (x ≤ 0) || items.isEmpty) = true) :
    Meets (Builtin.«tuple.__mul__» ⟨[.ref l, .int x u], []⟩) (fun _ R s => s.heap.get? l = some { cls := .type "tuple", dict := dd, data := .seq items n, slots := sl } ∧
      R (.ok (.ret (Value.ref s.heap.objs.size))) { s with heap := s.heap.push { cls := Value.type "tuple", data := Data.seq #[] }, toks := s.toks }) :=
  .of_wp fun prog w A R s h => by
    obtain ⟨hp, g, d, tk, os⟩ := s
    obtain ⟨hl, h⟩ := h
    have f1 := AutoSeq1.idx_int
    wp_walk using AutoSeq1.wpAny_loadPart' hl
    repeat (first
      | (refine wpAny_ite_false (decide_eq_false (by rw [c0]; exact Bool.false_ne_true)) ?_; wp_walk using AutoSeq1.wpAny_loadPart' hl)
      | (refine wpAny_ite_false (decide_eq_false (by rw [c1]; exact Bool.false_ne_true)) ?_; wp_walk using AutoSeq1.wpAny_loadPart' hl)
      | (refine wpAny_ite_true (decide_eq_true c2) ?_; wp_walk using AutoSeq1.wpAny_loadPart' hl))
    exact ⟨_, rfl, h⟩
theorem tuple_mul1 (l : Addr) (items : Array Value) (n : Nat) (sl : Array (Option Value)) (dd : Option Addr) (x : Int) (u : Tok) (c0 : (decide (x < -(2 ^ 63)) || decide (x ≥ 2 ^ 63)) = false) (c1 : (items.isEmpty || x == 1) = true) :
    Meets (Builtin.«tuple.__mul__» ⟨[.ref l, .int x u], []⟩) (fun _ R s => s.heap.get? l = some { cls := .type "tuple", dict := dd, data := .seq items n, slots := sl } ∧
      R (.ok (.ret (Value.ref l))) s) :=
  .of_wp fun prog w A R s h => by
    obtain ⟨hp, g, d, tk, os⟩ := s
    obtain ⟨hl, h⟩ := h
    have f1 := AutoSeq1.idx_int
    wp_walk using AutoSeq1.wpAny_loadPart' hl
    repeat (first
      | (refine wpAny_ite_false (decide_eq_false (by rw [c0]; exact Bool.false_ne_true)) ?_; wp_walk using AutoSeq1.wpAny_loadPart' hl)
      | (refine wpAny_ite_true (decide_eq_true c1) ?_; wp_walk using AutoSeq1.wpAny_loadPart' hl))
    exact ⟨_, rfl, h⟩
def rRepA (K : PySem.W.Frag) : R2 := fun x y H Q => ∃ l k xs, x = .ref l ∧ y = .int k ∧ SqT K H l xs ∧ -(2 ^ 62) ≤ k ∧ k ≤ 1000 ∧ xs.length ≤ 1000 ∧
  ((xs = [] ∨ k = 1) → Q (.ref l) H) ∧ (¬ (xs = [] ∨ k = 1) → ∀ p, H p = none → Q (.ref p) (upd H p (.tup (List.replicate k.toNat xs).flatten)))
section
variable {X : Cx} {a b : Expr} {ta tb : PTE} {pos : Pos}
theorem op_repA : OpR X (binaryOp .Mult) (rRepA X.K) := by
  rintro pins s σ H x y v u Q I rx ry ⟨l, k, xs, ex, ey, hT, hk1, hk2, hz, q1, q2⟩
  by_cases big : xs ≠ [] ∧ 2 ≤ k
  · exact op_repT pins s σ H x y v u Q I rx ry ⟨l, k, xs, ex, ey, hT, big.1, big.2, hk2, hz, q2 (fun z => z.elim big.1 (fun z => by omega))⟩
  · subst ex; subst ey
    cases rx
    obtain ⟨t, rfl⟩ := ry
    obtain ⟨its, r, ⟨⟨cls, dd, data, sl⟩, ho, hc, n, hd⟩, hs⟩ := I.tuple hT
    simp only at hc hd
    subst hc hd
    have hl := r.length
    have emp : its.toArray.isEmpty = decide (xs = []) := by
      cases xs with
      | nil =>
        cases its with
        | nil => rfl
        | cons a b => cases hl
      | cons x r =>
        cases its with
        | nil => cases hl
        | cons a b => rfl
    have c0 : (decide (k < -(2 ^ 63)) || decide (k ≥ 2 ^ 63)) = false := by
      rw [decide_eq_false (by omega), decide_eq_false (by omega)]
      rfl
    have hrm := int_rmul_tuple k t l its.toArray n dd sl
    have tT : s.TypeIs (.ref l) "tuple" := ⟨_, ho, rfl⟩
    by_cases same : xs = [] ∨ k = 1
    · have c1 : (its.toArray.isEmpty || k == 1) = true := by
        rw [emp, Bool.or_eq_true]
        rcases same with z | z
        · exact .inl (decide_eq_true z)
        · exact .inr (by rw [z]; rfl)
      refine wpAny_binaryOp_repeat_ref (T := "tuple") (U := "int") (by decide) tT (fun s' => typeIs_int s' k t) noFill_tuple_mul PySem.F.fills_int_mul PySem.F.slot_int_rmul repeat_tuple PySem.F.slot_int_index.lookup ?_
      refine call_meets PySem.F.slot_int_rmul (typeIs_int s k t) PySem.F.entry_int_rmul (PySem.F.args_int_rmul_2 _ _) hrm ⟨ho, rfl, tT, ?_⟩
      refine call_meets PySem.F.slot_tuple_mul tT PySem.F.entry_tuple_mul (PySem.F.args_tuple_mul_2 _ _) (tuple_mul1 l its.toArray n sl dd k t c0 c1) ⟨ho, ?_⟩
      exact ⟨.ref l, H, I, rfl, q1 same⟩
    · have nx : xs ≠ [] := fun z => same (.inl z)
      have nk : k ≠ 1 := fun z => same (.inr z)
      have kle : k ≤ 0 := by
        by_cases h2 : 2 ≤ k
        · exact absurd ⟨nx, h2⟩ big
        · omega
      have c1 : (its.toArray.isEmpty || k == 1) = false := by
        rw [emp, decide_eq_false nx, Bool.false_or]
        exact beq_eq_false_iff_ne.mpr nk
      have c2 : (decide (k ≤ 0) || its.toArray.isEmpty) = true := by rw [decide_eq_true kle, Bool.true_or]
      refine wpAny_binaryOp_repeat_ref (T := "tuple") (U := "int") (by decide) tT (fun s' => typeIs_int s' k t) noFill_tuple_mul PySem.F.fills_int_mul PySem.F.slot_int_rmul repeat_tuple PySem.F.slot_int_index.lookup ?_
      refine call_meets PySem.F.slot_int_rmul (typeIs_int s k t) PySem.F.entry_int_rmul (PySem.F.args_int_rmul_2 _ _) hrm ⟨ho, rfl, tT, ?_⟩
      refine call_meets PySem.F.slot_tuple_mul tT PySem.F.entry_tuple_mul (PySem.F.args_tuple_mul_2 _ _) (tuple_mul0 l its.toArray n sl dd k t c0 c1 c2) ⟨ho, ?_⟩
      have e0 : (List.replicate k.toNat xs).flatten = [] := by
        have : k.toNat = 0 := by omega
        rw [this]
        rfl
      have q := q2 same
      rw [e0] at q
      refine ⟨.ref s.heap.objs.size, _, I.laid (t' := s.toks) (o := .tup []) (fun b ob q => Heap.get?_push_of_some _ q) (Nat.le_refl _) ?_, rfl, q _ (I.hok.fresh (Nat.le_refl _))⟩
      exact ⟨Nat.zero_le _, [], .nil, IsTup.new _ _⟩
def oMulA : PO2 := fun x y M Q => match x, y with
  | .int i, .int j => CMul i j ∧ Q (.int (i * j)) M
  | .tup xs, .int k => (-(2 ^ 62) ≤ k ∧ k ≤ 1000 ∧ xs.length ≤ 1000) ∧ Q (.tup (List.replicate k.toNat xs).flatten) M
  | _, _ => False
theorem RAll.rep {K : PySem.W.Frag} {F : Hp} {xs : List PV} {vs : List V} (r : RAll K F xs vs) : ∀ n : Nat, RAll K F (List.replicate n xs).flatten (List.replicate n vs).flatten
  | 0 => .nil
  | n + 1 => by
    rw [List.replicate_succ, List.replicate_succ, List.flatten_cons, List.flatten_cons]
    exact r.append (RAll.rep r n)
theorem LE.mulA (ha : LE X a ta) (hb : LE X b tb) : LE X (.BinOp a .Mult b pos) (pBin oMulA ta tb) := by
  refine LE.bin (OpR.or op_mul op_repA) (fun F M H x y xv yv Q Qv rm rx ry h k => ?_) ha hb
  cases rx <;> cases ry <;> first
    | exact h.elim
    | exact .inl ⟨_, _, rfl, rfl, h.1, k _ _ (LQ.now rm (.int _) h.2)⟩
    | skip
  rename_i a' xs vs e q j
  refine .inr ⟨_, j, vs, rfl, rfl, sqT_same rm.fr e, h.1.1, h.1.2.1, by rw [← q.length]; exact h.1.2.2, fun z => ?_, fun z p np => ?_⟩
  · have e2 : (List.replicate j.toNat xs).flatten = xs := by
      rcases z with z | z
      · subst z
        have : xs = [] := List.eq_nil_of_length_eq_zero q.length
        rw [this]
        simp
      · subst z
        show (List.replicate 1 xs).flatten = xs
        simp
    have h2 := h.2
    rw [e2] at h2
    exact k _ _ (LQ.now rm (.tup e q) h2)
  · exact k _ _ ⟨_, M, _, rm.beh np, .tup (SqT.of upd_same) ((q.rep _).same (rm.beh (o := .tup _) np).sm), h.2⟩
end
end PL
set_option Elab.async false
set_option linter.all false
set_option maxRecDepth 100000
namespace PL
open PySem PySem.Spec PyProof.Rows L2
/-! ### for over a list that may change, but doesn't meanwhile -/
def pForG (G : Mem → Prop) (g : PTG) (tb : PTS) : List PV → PTS
  | [] => fun D σ M => D.nx σ M
  | x :: xs => fun D σ M => g x σ M fun σ1 M1 => tb { D with nx := fun σ M => G M ∧ pForG G g tb xs D σ M, bk := D.nx, ct := fun σ M => G M ∧ pForG G g tb xs D σ M } σ1 M1
def pForM (te : PTE) (g : PTG) (tb : PTS) : PTS := fun D σ M => te D.ex σ M fun x M1 => need (lstOf M1 x) fun xs => pForG (fun M => lstOf M x = some xs) g tb xs D σ M1
section
variable {X : Cx} {tg iter : Expr} {body : List Stmt} {te : PTE} {g : PTG} {tb : PTS} {pos : Pos}
theorem LS.forM (hp : PassesOwn (model X.prog X.w) X.A X.env X.xe) (hc : X.calm = true) (hi : LE X iter te) (hg : LG X tg g) (hb : LSs X body tb) (hs : ∀ x, foldedSetIterable iter X.env x = pure x := by intro _; rfl) : LS X (.For tg iter body [] pos) (pForM te g tb) := by
  refine ⟨fun σv H σ F M D tk rm rs h => WS.of (ps_for hp hc (pi_list WE.pe) WG.pg WSs.ps hs) ?_⟩
  refine (hi.run σv H σ F M _ D.ex tk rm rs h).mono ?_
  rintro v H1 ⟨F1, M1, x, b1, rx, h1⟩
  obtain ⟨xs, e1, h1⟩ := need_of h1
  obtain ⟨a, vs0, ev, hs0, ra0⟩ := rx.lstI b1.rm e1
  subst ev
  have len0 := ra0.length
  refine ⟨a, rfl, ⟨vs0, hs0⟩, fun i m σv' H' => m = xs.length - i ∧ i ≤ xs.length ∧ ∃ F' M' σ', Beh X.K F M H F' M' H' ∧ Same F1 F' ∧ RS X.K F' σ' σv' ∧ lstOf M' x = some xs ∧ pForG (fun M => lstOf M x = some xs) g tb (xs.drop i) D σ' M', ⟨xs.length, rfl, Nat.zero_le _, F1, M1, σ, b1, Same.refl _, rs.same b1.sm, e1, h1⟩, ?_⟩
  rintro i m σv2 H2 ⟨rfl, hi2, F2, M2, σ2, b2, sm2, rs2, e2, h2⟩
  obtain ⟨a2, vs, ev, hs2, ra⟩ := (rx.same sm2).lstI b2.rm e2
  cases ev
  by_cases hlt : i < xs.length
  · rw [List.drop_eq_getElem_cons hlt] at h2
    obtain ⟨w, ew, rw'⟩ := ra.get (List.getElem?_eq_getElem hlt)
    refine .inr ⟨⟨vs, w, hs2, ew⟩, _, fun σv' H' n => ⟨_, (show xs.length - (i + 1) < xs.length - i by omega), n⟩, fun v H3 y => ?_⟩
    obtain ⟨rfl, y⟩ := y
    have e3 := y vs hs2
    rw [ew] at e3
    cases e3
    refine (hg.run σv2 H3 σ2 F2 M2 _ w _ b2.rm rs2 rw' h2).mono ?_
    rintro σv4 H4 ⟨F4, M4, σ4, b4, rs4, h4⟩
    have b04 := b2.trans b4
    refine (hb.run σv4 H4 σ4 F4 M4 { D with nx := fun σ M => lstOf M x = some xs ∧ pForG (fun M => lstOf M x = some xs) g tb (xs.drop (i + 1)) D σ M, bk := D.nx, ct := fun σ M => lstOf M x = some xs ∧ pForG (fun M => lstOf M x = some xs) g tb (xs.drop (i + 1)) D σ M } (tk.tr b04) b04.rm rs4 h4).mono ⟨?_, fun _ _ q => q.tr b04, fun _ _ q => q.tr b04, ?_⟩
    · rintro σv5 H5 ⟨F5, M5, σ5, b5, rs5, g5, h5⟩
      exact ⟨rfl, hlt, F5, M5, σ5, b04.trans b5, (sm2.trans b4.sm).trans b5.sm, rs5, g5, h5⟩
    · rintro σv5 H5 ⟨F5, M5, σ5, b5, rs5, g5, h5⟩
      exact ⟨rfl, hlt, F5, M5, σ5, b04.trans b5, (sm2.trans b4.sm).trans b5.sm, rs5, g5, h5⟩
  · have e : i = xs.length := by omega
    subst e
    rw [List.drop_length] at h2
    exact .inl ⟨⟨vs, hs2, by rw [← ra.length]; exact Nat.le_refl _⟩, F2, M2, σ2, b2, rs2, h2⟩
end
end PL
set_option Elab.async false
set_option linter.all false
set_option maxRecDepth 100000
namespace PL
open PySem PySem.Spec PyProof.Rows L2
/-! ### how readings compute -/
theorem kit_ib : kitB "int" "bool" = some false := by decide +kernel
theorem kit_ii : kitB "int" "int" = some true := by decide +kernel
theorem kit_it : kitB "int" "tuple" = some false := by decide +kernel
theorem kit_il : kitB "int" "list" = some false := by decide +kernel
theorem kit_is : kitB "int" "str" = some false := by decide +kernel
theorem kit_bb : kitB "bool" "bool" = some true := by decide +kernel
theorem kit_bi : kitB "bool" "int" = some true := by decide +kernel
theorem kit_bt : kitB "bool" "tuple" = some false := by decide +kernel
theorem kit_bl : kitB "bool" "list" = some false := by decide +kernel
theorem kit_bs : kitB "bool" "str" = some false := by decide +kernel
theorem kit_tb : kitB "tuple" "bool" = some false := by decide +kernel
theorem kit_ti : kitB "tuple" "int" = some false := by decide +kernel
theorem kit_tt : kitB "tuple" "tuple" = some true := by decide +kernel
theorem kit_tl : kitB "tuple" "list" = some false := by decide +kernel
theorem kit_ts : kitB "tuple" "str" = some false := by decide +kernel
theorem kit_lb : kitB "list" "bool" = some false := by decide +kernel
theorem kit_li : kitB "list" "int" = some false := by decide +kernel
theorem kit_lt : kitB "list" "tuple" = some false := by decide +kernel
theorem kit_ll : kitB "list" "list" = some true := by decide +kernel
theorem kit_ls : kitB "list" "str" = some false := by decide +kernel
theorem kit_sb : kitB "str" "bool" = some false := by decide +kernel
theorem kit_si : kitB "str" "int" = some false := by decide +kernel
theorem kit_st : kitB "str" "tuple" = some false := by decide +kernel
theorem kit_sl : kitB "str" "list" = some false := by decide +kernel
theorem kit_ss : kitB "str" "str" = some true := by decide +kernel
theorem kit_nb : kitB "NoneType" "bool" = some false := by decide +kernel
theorem kit_ni : kitB "NoneType" "int" = some false := by decide +kernel
theorem kit_nt : kitB "NoneType" "tuple" = some false := by decide +kernel
theorem kit_nl : kitB "NoneType" "list" = some false := by decide +kernel
theorem kit_ns : kitB "NoneType" "str" = some false := by decide +kernel
section
variable {M : Mem} {T : String} {Q : PQ} {n : String}
theorem isi_of {v : PV} (h : tyOf M v = some n) : kIsi T v M Q = need (kitB n T) fun b => Q (.bl b) M := by
  unfold kIsi isi
  rw [h]
  rfl
theorem isi_int {i : Int} : kIsi T (.int i) M Q = need (kitB "int" T) fun b => Q (.bl b) M := rfl
theorem isi_bl {i : Bool} : kIsi T (.bl i) M Q = need (kitB "bool" T) fun b => Q (.bl b) M := rfl
theorem isi_str {i : Str} : kIsi T (.str i) M Q = need (kitB "str" T) fun b => Q (.bl b) M := rfl
theorem isi_non : kIsi T .non M Q = need (kitB "NoneType" T) fun b => Q (.bl b) M := rfl
theorem isi_tup {xs : List PV} : kIsi T (.tup xs) M Q = need (kitB "tuple" T) fun b => Q (.bl b) M := rfl
theorem isi_lst {xs : List PV} : kIsi T (.lst xs) M Q = need (kitB "list" T) fun b => Q (.bl b) M := rfl
theorem tyOf_ptr {a : Addr} {xs : List PV} (h : M a = some (.lst xs)) : tyOf M (.ptr a) = some "list" := by
  show (match M a with | some (.lst _) => some "list" | _ => none) = some "list"
  rw [h]
/-! subscripts -/
theorem ix_tup {xs : List PV} {i : Int} : oIx (.tup xs) (.int i) M Q = need (L2.atI xs i) fun z => Q z M := rfl
theorem ix_lst {xs : List PV} {i : Int} : oIx (.lst xs) (.int i) M Q = need (L2.atI xs i) fun z => Q z M := rfl
theorem ix_scr {xs : List PV} {i : Int} : oIx (.scr xs) (.int i) M Q = need (L2.atI xs i) fun z => Q z M := rfl
theorem ix_ptr {a : Addr} {xs : List PV} {i : Int} (h : M a = some (.lst xs)) : oIx (.ptr a) (.int i) M Q = need (L2.atI xs i) fun z => Q z M := by
  show need (seqOf M (.ptr a)) _ = _
  rw [seqOf_ptr h]
  rfl
theorem at_nat {α : Type} (xs : List α) (n : Nat) : L2.atI xs (n : Int) = xs[n]? := by
  unfold L2.atI ixN
  rw [if_pos (Int.natCast_nonneg n)]
  by_cases h : (n : Int) < xs.length
  · rw [if_pos h]
    rfl
  · rw [if_neg h]
    have : xs.length ≤ n := by omega
    rw [List.getElem?_eq_none this]
    rfl
theorem at_pos {α : Type} (xs : List α) {i : Int} (h : 0 ≤ i) : L2.atI xs i = xs[i.toNat]? := by
  have e : i = ((i.toNat : Nat) : Int) := (Int.toNat_of_nonneg h).symm
  rw [e, at_nat]
  rfl
theorem at_0 {α : Type} (xs : List α) : L2.atI xs 0 = xs[0]? := at_nat xs 0
theorem at_1 {α : Type} (xs : List α) : L2.atI xs 1 = xs[1]? := at_nat xs 1
theorem at_2 {α : Type} (xs : List α) : L2.atI xs 2 = xs[2]? := at_nat xs 2
theorem at_3 {α : Type} (xs : List α) : L2.atI xs 3 = xs[3]? := at_nat xs 3
theorem at_4 {α : Type} (xs : List α) : L2.atI xs 4 = xs[4]? := at_nat xs 4
theorem at_5 {α : Type} (xs : List α) : L2.atI xs 5 = xs[5]? := at_nat xs 5
theorem at_last {α : Type} (xs : List α) (h : xs ≠ []) : L2.atI xs (-1) = xs.getLast? := by
  rcases List.eq_nil_or_concat xs with e | ⟨r, y, e⟩
  · exact absurd e h
  · rw [e, List.concat_eq_append, atI_last]
    simp
/-! lengths -/
theorem len_tup {xs : List PV} : kLen (.tup xs) M Q = Q (.int xs.length) M := rfl
theorem len_lst {xs : List PV} : kLen (.lst xs) M Q = Q (.int xs.length) M := rfl
theorem len_scr {xs : List PV} : kLen (.scr xs) M Q = Q (.int xs.length) M := rfl
theorem len_ptr {a : Addr} {xs : List PV} (h : M a = some (.lst xs)) : kLen (.ptr a) M Q = Q (.int xs.length) M := by
  show need (seqOf M (.ptr a)) _ = _
  rw [seqOf_ptr h]
  rfl
/-! == of ints, of tuples of ints -/
theorem eq_int' {i j : Int} : oEq (.int i) (.int j) M Q = Q (.bl (decide (i = j))) M := rfl
theorem ne_int' {i j : Int} : oNe (.int i) (.int j) M Q = Q (.bl (!decide (i = j))) M := rfl
theorem eq_bl' {i j : Bool} : oEq (.bl i) (.bl j) M Q = Q (.bl (decide (i = j))) M := rfl
theorem ne_bl' {i j : Bool} : oNe (.bl i) (.bl j) M Q = Q (.bl (!decide (i = j))) M := rfl
theorem eq_str' {i j : Str} : oEq (.str i) (.str j) M Q = Q (.bl (decide (i = j))) M := rfl
theorem ne_str' {i j : Str} : oNe (.str i) (.str j) M Q = Q (.bl (!decide (i = j))) M := rfl
theorem eqvAll_ints : ∀ xs ys : List Int, PyData.eqvAll (xs.map .int) (ys.map .int) = decide (xs = ys)
  | [], [] => rfl
  | [], _ :: _ => rfl
  | _ :: _, [] => rfl
  | x :: xs, y :: ys => by
    show (PyData.eqv (.int x) (.int y) && PyData.eqvAll (xs.map .int) (ys.map .int)) = _
    rw [eqvAll_ints xs ys]
    show ((x == y) && decide (xs = ys)) = decide (x :: xs = y :: ys)
    by_cases h : x = y
    · subst h
      simp
    · simp [h]
theorem toD_tI (xs : List Int) : toD (.tup (xs.map .int)) = some (.tuple (xs.map .int)) := by
  unfold toD
  rw [toDs_ints]
  rfl
theorem eqP_tI {xs ys : List Int} {k : Bool → Prop} : eqP (.tup (xs.map .int)) (.tup (ys.map .int)) k = k (decide (xs = ys)) := by
  unfold eqP
  show need (toD _) _ = _
  rw [toD_tI]
  show need (toD _) _ = _
  rw [toD_tI]
  show (_ ∧ _ ∧ k (PyData.eqvAll (xs.map .int) (ys.map .int))) = _
  rw [eqvAll_ints]
  have d : ∀ zs : List Int, PyData.depth (.tuple (zs.map .int)) ≤ 64 := fun zs => by
    show PyData.depthAll (zs.map .int) + 1 ≤ 64
    rw [depth_ints]
    decide
  exact propext ⟨fun h => h.2.2, fun h => ⟨d xs, d ys, h⟩⟩
end
/-! slices -/
def cutA {α : Type} (xs : List α) (lo hi : Option Int) : List α := (xs.drop (HT.sIx xs.length 0 lo)).take (HT.sIx xs.length xs.length hi - HT.sIx xs.length 0 lo)
theorem cutP_eq (xs : List PV) (lo hi : Option Int) : cutP xs lo hi = cutA xs lo hi := rfl
theorem cutA_map {α β : Type} (f : α → β) (xs : List α) (lo hi : Option Int) : cutA (xs.map f) lo hi = (cutA xs lo hi).map f := by
  unfold cutA
  rw [List.length_map, List.map_take, List.map_drop]
theorem sIx_none' (n d : Nat) : HT.sIx n d none = d := rfl
theorem sIx_nn {n d : Nat} {k : Int} (h : 0 ≤ k) : HT.sIx n d (some k) = min k.toNat n := by
  show (if k < 0 then _ else _) = _
  rw [if_neg (by omega)]
theorem cutA_from {α : Type} (xs : List α) {k : Int} (h : 0 ≤ k) : cutA xs (some k) none = xs.drop k.toNat := by
  unfold cutA
  rw [sIx_nn h, sIx_none']
  by_cases hk : k.toNat ≤ xs.length
  · rw [Nat.min_eq_left hk]
    exact List.take_of_length_le (by rw [List.length_drop]; exact Nat.le_refl _)
  · rw [Nat.min_eq_right (by omega)]
    simp
    omega
theorem cutA_from1 {α : Type} (xs : List α) : cutA xs (some 1) none = xs.tail := by
  rw [cutA_from xs (by decide)]
  show xs.drop 1 = xs.tail
  simp
theorem cutA_to {α : Type} (xs : List α) {k : Int} (h : 0 ≤ k) : cutA xs none (some k) = xs.take k.toNat := by
  unfold cutA
  rw [sIx_nn h, sIx_none', Nat.sub_zero, List.drop_zero]
  by_cases hk : k.toNat ≤ xs.length
  · rw [Nat.min_eq_left hk]
  · rw [Nat.min_eq_right (by omega), List.take_of_length_le (Nat.le_refl _), List.take_of_length_le (by omega)]
section
variable {M : Mem} {Q : PQ} {lo hi : Option Int}
theorem sl_tup {xs : List PV} : oSl (.tup xs) lo hi M Q = Q (.tup (cutA xs lo hi)) M := rfl
theorem sl_lst {xs : List PV} : oSl (.lst xs) lo hi M Q = Q (.lst (cutA xs lo hi)) M := rfl
theorem sl_scr {xs : List PV} : oSl (.scr xs) lo hi M Q = Q (.lst (cutA xs lo hi)) M := rfl
theorem sl_ptr {a : Addr} {xs : List PV} (h : M a = some (.lst xs)) : oSl (.ptr a) lo hi M Q = Q (.lst (cutA xs lo hi)) M := by
  show need (lstOf M (.ptr a)) _ = _
  rw [lstOf_ptr h]
  rfl
end
theorem line_lt {n : Nat} (h : n < 10000000) : n ≤ sizeLine := by
  rw [sizeLine_eq]
  omega
theorem line_lt' {n : Nat} (h : n < 10000000) : n < sizeLine := by
  rw [sizeLine_eq]
  omega
/-! lists that may change, fields -/
section
variable {M : Mem} {Q : PQ}
theorem len_of {x : PV} {xs : List PV} (h : lstOf M x = some xs) : kLen x M Q = Q (.int xs.length) M := by
  have e := lstOf_seq h
  cases x <;> first
    | (show need (seqOf M (.ptr _)) _ = _; rw [e]; rfl)
    | (cases h; rfl)
    | cases h
theorem list_of {x : PV} {xs : List PV} (h : lstOf M x = some xs) : kList x M Q = Q (.lst xs) M := by
  unfold kList
  rw [lstOf_seq h]
  rfl
theorem tupOf_of {x : PV} {xs : List PV} (h : seqOf M x = some xs) : PL.kTup x M Q = Q (.tup xs) M := by
  unfold PL.kTup
  rw [h]
  rfl
theorem putF_ptr {C : Addr} {f : Str} {x : PV} {p : Addr} {fs : List (Str × PV)} {k : Mem → Prop} (h : M p = some (.obj C fs)) : kPutF C f x (.ptr p) M k = (fs.length < 1000 ∧ k (M.put p (.obj C (putP f x fs)))) := by
  show (match M p with | some (.obj C' fs) => C' = C ∧ fs.length < 1000 ∧ k (M.put p (.obj C (putP f x fs))) | _ => False) = _
  rw [h]
  exact propext ⟨fun z => z.2, fun z => ⟨rfl, z⟩⟩
theorem app_ptr {p : Addr} {xs : List PV} {x : PV} (h : M p = some (.lst xs)) (hz : xs.length < sizeLine) : kApp (.ptr p) x M Q = Q .non (M.put p (.lst (xs ++ [x]))) := by
  show (match M p with | some (.lst xs) => xs.length < sizeLine ∧ Q .non (M.put p (.lst (xs ++ [x]))) | _ => False) = _
  rw [h]
  exact propext ⟨fun z => z.2, fun z => ⟨hz, z⟩⟩
theorem set_ptr {p : Addr} {xs : List PV} {x : PV} {i : Int} {k : Mem → Prop} (h : M p = some (.lst xs)) (h0 : 0 ≤ i) (h1 : i < xs.length) : kSet (.ptr p) (.int i) x M k = k (M.put p (.lst (xs.set i.toNat x))) := by
  show (match M p with | some (.lst xs) => need (ixN xs.length i) fun j => k (M.put p (.lst (xs.set j x))) | _ => False) = _
  rw [h]
  show need (ixN xs.length i) _ = _
  unfold ixN
  rw [if_pos h0, if_pos h1]
  rfl
theorem fz_ptr {p : Addr} {xs : List PV} (h : M p = some (.lst xs)) : kFz (.ptr p) M Q = Q (.lst xs) (M.drop p) := by
  show (match M p with | some (.lst xs) => Q (.lst xs) (M.drop p) | some (.obj C fs) => Q (.obj C fs) (M.drop p) | none => False) = _
  rw [h]
end
theorem lstOf_put {M : Mem} {x : PV} {xs : List PV} {p : Addr} {o : MO} (h : lstOf M x = some xs) (hp : ∀ ys, M p ≠ some (.lst ys)) : lstOf (M.put p o) x = some xs := by
  cases x with
  | ptr a =>
    have hm : M a = some (.lst xs) := by
      have h' : (match M a with | some (.lst xs) => some xs | _ => none) = some xs := h
      cases e : M a with
      | none => rw [e] at h'; cases h'
      | some m =>
        rw [e] at h'
        cases m with
        | lst ys => cases h'; rfl
        | obj C fs => cases h'
    have ne : a ≠ p := fun z => hp xs (by rw [← z]; exact hm)
    refine lstOf_ptr ?_
    rw [put_ne ne]
    exact hm
  | lst ys => exact h
  | scr ys => exact h
  | _ => cases h
/-! readings at values that are known -/
section
variable {M : Mem} {Q : PQ} {D : PEnds} {σ : PSt} {E : PXK}
theorem r_add_int {i j : Int} : oAdd (.int i) (.int j) M Q = Q (.int (i + j)) M := rfl
theorem r_add_str {i j : Str} : oAdd (.str i) (.str j) M Q = (i.length + j.length ≤ sizeLine ∧ Q (.str (i ++ j)) M) := rfl
theorem r_add_tup {i j : List PV} : oAdd (.tup i) (.tup j) M Q = (i.length + j.length ≤ sizeLine ∧ Q (.tup (i ++ j)) M) := rfl
theorem r_add_lst {i j : List PV} : oAdd (.lst i) (.lst j) M Q = (i.length + j.length ≤ sizeLine ∧ Q (.lst (i ++ j)) M) := rfl
theorem r_mulA_int {i j : Int} : oMulA (.int i) (.int j) M Q = (CMul i j ∧ Q (.int (i * j)) M) := rfl
theorem r_mulA_tup {i : List PV} {k : Int} : oMulA (.tup i) (.int k) M Q = ((-(2 ^ 62) ≤ k ∧ k ≤ 1000 ∧ i.length ≤ 1000) ∧ Q (.tup (List.replicate k.toNat i).flatten) M) := rfl
theorem r_I0 {g : Int → Int → PV} {i j : Int} : oI0 g (.int i) (.int j) M Q = Q (g i j) M := rfl
theorem r_I {C : Int → Int → Prop} {g : Int → Int → PV} {i j : Int} : oI C g (.int i) (.int j) M Q = (C i j ∧ Q (g i j) M) := rfl
def kNeg (x : PV) (M : Mem) (Q : PQ) : Prop := match x with | .int i => Q (.int (-i)) M | _ => False
theorem r_neg {ta : PTE} : pNeg ta E σ M Q = ta E σ M fun x M1 => kNeg x M1 Q := rfl
theorem r_neg_int {i : Int} : kNeg (.int i) M Q = Q (.int (-i)) M := rfl
def kCh1 (p q : Int → Int → Bool) (tc : PTE) (E : PXK) (σ : PSt) (x y : PV) (M2 : Mem) (Q : PQ) : Prop := match x, y with
  | .int i, .int j => if p i j = true then tc E σ M2 fun z M3 => match z with | .int l => Q (.bl (q j l)) M3 | _ => False else Q (.bl false) M2
  | _, _ => False
def kCh2 (q : Int → Int → Bool) (j : Int) (z : PV) (M3 : Mem) (Q : PQ) : Prop := match z with | .int l => Q (.bl (q j l)) M3 | _ => False
theorem r_chain {p q : Int → Int → Bool} {ta tb tc : PTE} : pChain p q ta tb tc E σ M Q = ta E σ M fun x M1 => tb E σ M1 fun y M2 => kCh1 p q tc E σ x y M2 Q := rfl
theorem r_ch1 {p q : Int → Int → Bool} {tc : PTE} {i j : Int} : kCh1 p q tc E σ (.int i) (.int j) M Q = if p i j = true then tc E σ M fun z M3 => kCh2 q j z M3 Q else Q (.bl false) M := rfl
theorem r_ch2 {q : Int → Int → Bool} {j l : Int} : kCh2 q j (.int l) M Q = Q (.bl (q j l)) M := rfl
theorem r_abs {i : Int} : kAbs (.int i) M Q = Q (.int (if i < 0 then -i else i)) M := rfl
theorem r_int {i : Int} : kInt (.int i) M Q = Q (.int i) M := rfl
theorem r_min2 {i j : Int} : kMin2 (.int i) (.int j) M Q = Q (.int (if j < i then j else i)) M := rfl
theorem r_max2 {i j : Int} : kMax2 (.int i) (.int j) M Q = Q (.int (if j > i then j else i)) M := rfl
theorem r_list_lst {xs : List PV} : kList (.lst xs) M Q = Q (.lst xs) M := rfl
theorem r_list_tup {xs : List PV} : kList (.tup xs) M Q = Q (.lst xs) M := rfl
theorem r_list_scr {xs : List PV} : kList (.scr xs) M Q = Q (.lst xs) M := rfl
theorem r_tup_lst {xs : List PV} : PL.kTup (.lst xs) M Q = Q (.tup xs) M := rfl
theorem r_tup_tup {xs : List PV} : PL.kTup (.tup xs) M Q = Q (.tup xs) M := rfl
theorem r_listM_lst {xs : List PV} : kListM (.lst xs) M Q = ∀ p, M p = none → Q (.ptr p) (M.put p (.lst xs)) := rfl
theorem r_listM_tup {xs : List PV} : kListM (.tup xs) M Q = ∀ p, M p = none → Q (.ptr p) (M.put p (.lst xs)) := rfl
theorem r_on1 {k : PV → Mem → PQ → Prop} {x : PV} : on1 k [x] M Q = k x M Q := rfl
theorem r_on2 {k : PV → PV → Mem → PQ → Prop} {x y : PV} : on2 k [x, y] M Q = k x y M Q := rfl
theorem r_gtup {n : Nat} {u : PTGs} {xs : List PV} {R : PNx} : gpTup n u (.tup xs) σ M R = (xs.length = n ∧ u xs σ M R) := rfl
theorem r_gcons {t : PTG} {u : PTGs} {x : PV} {r : List PV} {R : PNx} : gpCons t u (x :: r) σ M R = t x σ M fun σ' M' => u r σ' M' R := rfl
theorem r_gnil {R : PNx} : gpNil [] σ M R = R σ M := rfl
theorem r_non_non : isNon .non = true := rfl
theorem r_non_int {i : Int} : isNon (.int i) = false := rfl
theorem r_non_tup {i : List PV} : isNon (.tup i) = false := rfl
theorem r_non_lst {i : List PV} : isNon (.lst i) = false := rfl
theorem r_non_str {i : Str} : isNon (.str i) = false := rfl
theorem r_non_bl {i : Bool} : isNon (.bl i) = false := rfl
theorem r_non_ptr {i : Addr} : isNon (.ptr i) = false := rfl
theorem r_non_obj {C : Addr} {fs : List (Str × PV)} : isNon (.obj C fs) = false := rfl
def kPartI (x : PV) (k : Option Int → Prop) : Prop := match x with | .int i => k (some i) | _ => False
theorem r_part {t : PTE} {R : Option Int → Mem → Prop} : pPart t E σ M R = t E σ M fun x M1 => kPartI x fun o => R o M1 := rfl
theorem r_part_int {i : Int} {k : Option Int → Prop} : kPartI (.int i) k = k (some i) := rfl
def kR1 (x : PV) (M1 : Mem) (R : List PV → Mem → Prop) : Prop := match x with | .int j => (-(2 ^ 62) ≤ j ∧ j < 2 ^ 62) ∧ R (rngP 0 j.toNat) M1 | _ => False
theorem r_R1 {te : PTE} {R : List PV → Mem → Prop} : piR1 te E σ M R = te E σ M fun x M1 => kR1 x M1 R := rfl
theorem r_R1_int {j : Int} {R : List PV → Mem → Prop} : kR1 (.int j) M R = ((-(2 ^ 62) ≤ j ∧ j < 2 ^ 62) ∧ R (rngP 0 j.toNat) M) := rfl
def kR2 (x y : PV) (M2 : Mem) (R : List PV → Mem → Prop) : Prop := match x, y with | .int i, .int j => (-(2 ^ 62) ≤ i ∧ i < 2 ^ 62 ∧ -(2 ^ 62) ≤ j ∧ j < 2 ^ 62) ∧ R (rngP i (j - i).toNat) M2 | _, _ => False
theorem r_R2 {ta tb : PTE} {R : List PV → Mem → Prop} : piR2 ta tb E σ M R = ta E σ M fun x M1 => tb E σ M1 fun y M2 => kR2 x y M2 R := rfl
theorem r_R2_int {i j : Int} {R : List PV → Mem → Prop} : kR2 (.int i) (.int j) M R = ((-(2 ^ 62) ≤ i ∧ i < 2 ^ 62 ∧ -(2 ^ 62) ≤ j ∧ j < 2 ^ 62) ∧ R (rngP i (j - i).toNat) M) := rfl
theorem r_lstF {xs : List PV} : lstF (.lst xs) = some xs := rfl
theorem r_lstF_scr {xs : List PV} : lstF (.scr xs) = some xs := rfl
theorem r_tupF {xs : List PV} : tupF (.tup xs) = some xs := rfl
end
end PL
set_option Elab.async false
set_option linter.all false
set_option maxRecDepth 100000
namespace PL
open PySem
/-! ### loops by what holds between their turns -/
theorem forL {g : PTG} {tb : PTS} {D : PEnds} (I : Nat → PNx) : ∀ (xs : List PV) (j : Nat) (hs : ∀ i x σ M K, xs[i]? = some x → I (j + i) σ M → (∀ σ' M', I (j + i + 1) σ' M' → K σ' M') → g x σ M fun σ1 M1 => tb { D with nx := K, bk := D.nx, ct := K } σ1 M1)
    (hd : ∀ σ M, I (j + xs.length) σ M → D.nx σ M) (σ : PSt) (M : Mem), I j σ M → pForL g tb xs D σ M
  | [], j, hs, hd, σ, M, h => hd σ M h
  | x :: xs, j, hs, hd, σ, M, h => by
    refine hs 0 x σ M (pForL g tb xs D) rfl h fun σ' M' h' => ?_
    refine forL I xs (j + 1) (fun i y σ M K e hi hk => ?_) (fun σ M hl => hd σ M ?_) σ' M' h'
    · have e1 : j + 1 + i = j + (i + 1) := by omega
      rw [e1] at hi hk
      exact hs (i + 1) y σ M K e hi hk
    · have e1 : j + 1 + xs.length = j + (x :: xs).length := by rw [List.length_cons]; omega
      rw [e1] at hl
      exact hl
theorem for_in {g : PTG} {tb : PTS} {D : PEnds} (I : Nat → PNx) {xs : List PV} {σ : PSt} {M : Mem} (h0 : I 0 σ M)
    (hs : ∀ i x σ M K, xs[i]? = some x → I i σ M → (∀ σ' M', I (i + 1) σ' M' → K σ' M') → g x σ M fun σ1 M1 => tb { D with nx := K, bk := D.nx, ct := K } σ1 M1)
    (hd : ∀ σ M, I xs.length σ M → D.nx σ M) : pForL g tb xs D σ M :=
  forL I xs 0 (fun i x σ M K e hi hk => by rw [Nat.zero_add] at hi hk; exact hs i x σ M K e hi hk) (fun σ M h => hd σ M (by rw [Nat.zero_add] at h; exact h)) σ M h0
theorem for_rng {g : PTG} {tb : PTS} {D : PEnds} (I : Nat → PNx) {lo : Int} {n : Nat} {σ : PSt} {M : Mem} (h0 : I 0 σ M)
    (hs : ∀ (i : Nat) σ M K, i < n → I i σ M → (∀ σ' M', I (i + 1) σ' M' → K σ' M') → g (.int (lo + i)) σ M fun σ1 M1 => tb { D with nx := K, bk := D.nx, ct := K } σ1 M1)
    (hd : ∀ σ M, I n σ M → D.nx σ M) : pForL g tb (rngP lo n) D σ M := by
  refine for_in I h0 (fun i x σ M K e hi hk => ?_) (fun σ M h => hd σ M (by rw [rngP_length] at h; exact h))
  have hlt : i < n := by
    have := (List.getElem?_eq_some_iff.mp e).1
    rw [rngP_length] at this
    exact this
  have ex : x = .int (lo + i) := by
    have e2 : (rngP lo n)[i]? = some (PV.int (lo + i)) := by
      unfold rngP
      rw [List.getElem?_map, List.getElem?_range hlt]
      rfl
    exact Option.some.inj (e.symm.trans e2)
  rw [ex]
  exact hs i σ M K hlt hi hk
theorem forG {G : Mem → Prop} {g : PTG} {tb : PTS} {D : PEnds} (I : Nat → PNx) : ∀ (xs : List PV) (j : Nat) (hs : ∀ i x σ M K, xs[i]? = some x → I (j + i) σ M → (∀ σ' M', G M' → I (j + i + 1) σ' M' → K σ' M') → g x σ M fun σ1 M1 => tb { D with nx := K, bk := D.nx, ct := K } σ1 M1)
    (hd : ∀ σ M, I (j + xs.length) σ M → D.nx σ M) (σ : PSt) (M : Mem), I j σ M → pForG G g tb xs D σ M
  | [], j, hs, hd, σ, M, h => hd σ M h
  | x :: xs, j, hs, hd, σ, M, h => by
    refine hs 0 x σ M (fun σ M => G M ∧ pForG G g tb xs D σ M) rfl h fun σ' M' hg h' => ⟨hg, ?_⟩
    refine forG I xs (j + 1) (fun i y σ M K e hi hk => ?_) (fun σ M hl => hd σ M ?_) σ' M' h'
    · have e1 : j + 1 + i = j + (i + 1) := by omega
      rw [e1] at hi hk
      exact hs (i + 1) y σ M K e hi hk
    · have e1 : j + 1 + xs.length = j + (x :: xs).length := by rw [List.length_cons]; omega
      rw [e1] at hl
      exact hl
theorem for_inG {G : Mem → Prop} {g : PTG} {tb : PTS} {D : PEnds} (I : Nat → PNx) {xs : List PV} {σ : PSt} {M : Mem} (h0 : I 0 σ M)
    (hs : ∀ i x σ M K, xs[i]? = some x → I i σ M → (∀ σ' M', G M' → I (i + 1) σ' M' → K σ' M') → g x σ M fun σ1 M1 => tb { D with nx := K, bk := D.nx, ct := K } σ1 M1)
    (hd : ∀ σ M, I xs.length σ M → D.nx σ M) : pForG G g tb xs D σ M :=
  forG I xs 0 (fun i x σ M K e hi hk => by rw [Nat.zero_add] at hi hk; exact hs i x σ M K e hi hk) (fun σ M h => hd σ M (by rw [Nat.zero_add] at h; exact h)) σ M h0
theorem whileN {c : PTT} {tb : PTS} {D : PEnds} (I : Nat → PNx)
    (hs : ∀ m σ M K, I m σ M → (∀ m' σ' M', m' < m → I m' σ' M' → K σ' M') → c D.ex σ M fun b M1 => if b = true then tb { D with nx := K, bk := D.nx, ct := K } σ M1 else D.nx σ M1) :
    ∀ (n m : Nat) (σ : PSt) (M : Mem), m < n → I m σ M → pWhileN c tb n D σ M
  | 0, m, σ, M, h, _ => absurd h (Nat.not_lt_zero _)
  | n + 1, m, σ, M, h, hI => hs m σ M (pWhileN c tb n D) hI fun m' σ' M' hm hI' => whileN I hs n m' σ' M' (by omega) hI'
theorem while_in {c : PTT} {tb : PTS} {D : PEnds} (I : Nat → PNx) {m : Nat} {σ : PSt} {M : Mem} (h0 : I m σ M)
    (hs : ∀ m σ M K, I m σ M → (∀ m' σ' M', m' < m → I m' σ' M' → K σ' M') → c D.ex σ M fun b M1 => if b = true then tb { D with nx := K, bk := D.nx, ct := K } σ M1 else D.nx σ M1) : pWhile c tb D σ M :=
  ⟨m + 1, whileN I hs (m + 1) m σ M (Nat.lt_succ_self m) h0⟩
/-! ### comprehensions of plain elements -/
theorem lc_pure {i : Nat} {tt : PTT} {te : PTE} {σ : PSt} {M : Mem} {Q : PQ} (p : PV → Bool) (f : PV → PV) : ∀ (xs : List PV) (acc : List PV)
    (ht : ∀ x ∈ xs, ∀ R : Bool → Mem → Prop, R (p x) M → tt noX (σ.set i (some x)) M R) (he : ∀ x ∈ xs, p x = true → ∀ R : PQ, R (f x) M → te noX (σ.set i (some x)) M R),
    Q (.lst (acc ++ (xs.filter p).map f)) M → pLcL i tt te xs acc σ M Q
  | [], acc, ht, he, q => by
    rw [List.filter_nil, List.map_nil, List.append_nil] at q
    exact q
  | x :: xs, acc, ht, he, q => by
    refine ht x List.mem_cons_self _ ?_
    have ht' : ∀ y ∈ xs, ∀ R : Bool → Mem → Prop, R (p y) M → tt noX (σ.set i (some y)) M R := fun y hy => ht y (List.mem_cons_of_mem _ hy)
    have he' : ∀ y ∈ xs, p y = true → ∀ R : PQ, R (f y) M → te noX (σ.set i (some y)) M R := fun y hy => he y (List.mem_cons_of_mem _ hy)
    cases hp : p x with
    | true =>
      rw [if_pos rfl]
      refine he x List.mem_cons_self hp _ (lc_pure p f xs (acc ++ [f x]) ht' he' ?_)
      rw [List.filter_cons, if_pos hp, List.map_cons] at q
      rw [List.append_assoc]
      exact q
    | false =>
      rw [if_neg Bool.false_ne_true]
      refine lc_pure p f xs acc ht' he' ?_
      rw [List.filter_cons, if_neg (by rw [hp]; exact Bool.false_ne_true)] at q
      exact q
theorem lc_map {i : Nat} {te : PTE} {σ : PSt} {M : Mem} {Q : PQ} (f : PV → PV) {xs : List PV} (he : ∀ x ∈ xs, ∀ R : PQ, R (f x) M → te noX (σ.set i (some x)) M R) (q : Q (.lst (xs.map f)) M) : pLcL i pYes te xs [] σ M Q := by
  refine lc_pure (fun _ => true) f xs [] (fun x _ R h => h) (fun x hx _ => he x hx) ?_
  rw [List.nil_append, List.filter_eq_self.mpr (fun _ _ => rfl)]
  exact q
theorem cdiv_eq (i j : Int) : L2.CDiv i j = (0 < j ∧ j < 1073741824) := rfl
theorem put_mid {M : Mem} {a b : Addr} {o o' u : MO} (h : a ≠ b) : ((M.put a o).put b u).put a o' = (M.put a o').put b u := by
  rw [put_swap (Ne.symm h), put_put]
theorem put_over {M : Mem} {a b : Addr} {o u u' : MO} : ((M.put a o).put b u).put b u' = (M.put a o).put b u' := put_put
end PL
set_option Elab.async false
set_option linter.all false
set_option maxRecDepth 100000
namespace PL
open PySem PySem.Spec PyProof.Rows L2
section
variable {X : Cx}
/-! ### an own error without fields -/
def pRaise (C : Addr) : PTS := fun D _ M => D.ex C [] M
theorem LS.raise {C : Addr} {bmB : List Value} {B newId initId : String} {x m : Str} {j : Nat} {p p2 pos pos' : Pos} (F : ExcBaseFacts B newId initId bmB) (q : PySem.W.excIn X.K C bmB newId = true) (gC : X.mg x = some (.ref C)) (kC : PySem.W.keepIn X.K (.ref C) = true)
    (r : Raises X (.ref C)) (hg : Gl X x) (hc : X.calm = true := by rfl) (hd : (x == ("__debug__" : Str)) = false := by decide) : LS X (.Raise (some (.Call (.Name x p) [.Constant (.str m) j p2] [] pos)) none pos') (pRaise C) :=
  ⟨fun σv H σ F0 M D tk rm rs h => WS.of (ps_raise hc tk (pmk_own F q gC kC r hg hd)) ⟨F0, M, C, [], rfl, Beh.refl rm, rfl, h⟩⟩
structure OwnErr (K : PySem.W.Frag) (C : Addr) : Prop where
  x : PySem.W.excIn K C [.type "ValueError", .type "Exception", .type "BaseException", .type "object"] "ValueError.__new__" = true
  k : PySem.W.keepIn K (.ref C) = true
  b : PySem.W.subIn K (.ref C) (.type "BaseException") = some true
  t : PySem.W.typeIn K (.ref C) = some (.type "type")
/-! ### try .. except X as n -/
def pTryAs (n i : Nat) (exm : Addr → Option Bool) (tb : PTS) (ts : Addr → Addr → PTS) : PTS := fun D σ M =>
  tb { D with ex := fun C fs M' => need (exm C) fun b => (b = true → fs = [] ∧ ∀ a, M' a = none → ts C a { nx := fun σ' M'' => D.nx (σ'.set i none) M'', rt := D.rt, ex := noX, bk := fun σ' M'' => D.bk (σ'.set i none) M'', ct := fun σ' M'' => D.ct (σ'.set i none) M'' } ((List.replicate n none).set i (some (.ptr a))) M') ∧ (b = false → D.ex C fs M') } σ M
theorem Takes.weak {X : Cx} {W W' : WX} (h : Takes X W) (m : ∀ cls d σ H, σ.length = X.N.length → W' cls d σ H → W cls d σ H) : Takes X W' := by
  rintro u s' ⟨a, B, sI, pins, σ, H, cls, d, e, I, q1, q2, q3, q4, q5, q6, w⟩
  exact h u s' ⟨a, B, sI, pins, σ, H, cls, d, e, I, q1, q2, q3, q4, q5, q6, m _ _ _ _ I.len w⟩
theorem LX.trB {K : PySem.W.Frag} {F F1 H H1 H' : Hp} {M M1 : Mem} {E : PXK} {cls : Value} {d : Option Addr} (b : Beh K F M H F1 M1 H1) (h : LX K F1 M1 H1 E cls d H') : LX K F M H E cls d H' := by
  obtain ⟨F', M', C, fs, e, b', xa, q⟩ := h
  exact ⟨F', M', C, fs, e, b.trans b', xa, q⟩
theorem RS.setN {K : PySem.W.Frag} {F : Hp} {σ : PSt} {σv : L2.St} (r : RS K F σ σv) (i : Nat) : RS K F (σ.set i none) (σv.set i none) := by
  refine ⟨by rw [List.length_set, List.length_set, r.len], fun j x h => ?_⟩
  rw [List.getElem?_set] at h
  split at h
  · split at h <;> cases h
  · rename_i hn
    obtain ⟨v, h1, h2⟩ := r.at_ j x h
    exact ⟨v, by rw [List.getElem?_set, if_neg hn]; exact h1, h2⟩
theorem LS.tryAs {x n : Str} {c : Value} {i : Nat} {body suite : List Stmt} {b₀ : Stmt} {np pos pos' : Pos} {tb : PTS} {ts : Addr → Addr → PTS} {exm : Addr → Option Bool}
    (hN : X.N.Nodup) (hc : Names X x c) (hx : ∀ C b, exm C = some b → PySem.W.exmOne X.K (.ref C) c = some b)
    (hb : ∀ (pn : List (Addr × Obj)) (xe : Value → Shared → Prop), PassesOwn (model X.prog X.w) X.A X.env xe → LSs (X.tr pn xe) body tb)
    (hsu : ∀ (C : Addr) (b : Bool) (a : Addr) (oe : Obj) (pn : List (Addr × Obj)), exm C = some b → Zc (.ref C) none oe → (∃ vs, oe.data = .fields vs) → LSs (X.suite a ((a, oe) :: pn)) (b₀ :: suite) (ts C a))
    (hs : X.stack = X.env :: X.outer := by rfl) (hf : X.env.frame = some X.env.locals := by rfl) (hi : X.N[i]? = some n := by rfl) (hln : X.env.kindOf n = some .local := by rfl) :
    LS X (.Try body [.ExceptHandler (some (.Name x np)) (some n) (b₀ :: suite) pos'] [] [] pos) (pTryAs X.N.length i exm tb ts) := by
  refine ⟨fun σv H σ F M D tk rm rs h => ?_⟩
  let tbV : WX → TS := fun W D' σ1 H1 => ∃ F1 M1 σp Dp, RM X.K F1 M1 H1 ∧ RS X.K F1 σp σ1 ∧ tb Dp σp M1 ∧ Ends.Le (LD X.K F1 M1 H1 Dp) D' ∧ ∀ cls d y H', y.length = X.N.length → LX X.K F1 M1 H1 Dp.ex cls d H' → W cls d y H'
  let tsV : Addr → Value → Option Addr → TS := fun a cls d D' σ1 H1 => ∃ C b F1 M1 σp Dp, cls = .ref C ∧ exm C = some b ∧ d = none ∧ RM X.K F1 M1 H1 ∧ RS X.K F1 σp σ1 ∧ ts C a Dp σp M1 ∧ Dp.ex = noX ∧ Ends.Le (LD X.K F1 M1 H1 Dp) D'
  refine WS.of (ps_try_as (tb := tbV) (ts := tsV) hs hf hN hi hln hc tk ?_ ?_) ?_
  · intro W pn xe tkW hp
    refine ⟨fun pins s σ1 H1 D' I h1 => ?_⟩
    obtain ⟨F1, M1, σp, Dp, rm1, rs1, h1, le, w⟩ := h1
    exact ((hb pn xe hp).run σ1 H1 σp F1 M1 Dp (Takes.weak tkW w) rm1 rs1 h1).mono le pins s I
  · intro a oe cls d pn hz hfl
    refine ⟨fun pins s σ1 H1 D' I h1 => ?_⟩
    obtain ⟨C, b, F1, M1, σp, Dp, rfl, hC, rfl, rm1, rs1, h1, hx0, le⟩ := h1
    refine ((hsu C b a oe pn hC hz hfl).run σ1 H1 σp F1 M1 Dp ?_ rm1 rs1 h1).mono le pins s I
    refine Takes.weak takes0 fun cls d y H' _ z => ?_
    obtain ⟨_, _, _, _, _, _, _, z⟩ := z
    rw [hx0] at z
    exact z
  · refine ⟨F, M, σ, _, rm, rs, h, ⟨fun _ _ q => q, fun _ _ q => q, fun _ _ q => q, fun _ _ q => q⟩, fun cls d y H' hy z => ?_⟩
    obtain ⟨F', M', C, fs, rfl, beh, xa, z⟩ := z
    obtain ⟨b, e1, z1, z2⟩ := need_of z
    refine ⟨b, hx C b e1, fun e a ha => ?_, fun e => ⟨F', M', C, fs, rfl, beh, xa, z2 e⟩⟩
    obtain ⟨rfl, z3⟩ := z1 e
    have hd : d = none := by
      cases d with
      | none => rfl
      | some a => exact absurd rfl xa.1
    subst hd
    have hM : M' a = none := by
      cases e2 : M' a with
      | none => rfl
      | some m =>
        obtain ⟨o, e3, _⟩ := beh.rm.mu a m e2
        rw [ha] at e3
        cases e3
    have rs0 : RS X.K F' (List.replicate X.N.length none) y := ⟨by rw [List.length_replicate, hy], fun j x h => by
      rw [List.getElem?_replicate] at h
      split at h <;> cases h⟩
    refine ⟨C, b, F', M', _, _, rfl, e1, rfl, beh.rm, rs0.set i (.ptr a), z3 a hM, rfl, ?_⟩
    have nx : ∀ (N : PNx) σ2 H2, LN X.K F' M' H' (fun σ' M'' => N (σ'.set i none) M'') σ2 H2 → LN X.K F M H N (σ2.set i none) H2 := by
      rintro N σ2 H2 ⟨F2, M2, σ3, b2, rs2, q⟩
      exact ⟨F2, M2, _, beh.trans b2, rs2.setN i, q⟩
    exact ⟨fun σ2 H2 q => nx _ _ _ q, fun v H2 q => LQ.tr beh q, fun σ2 H2 q => nx _ _ _ q, fun σ2 H2 q => nx _ _ _ q⟩
/-! ### isinstance(error, Y) in the suite -/
def kIsE (a : Addr) (b : Option Bool) (x : PV) (M : Mem) (Q : PQ) : Prop := x = .ptr a ∧ need b fun b => Q (.bl b) M
theorem LE.isE {Y : Str} {k : Option Bool} {D a CY : Addr} {oe : Obj} {pn : List (Addr × Obj)} {e : Expr} {te : PTE} {p py pos : Pos} (C : ExcC X.K D) (hz : Zc (.ref D) none oe) (hfl : ∃ vs, oe.data = .fields vs) (hg : Gl X "isinstance") (hm : X.mg "isinstance" = none) (hgY : Gl X Y) (hmY : X.mg Y = some (.ref CY))
    (hk : ∀ b, k = some b → PySem.W.kitOne X.K (.ref D) (.ref CY) = some b) (ha : LE (X.suite a ((a, oe) :: pn)) e te) (hdT : (Y == ("__debug__" : Str)) = false := by decide)
    (he : starEach [e, .Name Y py] X.env = (false, eval e X.env) :: starEach [.Name Y py] X.env := by rfl) (he2 : starEach [.Name Y py] X.env = (false, eval (.Name Y py) X.env) :: starEach [] X.env := by rfl)
    (hpl : (backTo pos (starEach [.Name Y py] X.env)).any (·.1) = false := by rfl) : LE (X.suite a ((a, oe) :: pn)) (.Call (.Name "isinstance" p) [e, .Name Y py] [] pos) (fun E σ M Q => te E σ M fun x M1 => kIsE a k x M1 Q) := by
  refine ⟨fun σv H σ F M Q E tk rm rs h => WE.of (pe_callB (call_isE C hz hfl) hg hm (by decide +kernel) (pa_cons WE.pe (pa_cons (pe_glob (v := .ref CY) hgY hmY rfl hdT) pa_nil he2) he) (he := he) (hpl := hpl)) ?_⟩
  refine (ha.run σv H σ F M _ E tk rm rs h).mono ?_
  rintro v H1 ⟨F1, M1, x, b1, rx, rfl, hx⟩
  obtain ⟨b, e1, h2⟩ := need_of hx
  cases rx
  exact ⟨.ref CY, .ref CY, b, rfl, fun u r => by cases r; rfl, hk b e1, LQ.tr b1 (LQ.now b1.rm (.bl b) h2)⟩
theorem LE.isEB {Y : Str} {Ys : String} {k : Option Bool} {D a : Addr} {oe : Obj} {pn : List (Addr × Obj)} {e : Expr} {te : PTE} {p py pos : Pos} (C : ExcC X.K D) (hz : Zc (.ref D) none oe) (hfl : ∃ vs, oe.data = .fields vs) (hg : Gl X "isinstance") (hm : X.mg "isinstance" = none) (hgY : Gl X Y) (hmY : X.mg Y = none) (hvY : bootBuiltins Y = some (.type Ys))
    (hk : ∀ b, k = some b → PySem.W.kitOne X.K (.ref D) (.type Ys) = some b) (ha : LE (X.suite a ((a, oe) :: pn)) e te) (hnY : Y ≠ "__name__" := by decide) (hdT : (Y == ("__debug__" : Str)) = false := by decide)
    (he : starEach [e, .Name Y py] X.env = (false, eval e X.env) :: starEach [.Name Y py] X.env := by rfl) (he2 : starEach [.Name Y py] X.env = (false, eval (.Name Y py) X.env) :: starEach [] X.env := by rfl)
    (hpl : (backTo pos (starEach [.Name Y py] X.env)).any (·.1) = false := by rfl) : LE (X.suite a ((a, oe) :: pn)) (.Call (.Name "isinstance" p) [e, .Name Y py] [] pos) (fun E σ M Q => te E σ M fun x M1 => kIsE a k x M1 Q) := by
  refine ⟨fun σv H σ F M Q E tk rm rs h => WE.of (pe_callB (call_isE C hz hfl) hg hm (by decide +kernel) (pa_cons WE.pe (pa_cons (pe_bltn (v := .ty Ys) hgY hmY hvY rfl hnY hdT) pa_nil he2) he) (he := he) (hpl := hpl)) ?_⟩
  refine (ha.run σv H σ F M _ E tk rm rs h).mono ?_
  rintro v H1 ⟨F1, M1, x, b1, rx, rfl, hx⟩
  obtain ⟨b, e1, h2⟩ := need_of hx
  cases rx
  exact ⟨.ty Ys, .type Ys, b, rfl, fun u r => by cases r; rfl, hk b e1, LQ.tr b1 (LQ.now b1.rm (.bl b) h2)⟩
/-! ### is True, is False -/
def oIsB : PO2 := fun x y M Q => match x, y with
  | .bl a, .bl b => Q (.bl (decide (a = b))) M
  | _, _ => False
def oNotB : PO2 := fun x y M Q => match x, y with
  | .bl a, .bl b => Q (.bl (!decide (a = b))) M
  | _, _ => False
theorem pop_isB {K : PySem.W.Frag} : POp K rIsB oIsB := by
  intro F M H x y xv yv Q Qv rm rx ry h k
  cases rx <;> cases ry <;> first
    | exact h.elim
    | exact ⟨_, _, rfl, rfl, k _ _ (LQ.now rm (.bl _) h)⟩
theorem pop_notB {K : PySem.W.Frag} : POp K rNotB oNotB := by
  intro F M H x y xv yv Q Qv rm rx ry h k
  cases rx <;> cases ry <;> first
    | exact h.elim
    | exact ⟨_, _, rfl, rfl, k _ _ (LQ.now rm (.bl _) h)⟩
theorem LE.isB {a b : Expr} {ta tb : PTE} {pos : Pos} (ha : LE X a ta) (hb : LE X b tb) : LE X (.Compare a [.Is] [b] pos) (pBin oIsB ta tb) := LE.cmp op_isBl pop_isB (nomark _) ha hb
theorem LE.notB {a b : Expr} {ta tb : PTE} {pos : Pos} (ha : LE X a ta) (hb : LE X b tb) : LE X (.Compare a [.IsNot] [b] pos) (pBin oNotB ta tb) := LE.cmp op_notBl pop_notB (nomark _) ha hb
theorem LT.isB {a b : Expr} {ta tb : PTE} {pos : Pos} (ha : LE X a ta) (hb : LE X b tb) : LT X (.Compare a [.Is] [b] pos) (pTest (pBin oIsB ta tb)) := LT.cmp op_isBl pop_isB (nomark _) ha hb
theorem LT.notB {a b : Expr} {ta tb : PTE} {pos : Pos} (ha : LE X a ta) (hb : LE X b tb) : LT X (.Compare a [.IsNot] [b] pos) (pTest (pBin oNotB ta tb)) := LT.cmp op_notBl pop_notB (nomark _) ha hb
theorem r_isB {a b : Bool} {M : Mem} {Q : PQ} : oIsB (.bl a) (.bl b) M Q = Q (.bl (decide (a = b))) M := rfl
theorem r_notB {a b : Bool} {M : Mem} {Q : PQ} : oNotB (.bl a) (.bl b) M Q = Q (.bl (!decide (a = b))) M := rfl
end
end PL
set_option Elab.async false
set_option linter.all false
set_option maxRecDepth 100000
/-! the head of a reading, step by step (made by tools/genw.py) -/
namespace PL
open PySem PySem.Spec PyProof.Rows L2
theorem w_C {x : PV} {E : PXK} {σ : PSt} {M : Mem} {Q : PQ} (h : Q x M) : pC x E σ M Q := h
theorem w_var {i : Nat} {x : PV} {E : PXK} {σ : PSt} {M : Mem} {Q : PQ} (e : σ[i]? = some (some x)) (h : Q x M) : pVar i E σ M Q := by unfold pVar; rw [e]; exact h
theorem w_nil {E : PXK} {σ : PSt} {M : Mem} {Q : List PV → Mem → Prop} (h : Q [] M) : pNil E σ M Q := h
theorem w_cons {ta : PTE} {tr : PTA} {E : PXK} {σ : PSt} {M : Mem} {Q : List PV → Mem → Prop} (h : ta E σ M fun x M1 => tr E σ M1 fun xs M2 => Q (x :: xs) M2) : pCons ta tr E σ M Q := h
theorem w_bin {o : PO2} {ta tb : PTE} {E : PXK} {σ : PSt} {M : Mem} {Q : PQ} (h : ta E σ M fun x M1 => tb E σ M1 fun y M2 => o x y M2 Q) : pBin o ta tb E σ M Q := h
theorem w_test {t : PTE} {E : PXK} {σ : PSt} {M : Mem} {Q : Bool → Mem → Prop} (h : t E σ M fun x M1 => kB x fun b => Q b M1) : pTest t E σ M Q := h
theorem w_kB {b : Bool} {k : Bool → Prop} (h : k b) : kB (.bl b) k := h
theorem w_call {sp : PSp} {t : PTA} {E : PXK} {σ : PSt} {M : Mem} {Q : PQ} (h : t E σ M fun xs M1 => sp xs M1 Q E) : pCall sp t E σ M Q := h
theorem w_callB {o : POn} {t : PTA} {E : PXK} {σ : PSt} {M : Mem} {Q : PQ} (h : t E σ M fun xs M1 => o xs M1 Q) : pCallB o t E σ M Q := h
theorem w_on1 {k : PV → Mem → PQ → Prop} {x : PV} {M : Mem} {Q : PQ} (h : k x M Q) : on1 k [x] M Q := h
theorem w_on2 {k : PV → PV → Mem → PQ → Prop} {x y : PV} {M : Mem} {Q : PQ} (h : k x y M Q) : on2 k [x, y] M Q := h
theorem w_tup {t : PTA} {E : PXK} {σ : PSt} {M : Mem} {Q : PQ} (h : t E σ M fun xs M1 => Q (.tup xs) M1) : pTup t E σ M Q := h
theorem w_lst {t : PTA} {E : PXK} {σ : PSt} {M : Mem} {Q : PQ} (h : t E σ M fun xs M1 => Q (.lst xs) M1) : pLst t E σ M Q := h
theorem w_lstM {t : PTA} {E : PXK} {σ : PSt} {M : Mem} {Q : PQ} (h : t E σ M fun xs M1 => ∀ p, M1 p = none → Q (.ptr p) (M1.put p (.lst xs))) : pLstM t E σ M Q := h
theorem w_seq {t u : PTS} {dn db dc : PNx} {dr : PQ} {de : PXK} {σ : PSt} {M : Mem} (h : t (PEnds.mk (u (PEnds.mk dn dr de db dc)) dr de db dc) σ M) : pSeq t u (PEnds.mk dn dr de db dc) σ M := h
theorem w_pset {i : Nat} {te : PTE} {f : PV → PSt} {dn db dc : PNx} {dr : PQ} {de : PXK} {σ : PSt} {M : Mem} (e : ∀ x, σ.set i (some x) = f x) (h : te de σ M fun x M1 => dn (f x) M1) : pSet i te (PEnds.mk dn dr de db dc) σ M := by unfold pSet; simp only [e]; exact h
theorem w_next {dn db dc : PNx} {dr : PQ} {de : PXK} {σ : PSt} {M : Mem} (h : dn σ M) : pNext (PEnds.mk dn dr de db dc) σ M := h
theorem w_ret {te : PTE} {dn db dc : PNx} {dr : PQ} {de : PXK} {σ : PSt} {M : Mem} (h : te de σ M dr) : pRet te (PEnds.mk dn dr de db dc) σ M := h
theorem w_retN {dn db dc : PNx} {dr : PQ} {de : PXK} {σ : PSt} {M : Mem} (h : dr .non M) : pRetN (PEnds.mk dn dr de db dc) σ M := h
theorem w_ifs {c : PTT} {t u : PTS} {dn db dc : PNx} {dr : PQ} {de : PXK} {σ : PSt} {M : Mem} (h : c de σ M fun b M1 => if b = true then t (PEnds.mk dn dr de db dc) σ M1 else u (PEnds.mk dn dr de db dc) σ M1) : pIfS c t u (PEnds.mk dn dr de db dc) σ M := h
theorem w_dnx {a c d : PNx} {b : PQ} {x : PXK} {σ : PSt} {M : Mem} {Q : PQ} {v : PV} (h : a σ M) : (PEnds.mk a b x c d).nx σ M := h
theorem w_drt {a c d : PNx} {b : PQ} {x : PXK} {σ : PSt} {M : Mem} {Q : PQ} {v : PV} (h : b v M) : (PEnds.mk a b x c d).rt v M := h
theorem w_dbk {a c d : PNx} {b : PQ} {x : PXK} {σ : PSt} {M : Mem} {Q : PQ} {v : PV} (h : c σ M) : (PEnds.mk a b x c d).bk σ M := h
theorem w_dct {a c d : PNx} {b : PQ} {x : PXK} {σ : PSt} {M : Mem} {Q : PQ} {v : PV} (h : d σ M) : (PEnds.mk a b x c d).ct σ M := h
theorem w_ifT {A B : Prop} (h : A) : if true = true then A else B := by rw [if_pos rfl]; exact h
theorem w_ifF {A B : Prop} (h : B) : if false = true then A else B := by rw [if_neg Bool.false_ne_true]; exact h
theorem w_ifd {P A B : Prop} {i : Decidable P} (h : if P then A else B) : if decide P = true then A else B := by
  by_cases p : P
  · rw [if_pos p] at h; rw [if_pos (decide_eq_true p)]; exact h
  · rw [if_neg p] at h; rw [if_neg (by rw [decide_eq_false p]; exact Bool.false_ne_true)]; exact h
theorem w_ifn {b : Bool} {A B : Prop} (h : if b = true then B else A) : if (!b) = true then A else B := by cases b <;> exact h
theorem w_drop {te : PTE} {dn db dc : PNx} {dr : PQ} {de : PXK} {σ : PSt} {M : Mem} (h : te de σ M fun _ M1 => dn σ M1) : pDrop te (PEnds.mk dn dr de db dc) σ M := h
theorem w_asg {te : PTE} {g : PTG} {dn db dc : PNx} {dr : PQ} {de : PXK} {σ : PSt} {M : Mem} (h : te de σ M fun x M1 => g x σ M1 dn) : pAsg te g (PEnds.mk dn dr de db dc) σ M := h
theorem w_gname {i : Nat} {x : PV} {σ σ1 : PSt} {M : Mem} {R : PNx} (e : σ.set i (some x) = σ1) (h : R σ1 M) : gpName i x σ M R := by unfold gpName; rw [e]; exact h
theorem w_gtup {n : Nat} {u : PTGs} {xs : List PV} {σ : PSt} {M : Mem} {R : PNx} (e : xs.length = n) (h : u xs σ M R) : gpTup n u (.tup xs) σ M R := ⟨e, h⟩
theorem w_gcons {t : PTG} {u : PTGs} {x : PV} {r : List PV} {σ : PSt} {M : Mem} {R : PNx} (h : t x σ M fun σ' M' => u r σ' M' R) : gpCons t u (x :: r) σ M R := h
theorem w_gnil {σ : PSt} {M : Mem} {R : PNx} (h : R σ M) : gpNil [] σ M R := h
theorem w_gsub {to ti : PTE} {x : PV} {σ : PSt} {M : Mem} {R : PNx} (h : to noX σ M fun o M1 => ti noX σ M1 fun i M2 => kSet o i x M2 fun M3 => R σ M3) : gpSub to ti x σ M R := h
theorem w_I0 {g : Int → Int → PV} {i j : Int} {M : Mem} {Q : PQ} (h : Q (g i j) M) : oI0 g (.int i) (.int j) M Q := h
theorem w_mod {i j : Int} {M : Mem} {Q : PQ} (c : 0 < j) (h : Q (.int (i % j)) M) : oMod (.int i) (.int j) M Q := ⟨c, h⟩
theorem w_div {i j : Int} {M : Mem} {Q : PQ} (c : 0 < j ∧ j < 1073741824) (h : Q (.int (i / j)) M) : oDiv (.int i) (.int j) M Q := ⟨c, h⟩
theorem w_I {C : Int → Int → Prop} {g : Int → Int → PV} {i j : Int} {M : Mem} {Q : PQ} (c : C i j) (h : Q (g i j) M) : oI C g (.int i) (.int j) M Q := ⟨c, h⟩
theorem w_add {i j : Int} {M : Mem} {Q : PQ} (h : Q (.int (i + j)) M) : oAdd (.int i) (.int j) M Q := h
theorem w_addT {i j : List PV} {M : Mem} {Q : PQ} (c : i.length + j.length ≤ sizeLine) (h : Q (.tup (i ++ j)) M) : oAdd (.tup i) (.tup j) M Q := ⟨c, h⟩
theorem w_addL {i j : List PV} {M : Mem} {Q : PQ} (c : i.length + j.length ≤ sizeLine) (h : Q (.lst (i ++ j)) M) : oAdd (.lst i) (.lst j) M Q := ⟨c, h⟩
theorem w_neg {ta : PTE} {E : PXK} {σ : PSt} {M : Mem} {Q : PQ} (h : ta E σ M fun x M1 => kNeg x M1 Q) : pNeg ta E σ M Q := h
theorem w_negI {i : Int} {M : Mem} {Q : PQ} (h : Q (.int (-i)) M) : kNeg (.int i) M Q := h
theorem w_eqInt {i j : Int} {M : Mem} {Q : PQ} (h : Q (.bl (decide (i = j))) M) : oEq (.int i) (.int j) M Q := by rw [eq_int']; exact h
theorem w_neInt {i j : Int} {M : Mem} {Q : PQ} (h : Q (.bl (!decide (i = j))) M) : oNe (.int i) (.int j) M Q := by rw [ne_int']; exact h
theorem w_eqBl {i j : Bool} {M : Mem} {Q : PQ} (h : Q (.bl (decide (i = j))) M) : oEq (.bl i) (.bl j) M Q := by rw [eq_bl']; exact h
theorem w_neBl {i j : Bool} {M : Mem} {Q : PQ} (h : Q (.bl (!decide (i = j))) M) : oNe (.bl i) (.bl j) M Q := by rw [ne_bl']; exact h
theorem w_eqStr {i j : Str} {M : Mem} {Q : PQ} (h : Q (.bl (decide (i = j))) M) : oEq (.str i) (.str j) M Q := by rw [eq_str']; exact h
theorem w_neStr {i j : Str} {M : Mem} {Q : PQ} (h : Q (.bl (!decide (i = j))) M) : oNe (.str i) (.str j) M Q := by rw [ne_str']; exact h
theorem w_ixtup0 {a0 : PV} {l : List PV} {M : Mem} {Q : PQ} (h : Q a0 M) : oIx (.tup (a0 :: l)) (.int 0) M Q := by rw [PL.ix_tup, at_0]; exact h
theorem w_ixlst0 {a0 : PV} {l : List PV} {M : Mem} {Q : PQ} (h : Q a0 M) : oIx (.lst (a0 :: l)) (.int 0) M Q := by rw [PL.ix_lst, at_0]; exact h
theorem w_ixtup1 {a0 a1 : PV} {l : List PV} {M : Mem} {Q : PQ} (h : Q a1 M) : oIx (.tup (a0 :: a1 :: l)) (.int 1) M Q := by rw [PL.ix_tup, at_1]; exact h
theorem w_ixlst1 {a0 a1 : PV} {l : List PV} {M : Mem} {Q : PQ} (h : Q a1 M) : oIx (.lst (a0 :: a1 :: l)) (.int 1) M Q := by rw [PL.ix_lst, at_1]; exact h
theorem w_ixtup2 {a0 a1 a2 : PV} {l : List PV} {M : Mem} {Q : PQ} (h : Q a2 M) : oIx (.tup (a0 :: a1 :: a2 :: l)) (.int 2) M Q := by rw [PL.ix_tup, at_2]; exact h
theorem w_ixlst2 {a0 a1 a2 : PV} {l : List PV} {M : Mem} {Q : PQ} (h : Q a2 M) : oIx (.lst (a0 :: a1 :: a2 :: l)) (.int 2) M Q := by rw [PL.ix_lst, at_2]; exact h
theorem w_ixtup3 {a0 a1 a2 a3 : PV} {l : List PV} {M : Mem} {Q : PQ} (h : Q a3 M) : oIx (.tup (a0 :: a1 :: a2 :: a3 :: l)) (.int 3) M Q := by rw [PL.ix_tup, at_3]; exact h
theorem w_ixlst3 {a0 a1 a2 a3 : PV} {l : List PV} {M : Mem} {Q : PQ} (h : Q a3 M) : oIx (.lst (a0 :: a1 :: a2 :: a3 :: l)) (.int 3) M Q := by rw [PL.ix_lst, at_3]; exact h
theorem w_ixtup4 {a0 a1 a2 a3 a4 : PV} {l : List PV} {M : Mem} {Q : PQ} (h : Q a4 M) : oIx (.tup (a0 :: a1 :: a2 :: a3 :: a4 :: l)) (.int 4) M Q := by rw [PL.ix_tup, at_4]; exact h
theorem w_ixlst4 {a0 a1 a2 a3 a4 : PV} {l : List PV} {M : Mem} {Q : PQ} (h : Q a4 M) : oIx (.lst (a0 :: a1 :: a2 :: a3 :: a4 :: l)) (.int 4) M Q := by rw [PL.ix_lst, at_4]; exact h
theorem w_ixtup5 {a0 a1 a2 a3 a4 a5 : PV} {l : List PV} {M : Mem} {Q : PQ} (h : Q a5 M) : oIx (.tup (a0 :: a1 :: a2 :: a3 :: a4 :: a5 :: l)) (.int 5) M Q := by rw [PL.ix_tup, at_5]; exact h
theorem w_ixlst5 {a0 a1 a2 a3 a4 a5 : PV} {l : List PV} {M : Mem} {Q : PQ} (h : Q a5 M) : oIx (.lst (a0 :: a1 :: a2 :: a3 :: a4 :: a5 :: l)) (.int 5) M Q := by rw [PL.ix_lst, at_5]; exact h
theorem w_ixT {xs : List PV} {i : Int} {x : PV} {M : Mem} {Q : PQ} (e : L2.atI xs i = some x) (h : Q x M) : oIx (.tup xs) (.int i) M Q := by rw [PL.ix_tup, e]; exact h
theorem w_ixL {xs : List PV} {i : Int} {x : PV} {M : Mem} {Q : PQ} (e : L2.atI xs i = some x) (h : Q x M) : oIx (.lst xs) (.int i) M Q := by rw [PL.ix_lst, e]; exact h
theorem w_ixS {xs : List PV} {i : Int} {x : PV} {M : Mem} {Q : PQ} (e : L2.atI xs i = some x) (h : Q x M) : oIx (.scr xs) (.int i) M Q := by rw [ix_scr, e]; exact h
theorem w_ixP {a : Addr} {xs : List PV} {i : Int} {x : PV} {M : Mem} {Q : PQ} (m : M a = some (.lst xs)) (e : L2.atI xs i = some x) (h : Q x M) : oIx (.ptr a) (.int i) M Q := by rw [ix_ptr m, e]; exact h
theorem w_need {α : Type} {a : α} {k : α → Prop} (h : k a) : need (some a) k := h
theorem w_lentup {xs : List PV} {M : Mem} {Q : PQ} (h : Q (.int xs.length) M) : kLen (.tup xs) M Q := h
theorem w_lenlst {xs : List PV} {M : Mem} {Q : PQ} (h : Q (.int xs.length) M) : kLen (.lst xs) M Q := h
theorem w_lenscr {xs : List PV} {M : Mem} {Q : PQ} (h : Q (.int xs.length) M) : kLen (.scr xs) M Q := h
theorem w_lenP {a : Addr} {xs : List PV} {M : Mem} {Q : PQ} (m : M a = some (.lst xs)) (h : Q (.int xs.length) M) : kLen (.ptr a) M Q := by rw [len_ptr m]; exact h
theorem w_sl {ta : PTE} {tl th : PTO} {E : PXK} {σ : PSt} {M : Mem} {Q : PQ} (h : ta E σ M fun x M1 => tl E σ M1 fun l M2 => th E σ M2 fun u M3 => oSl x l u M3 Q) : pSl ta tl th E σ M Q := h
theorem w_nop {E : PXK} {σ : PSt} {M : Mem} {Q : Option Int → Mem → Prop} (h : Q none M) : pNoPart E σ M Q := h
theorem w_part {t : PTE} {E : PXK} {σ : PSt} {M : Mem} {Q : Option Int → Mem → Prop} (h : t E σ M fun x M1 => kPartI x fun o => Q o M1) : pPart t E σ M Q := h
theorem w_partI {i : Int} {k : Option Int → Prop} (h : k (some i)) : kPartI (.int i) k := h
theorem w_slT {xs : List PV} {lo hi : Option Int} {M : Mem} {Q : PQ} (h : Q (.tup (cutA xs lo hi)) M) : oSl (.tup xs) lo hi M Q := h
theorem w_slL {xs : List PV} {lo hi : Option Int} {M : Mem} {Q : PQ} (h : Q (.lst (cutA xs lo hi)) M) : oSl (.lst xs) lo hi M Q := h
theorem w_slS {xs : List PV} {lo hi : Option Int} {M : Mem} {Q : PQ} (h : Q (.lst (cutA xs lo hi)) M) : oSl (.scr xs) lo hi M Q := h
theorem w_slP {a : Addr} {xs : List PV} {lo hi : Option Int} {M : Mem} {Q : PQ} (m : M a = some (.lst xs)) (h : Q (.lst (cutA xs lo hi)) M) : oSl (.ptr a) lo hi M Q := by rw [sl_ptr m]; exact h
theorem w_abs {i : Int} {M : Mem} {Q : PQ} (h : Q (.int (if i < 0 then -i else i)) M) : kAbs (.int i) M Q := h
theorem w_int {i : Int} {M : Mem} {Q : PQ} (h : Q (.int i) M) : kInt (.int i) M Q := h
theorem w_listL {xs : List PV} {M : Mem} {Q : PQ} (h : Q (.lst xs) M) : kList (.lst xs) M Q := h
theorem w_listT {xs : List PV} {M : Mem} {Q : PQ} (h : Q (.lst xs) M) : kList (.tup xs) M Q := h
theorem w_listS {xs : List PV} {M : Mem} {Q : PQ} (h : Q (.lst xs) M) : kList (.scr xs) M Q := h
theorem w_listP {a : Addr} {xs : List PV} {M : Mem} {Q : PQ} (m : M a = some (.lst xs)) (h : Q (.lst xs) M) : kList (.ptr a) M Q := by rw [list_of (lstOf_ptr m)]; exact h
theorem w_tupL {xs : List PV} {M : Mem} {Q : PQ} (h : Q (.tup xs) M) : PL.kTup (.lst xs) M Q := h
theorem w_tupT {xs : List PV} {M : Mem} {Q : PQ} (h : Q (.tup xs) M) : PL.kTup (.tup xs) M Q := h
theorem w_tupP {a : Addr} {xs : List PV} {M : Mem} {Q : PQ} (m : M a = some (.lst xs)) (h : Q (.tup xs) M) : PL.kTup (.ptr a) M Q := by rw [tupOf_of (seqOf_ptr m)]; exact h
theorem w_listML {xs : List PV} {M : Mem} {Q : PQ} (h : ∀ p, M p = none → Q (.ptr p) (M.put p (.lst xs))) : kListM (.lst xs) M Q := h
theorem w_listMT {xs : List PV} {M : Mem} {Q : PQ} (h : ∀ p, M p = none → Q (.ptr p) (M.put p (.lst xs))) : kListM (.tup xs) M Q := h
theorem w_and {t u : PTT} {E : PXK} {σ : PSt} {M : Mem} {Q : Bool → Mem → Prop} (h : t E σ M fun c M1 => if c = true then u E σ M1 Q else Q false M1) : pAnd t u E σ M Q := h
theorem w_or {t u : PTT} {E : PXK} {σ : PSt} {M : Mem} {Q : Bool → Mem → Prop} (h : t E σ M fun c M1 => if c = true then Q true M1 else u E σ M1 Q) : pOr t u E σ M Q := h
theorem w_not {t : PTT} {E : PXK} {σ : PSt} {M : Mem} {Q : Bool → Mem → Prop} (h : t E σ M fun c M1 => Q (!c) M1) : pNot t E σ M Q := h
theorem w_andV {ta tb : PTE} {E : PXK} {σ : PSt} {M : Mem} {Q : PQ} (h : ta E σ M fun x M1 => kB x fun c => if c = true then tb E σ M1 Q else Q (.bl false) M1) : pAndV ta tb E σ M Q := h
theorem w_orV {ta tb : PTE} {E : PXK} {σ : PSt} {M : Mem} {Q : PQ} (h : ta E σ M fun x M1 => kB x fun c => if c = true then Q (.bl true) M1 else tb E σ M1 Q) : pOrV ta tb E σ M Q := h
theorem w_notV {ta : PTE} {E : PXK} {σ : PSt} {M : Mem} {Q : PQ} (h : ta E σ M fun x M1 => kB x fun c => Q (.bl (!c)) M1) : pNotV ta E σ M Q := h
theorem w_if {t : PTT} {ta tb : PTE} {E : PXK} {σ : PSt} {M : Mem} {Q : PQ} (h : t E σ M fun c M1 => if c = true then ta E σ M1 Q else tb E σ M1 Q) : pIf t ta tb E σ M Q := h
theorem w_isN {ta : PTE} {E : PXK} {σ : PSt} {M : Mem} {Q : PQ} (h : ta E σ M fun x M1 => Q (.bl (isNon x)) M1) : pIsN ta E σ M Q := h
theorem w_notN {ta : PTE} {E : PXK} {σ : PSt} {M : Mem} {Q : PQ} (h : ta E σ M fun x M1 => Q (.bl (!isNon x)) M1) : pNotN ta E σ M Q := h
theorem w_tisN {ta : PTE} {E : PXK} {σ : PSt} {M : Mem} {Q : Bool → Mem → Prop} (h : ta E σ M fun x M1 => Q (isNon x) M1) : pTIsN ta E σ M Q := h
theorem w_tnotN {ta : PTE} {E : PXK} {σ : PSt} {M : Mem} {Q : Bool → Mem → Prop} (h : ta E σ M fun x M1 => Q (!isNon x) M1) : pTNotN ta E σ M Q := h
theorem w_in_non  {A B : Prop} (h : A) : if isNon .non = true then A else B := by simpa [isNon] using h
theorem w_in_int {i : Int} {A B : Prop} (h : B) : if isNon (.int i) = true then A else B := by simpa [isNon] using h
theorem w_in_tup {l : List PV} {A B : Prop} (h : B) : if isNon (.tup l) = true then A else B := by simpa [isNon] using h
theorem w_in_lst {l : List PV} {A B : Prop} (h : B) : if isNon (.lst l) = true then A else B := by simpa [isNon] using h
theorem w_in_ptr {a : Addr} {A B : Prop} (h : B) : if isNon (.ptr a) = true then A else B := by simpa [isNon] using h
theorem w_in_str {s : Str} {A B : Prop} (h : B) : if isNon (.str s) = true then A else B := by simpa [isNon] using h
theorem w_in_bl {c : Bool} {A B : Prop} (h : B) : if isNon (.bl c) = true then A else B := by simpa [isNon] using h
theorem w_isB {a b : Bool} {M : Mem} {Q : PQ} (h : Q (.bl (decide (a = b))) M) : oIsB (.bl a) (.bl b) M Q := h
theorem w_notB {a b : Bool} {M : Mem} {Q : PQ} (h : Q (.bl (!decide (a = b))) M) : oNotB (.bl a) (.bl b) M Q := h
theorem w_for {wi : PTI} {g : PTG} {tb : PTS} {dn db dc : PNx} {dr : PQ} {de : PXK} {σ : PSt} {M : Mem} (h : wi de σ M fun xs M1 => pForL g tb xs (PEnds.mk dn dr de db dc) σ M1) : pFor wi g tb (PEnds.mk dn dr de db dc) σ M := h
theorem w_iL {te : PTE} {E : PXK} {σ : PSt} {M : Mem} {Q : List PV → Mem → Prop} (h : te E σ M fun x M1 => need (lstF x) fun xs => Q xs M1) : piL te E σ M Q := h
theorem w_iT {te : PTE} {E : PXK} {σ : PSt} {M : Mem} {Q : List PV → Mem → Prop} (h : te E σ M fun x M1 => need (tupF x) fun xs => Q xs M1) : piT te E σ M Q := h
theorem w_lstF {xs : List PV} {k : List PV → Prop} (h : k xs) : need (lstF (.lst xs)) k := h
theorem w_lstFs {xs : List PV} {k : List PV → Prop} (h : k xs) : need (lstF (.scr xs)) k := h
theorem w_tupF {xs : List PV} {k : List PV → Prop} (h : k xs) : need (tupF (.tup xs)) k := h
theorem w_R1 {te : PTE} {E : PXK} {σ : PSt} {M : Mem} {Q : List PV → Mem → Prop} (h : te E σ M fun x M1 => kR1 x M1 Q) : piR1 te E σ M Q := h
theorem w_R1I {j : Int} {M : Mem} {R : List PV → Mem → Prop} (c : -(2 ^ 62) ≤ j ∧ j < 2 ^ 62) (h : R (rngP 0 j.toNat) M) : kR1 (.int j) M R := ⟨c, h⟩
theorem w_R2 {ta tb : PTE} {E : PXK} {σ : PSt} {M : Mem} {Q : List PV → Mem → Prop} (h : ta E σ M fun x M1 => tb E σ M1 fun y M2 => kR2 x y M2 Q) : piR2 ta tb E σ M Q := h
theorem w_forM {te : PTE} {g : PTG} {tb : PTS} {dn db dc : PNx} {dr : PQ} {de : PXK} {σ : PSt} {M : Mem} (h : te de σ M fun x M1 => need (lstOf M1 x) fun xs => pForG (fun M => lstOf M x = some xs) g tb xs (PEnds.mk dn dr de db dc) σ M1) : pForM te g tb (PEnds.mk dn dr de db dc) σ M := h
theorem w_brk {dn db dc : PNx} {dr : PQ} {de : PXK} {σ : PSt} {M : Mem} (h : db σ M) : pBreak (PEnds.mk dn dr de db dc) σ M := h
theorem w_cnt {dn db dc : PNx} {dr : PQ} {de : PXK} {σ : PSt} {M : Mem} (h : dc σ M) : pCont (PEnds.mk dn dr de db dc) σ M := h
theorem w_lc {wi : PTI} {i : Nat} {tt : PTT} {te : PTE} {E : PXK} {σ : PSt} {M : Mem} {Q : PQ} (h : wi E σ M fun xs M1 => xs.length ≤ sizeLine ∧ pLcL i tt te xs [] σ M1 Q) : pLc wi i tt te E σ M Q := h
theorem w_lcnil {i : Nat} {tt : PTT} {te : PTE} {acc : List PV} {σ : PSt} {M : Mem} {Q : PQ} (h : Q (.lst acc) M) : pLcL i tt te [] acc σ M Q := h
theorem w_lccons {i : Nat} {te : PTE} {x : PV} {xs acc : List PV} {σ : PSt} {M : Mem} {Q : PQ} (h : te noX (σ.set i (some x)) M fun y M2 => pLcL i pYes te xs (acc ++ [y]) σ M2 Q) : pLcL i pYes te (x :: xs) acc σ M Q := h
theorem w_fld {C : Addr} {ta : PTE} {f : Str} {E : PXK} {σ : PSt} {M : Mem} {Q : PQ} (h : ta E σ M fun x M1 => need (fldOf M1 C f x) fun v => Q v M1) : pFld C ta f E σ M Q := h
theorem w_fldO {C : Addr} {f : Str} {fs : List (Str × PV)} {v : PV} {M : Mem} {k : PV → Prop} (e : fs.lookup f = some v) (h : k v) : need (fldOf M C f (.obj C fs)) k := by
  have e2 : fldOf M C f (.obj C fs) = some v := (if_pos rfl).trans e
  rw [e2]; exact h
theorem w_meth {C : Addr} {m : Str} {sp : PSp} {ta : PTE} {t : PTA} {E : PXK} {σ : PSt} {M : Mem} {Q : PQ} (h : ta E σ M fun x M1 => need (objOf M1 C x) fun fs => fs.lookup m = none ∧ t E σ M1 fun xs M2 => sp (x :: xs) M2 Q E) : pMeth C m sp ta t E σ M Q := h
theorem w_objO {C : Addr} {m : Str} {fs : List (Str × PV)} {M : Mem} {A : Prop} (e : fs.lookup m = none) (h : A) : need (objOf M C (.obj C fs)) fun fs => fs.lookup m = none ∧ A := by
  have e2 : objOf M C (.obj C fs) = some fs := if_pos rfl
  rw [e2]; exact ⟨e, h⟩
theorem w_make {C : Addr} {sp : PSp} {t : PTA} {E : PXK} {σ : PSt} {M : Mem} {Q : PQ} (h : t E σ M fun xs M1 => ∀ p, M1 p = none → sp (.ptr p :: xs) (M1.put p (.obj C [])) (fun r M2 => isNon r = true ∧ match M2 p with | some (.obj C' fs) => C' = C ∧ Q (.obj C fs) (M2.drop p) | _ => False) E) : pMake C sp t E σ M Q := h
theorem w_fldS {C : Addr} {f : Str} {to tv : PTE} {dn db dc : PNx} {dr : PQ} {de : PXK} {σ : PSt} {M : Mem} (h : tv de σ M fun x M1 => to de σ M1 fun o M2 => kPutF C f x o M2 fun M3 => dn σ M3) : pFldS C f to tv (PEnds.mk dn dr de db dc) σ M := h
theorem w_app {to te : PTE} {E : PXK} {σ : PSt} {M : Mem} {Q : PQ} (h : to E σ M fun o M1 => lstOf M1 o ≠ none ∧ te E σ M1 fun x M2 => kApp o x M2 Q) : pApp to te E σ M Q := h
theorem w_retF {te : PTE} {dn db dc : PNx} {dr : PQ} {de : PXK} {σ : PSt} {M : Mem} (h : te de σ M fun x M1 => kFz x M1 dr) : pRetF te (PEnds.mk dn dr de db dc) σ M := h
theorem w_retD {js : List Nat} {te : PTE} {dn db dc : PNx} {dr : PQ} {de : PXK} {σ : PSt} {M : Mem} (h : te de σ M fun x M1 => dr x (dropSlots σ js M1)) : pRetD js te (PEnds.mk dn dr de db dc) σ M := h
theorem w_retFD {js : List Nat} {te : PTE} {dn db dc : PNx} {dr : PQ} {de : PXK} {σ : PSt} {M : Mem} (h : te de σ M fun x M1 => kFz x M1 fun y M2 => dr y (dropSlots σ js M2)) : pRetFD js te (PEnds.mk dn dr de db dc) σ M := h
theorem w_raise {C : Addr} {dn db dc : PNx} {dr : PQ} {de : PXK} {σ : PSt} {M : Mem} (h : de C [] M) : pRaise C (PEnds.mk dn dr de db dc) σ M := h
theorem w_aug {i : Nat} {o : PO2} {te : PTE} {x : PV} {f : PV → PSt} {dn db dc : PNx} {dr : PQ} {de : PXK} {σ : PSt} {M : Mem} (e : σ[i]? = some (some x)) (g : ∀ x, σ.set i (some x) = f x) (h : te de σ M fun y M1 => o x y M1 fun z M2 => dn (f z) M2) : pAug i o te (PEnds.mk dn dr de db dc) σ M := by unfold pAug; rw [e]; simp only [g]; exact h
theorem w_try {n i : Nat} {exm : Addr → Option Bool} {tb : PTS} {ts : Addr → Addr → PTS} {dn db dc : PNx} {dr : PQ} {de : PXK} {σ : PSt} {M : Mem} (h : tb (PEnds.mk dn dr (fun C fs M' => need (exm C) fun b => (b = true → fs = [] ∧ ∀ a, M' a = none → ts C a { nx := fun σ' M'' => dn (σ'.set i none) M'', rt := dr, ex := noX, bk := fun σ' M'' => db (σ'.set i none) M'', ct := fun σ' M'' => dc (σ'.set i none) M'' } ((List.replicate n none).set i (some (.ptr a))) M') ∧ (b = false → de C fs M') ) db dc) σ M) : pTryAs n i exm tb ts (PEnds.mk dn dr de db dc) σ M := h
theorem w_isi_i {i : Int} {T : String} {b : Bool} {M : Mem} {Q : PQ} (e : kitB "int" T = some b) (h : Q (.bl b) M) : kIsi T (.int i) M Q := need_by e h
theorem w_isi_b {c : Bool} {T : String} {b : Bool} {M : Mem} {Q : PQ} (e : kitB "bool" T = some b) (h : Q (.bl b) M) : kIsi T (.bl c) M Q := need_by e h
theorem w_isi_t {l : List PV} {T : String} {b : Bool} {M : Mem} {Q : PQ} (e : kitB "tuple" T = some b) (h : Q (.bl b) M) : kIsi T (.tup l) M Q := need_by e h
theorem w_isi_l {l : List PV} {T : String} {b : Bool} {M : Mem} {Q : PQ} (e : kitB "list" T = some b) (h : Q (.bl b) M) : kIsi T (.lst l) M Q := need_by e h
theorem w_isi_s {s : Str} {T : String} {b : Bool} {M : Mem} {Q : PQ} (e : kitB "str" T = some b) (h : Q (.bl b) M) : kIsi T (.str s) M Q := need_by e h
theorem w_isi_n  {T : String} {b : Bool} {M : Mem} {Q : PQ} (e : kitB "NoneType" T = some b) (h : Q (.bl b) M) : kIsi T .non M Q := need_by e h
theorem set_h0 {α : Type} {a0 y : α} {l : List α} : (a0 :: l).set 0 y = y :: l := rfl
theorem set_h1 {α : Type} {a0 a1 y : α} {l : List α} : (a0 :: a1 :: l).set 1 y = a0 :: y :: l := rfl
theorem set_h2 {α : Type} {a0 a1 a2 y : α} {l : List α} : (a0 :: a1 :: a2 :: l).set 2 y = a0 :: a1 :: y :: l := rfl
theorem set_h3 {α : Type} {a0 a1 a2 a3 y : α} {l : List α} : (a0 :: a1 :: a2 :: a3 :: l).set 3 y = a0 :: a1 :: a2 :: y :: l := rfl
theorem set_h4 {α : Type} {a0 a1 a2 a3 a4 y : α} {l : List α} : (a0 :: a1 :: a2 :: a3 :: a4 :: l).set 4 y = a0 :: a1 :: a2 :: a3 :: y :: l := rfl
theorem set_h5 {α : Type} {a0 a1 a2 a3 a4 a5 y : α} {l : List α} : (a0 :: a1 :: a2 :: a3 :: a4 :: a5 :: l).set 5 y = a0 :: a1 :: a2 :: a3 :: a4 :: y :: l := rfl
theorem set_h6 {α : Type} {a0 a1 a2 a3 a4 a5 a6 y : α} {l : List α} : (a0 :: a1 :: a2 :: a3 :: a4 :: a5 :: a6 :: l).set 6 y = a0 :: a1 :: a2 :: a3 :: a4 :: a5 :: y :: l := rfl
theorem set_h7 {α : Type} {a0 a1 a2 a3 a4 a5 a6 a7 y : α} {l : List α} : (a0 :: a1 :: a2 :: a3 :: a4 :: a5 :: a6 :: a7 :: l).set 7 y = a0 :: a1 :: a2 :: a3 :: a4 :: a5 :: a6 :: y :: l := rfl
theorem set_h8 {α : Type} {a0 a1 a2 a3 a4 a5 a6 a7 a8 y : α} {l : List α} : (a0 :: a1 :: a2 :: a3 :: a4 :: a5 :: a6 :: a7 :: a8 :: l).set 8 y = a0 :: a1 :: a2 :: a3 :: a4 :: a5 :: a6 :: a7 :: y :: l := rfl
theorem set_h9 {α : Type} {a0 a1 a2 a3 a4 a5 a6 a7 a8 a9 y : α} {l : List α} : (a0 :: a1 :: a2 :: a3 :: a4 :: a5 :: a6 :: a7 :: a8 :: a9 :: l).set 9 y = a0 :: a1 :: a2 :: a3 :: a4 :: a5 :: a6 :: a7 :: a8 :: y :: l := rfl
theorem set_h10 {α : Type} {a0 a1 a2 a3 a4 a5 a6 a7 a8 a9 a10 y : α} {l : List α} : (a0 :: a1 :: a2 :: a3 :: a4 :: a5 :: a6 :: a7 :: a8 :: a9 :: a10 :: l).set 10 y = a0 :: a1 :: a2 :: a3 :: a4 :: a5 :: a6 :: a7 :: a8 :: a9 :: y :: l := rfl
theorem set_h11 {α : Type} {a0 a1 a2 a3 a4 a5 a6 a7 a8 a9 a10 a11 y : α} {l : List α} : (a0 :: a1 :: a2 :: a3 :: a4 :: a5 :: a6 :: a7 :: a8 :: a9 :: a10 :: a11 :: l).set 11 y = a0 :: a1 :: a2 :: a3 :: a4 :: a5 :: a6 :: a7 :: a8 :: a9 :: a10 :: y :: l := rfl
theorem set_h12 {α : Type} {a0 a1 a2 a3 a4 a5 a6 a7 a8 a9 a10 a11 a12 y : α} {l : List α} : (a0 :: a1 :: a2 :: a3 :: a4 :: a5 :: a6 :: a7 :: a8 :: a9 :: a10 :: a11 :: a12 :: l).set 12 y = a0 :: a1 :: a2 :: a3 :: a4 :: a5 :: a6 :: a7 :: a8 :: a9 :: a10 :: a11 :: y :: l := rfl
theorem set_h13 {α : Type} {a0 a1 a2 a3 a4 a5 a6 a7 a8 a9 a10 a11 a12 a13 y : α} {l : List α} : (a0 :: a1 :: a2 :: a3 :: a4 :: a5 :: a6 :: a7 :: a8 :: a9 :: a10 :: a11 :: a12 :: a13 :: l).set 13 y = a0 :: a1 :: a2 :: a3 :: a4 :: a5 :: a6 :: a7 :: a8 :: a9 :: a10 :: a11 :: a12 :: y :: l := rfl
theorem set_h14 {α : Type} {a0 a1 a2 a3 a4 a5 a6 a7 a8 a9 a10 a11 a12 a13 a14 y : α} {l : List α} : (a0 :: a1 :: a2 :: a3 :: a4 :: a5 :: a6 :: a7 :: a8 :: a9 :: a10 :: a11 :: a12 :: a13 :: a14 :: l).set 14 y = a0 :: a1 :: a2 :: a3 :: a4 :: a5 :: a6 :: a7 :: a8 :: a9 :: a10 :: a11 :: a12 :: a13 :: y :: l := rfl
theorem set_h15 {α : Type} {a0 a1 a2 a3 a4 a5 a6 a7 a8 a9 a10 a11 a12 a13 a14 a15 y : α} {l : List α} : (a0 :: a1 :: a2 :: a3 :: a4 :: a5 :: a6 :: a7 :: a8 :: a9 :: a10 :: a11 :: a12 :: a13 :: a14 :: a15 :: l).set 15 y = a0 :: a1 :: a2 :: a3 :: a4 :: a5 :: a6 :: a7 :: a8 :: a9 :: a10 :: a11 :: a12 :: a13 :: a14 :: y :: l := rfl
theorem set_h16 {α : Type} {a0 a1 a2 a3 a4 a5 a6 a7 a8 a9 a10 a11 a12 a13 a14 a15 a16 y : α} {l : List α} : (a0 :: a1 :: a2 :: a3 :: a4 :: a5 :: a6 :: a7 :: a8 :: a9 :: a10 :: a11 :: a12 :: a13 :: a14 :: a15 :: a16 :: l).set 16 y = a0 :: a1 :: a2 :: a3 :: a4 :: a5 :: a6 :: a7 :: a8 :: a9 :: a10 :: a11 :: a12 :: a13 :: a14 :: a15 :: y :: l := rfl
theorem set_h17 {α : Type} {a0 a1 a2 a3 a4 a5 a6 a7 a8 a9 a10 a11 a12 a13 a14 a15 a16 a17 y : α} {l : List α} : (a0 :: a1 :: a2 :: a3 :: a4 :: a5 :: a6 :: a7 :: a8 :: a9 :: a10 :: a11 :: a12 :: a13 :: a14 :: a15 :: a16 :: a17 :: l).set 17 y = a0 :: a1 :: a2 :: a3 :: a4 :: a5 :: a6 :: a7 :: a8 :: a9 :: a10 :: a11 :: a12 :: a13 :: a14 :: a15 :: a16 :: y :: l := rfl
theorem set_h18 {α : Type} {a0 a1 a2 a3 a4 a5 a6 a7 a8 a9 a10 a11 a12 a13 a14 a15 a16 a17 a18 y : α} {l : List α} : (a0 :: a1 :: a2 :: a3 :: a4 :: a5 :: a6 :: a7 :: a8 :: a9 :: a10 :: a11 :: a12 :: a13 :: a14 :: a15 :: a16 :: a17 :: a18 :: l).set 18 y = a0 :: a1 :: a2 :: a3 :: a4 :: a5 :: a6 :: a7 :: a8 :: a9 :: a10 :: a11 :: a12 :: a13 :: a14 :: a15 :: a16 :: a17 :: y :: l := rfl
theorem set_h19 {α : Type} {a0 a1 a2 a3 a4 a5 a6 a7 a8 a9 a10 a11 a12 a13 a14 a15 a16 a17 a18 a19 y : α} {l : List α} : (a0 :: a1 :: a2 :: a3 :: a4 :: a5 :: a6 :: a7 :: a8 :: a9 :: a10 :: a11 :: a12 :: a13 :: a14 :: a15 :: a16 :: a17 :: a18 :: a19 :: l).set 19 y = a0 :: a1 :: a2 :: a3 :: a4 :: a5 :: a6 :: a7 :: a8 :: a9 :: a10 :: a11 :: a12 :: a13 :: a14 :: a15 :: a16 :: a17 :: a18 :: y :: l := rfl
theorem set_h20 {α : Type} {a0 a1 a2 a3 a4 a5 a6 a7 a8 a9 a10 a11 a12 a13 a14 a15 a16 a17 a18 a19 a20 y : α} {l : List α} : (a0 :: a1 :: a2 :: a3 :: a4 :: a5 :: a6 :: a7 :: a8 :: a9 :: a10 :: a11 :: a12 :: a13 :: a14 :: a15 :: a16 :: a17 :: a18 :: a19 :: a20 :: l).set 20 y = a0 :: a1 :: a2 :: a3 :: a4 :: a5 :: a6 :: a7 :: a8 :: a9 :: a10 :: a11 :: a12 :: a13 :: a14 :: a15 :: a16 :: a17 :: a18 :: a19 :: y :: l := rfl
theorem set_h21 {α : Type} {a0 a1 a2 a3 a4 a5 a6 a7 a8 a9 a10 a11 a12 a13 a14 a15 a16 a17 a18 a19 a20 a21 y : α} {l : List α} : (a0 :: a1 :: a2 :: a3 :: a4 :: a5 :: a6 :: a7 :: a8 :: a9 :: a10 :: a11 :: a12 :: a13 :: a14 :: a15 :: a16 :: a17 :: a18 :: a19 :: a20 :: a21 :: l).set 21 y = a0 :: a1 :: a2 :: a3 :: a4 :: a5 :: a6 :: a7 :: a8 :: a9 :: a10 :: a11 :: a12 :: a13 :: a14 :: a15 :: a16 :: a17 :: a18 :: a19 :: a20 :: y :: l := rfl
theorem set_h22 {α : Type} {a0 a1 a2 a3 a4 a5 a6 a7 a8 a9 a10 a11 a12 a13 a14 a15 a16 a17 a18 a19 a20 a21 a22 y : α} {l : List α} : (a0 :: a1 :: a2 :: a3 :: a4 :: a5 :: a6 :: a7 :: a8 :: a9 :: a10 :: a11 :: a12 :: a13 :: a14 :: a15 :: a16 :: a17 :: a18 :: a19 :: a20 :: a21 :: a22 :: l).set 22 y = a0 :: a1 :: a2 :: a3 :: a4 :: a5 :: a6 :: a7 :: a8 :: a9 :: a10 :: a11 :: a12 :: a13 :: a14 :: a15 :: a16 :: a17 :: a18 :: a19 :: a20 :: a21 :: y :: l := rfl
theorem set_h23 {α : Type} {a0 a1 a2 a3 a4 a5 a6 a7 a8 a9 a10 a11 a12 a13 a14 a15 a16 a17 a18 a19 a20 a21 a22 a23 y : α} {l : List α} : (a0 :: a1 :: a2 :: a3 :: a4 :: a5 :: a6 :: a7 :: a8 :: a9 :: a10 :: a11 :: a12 :: a13 :: a14 :: a15 :: a16 :: a17 :: a18 :: a19 :: a20 :: a21 :: a22 :: a23 :: l).set 23 y = a0 :: a1 :: a2 :: a3 :: a4 :: a5 :: a6 :: a7 :: a8 :: a9 :: a10 :: a11 :: a12 :: a13 :: a14 :: a15 :: a16 :: a17 :: a18 :: a19 :: a20 :: a21 :: a22 :: y :: l := rfl
theorem set_h24 {α : Type} {a0 a1 a2 a3 a4 a5 a6 a7 a8 a9 a10 a11 a12 a13 a14 a15 a16 a17 a18 a19 a20 a21 a22 a23 a24 y : α} {l : List α} : (a0 :: a1 :: a2 :: a3 :: a4 :: a5 :: a6 :: a7 :: a8 :: a9 :: a10 :: a11 :: a12 :: a13 :: a14 :: a15 :: a16 :: a17 :: a18 :: a19 :: a20 :: a21 :: a22 :: a23 :: a24 :: l).set 24 y = a0 :: a1 :: a2 :: a3 :: a4 :: a5 :: a6 :: a7 :: a8 :: a9 :: a10 :: a11 :: a12 :: a13 :: a14 :: a15 :: a16 :: a17 :: a18 :: a19 :: a20 :: a21 :: a22 :: a23 :: y :: l := rfl
theorem set_h25 {α : Type} {a0 a1 a2 a3 a4 a5 a6 a7 a8 a9 a10 a11 a12 a13 a14 a15 a16 a17 a18 a19 a20 a21 a22 a23 a24 a25 y : α} {l : List α} : (a0 :: a1 :: a2 :: a3 :: a4 :: a5 :: a6 :: a7 :: a8 :: a9 :: a10 :: a11 :: a12 :: a13 :: a14 :: a15 :: a16 :: a17 :: a18 :: a19 :: a20 :: a21 :: a22 :: a23 :: a24 :: a25 :: l).set 25 y = a0 :: a1 :: a2 :: a3 :: a4 :: a5 :: a6 :: a7 :: a8 :: a9 :: a10 :: a11 :: a12 :: a13 :: a14 :: a15 :: a16 :: a17 :: a18 :: a19 :: a20 :: a21 :: a22 :: a23 :: a24 :: y :: l := rfl
theorem at_mem {α : Type} (xs : List α) {i : Int} (h0 : 0 ≤ i) (h1 : i < xs.length) : ∃ c, c ∈ xs ∧ L2.atI xs i = some c := by
  have h2 : i.toNat < xs.length := by omega
  exact ⟨xs[i.toNat], List.getElem_mem h2, by rw [at_pos xs h0, List.getElem?_eq_getElem h2]⟩
end PL
set_option Elab.async false
set_option linter.all false
set_option maxRecDepth 100000
namespace PL
open PySem PySem.Spec PyProof.Rows L2
section
variable {X : Cx} {a b c e : Expr} {ta tb tc te to : PTE} {pos p : Pos} {es : List Expr} {t : PTA} {x : Str}
/-! ### what never changes from now on, in the midst of an expression -/
def pFzE (te : PTE) : PTE := fun E σ M Q => te E σ M fun x M1 => kFz x M1 Q
theorem LE.fz (he : LE X e te) : LE X e (pFzE te) := by
  refine ⟨fun σv H σ F M Q E tk rm rs h => ?_⟩
  refine (he.run σv H σ F M _ E tk rm rs h).mono ?_
  rintro v H1 ⟨F1, M1, x, b1, rx, hx⟩
  exact LQ.tr b1 (R.fz b1.rm rx hx)
theorem w_fzE {E : PXK} {σ : PSt} {M : Mem} {Q : PQ} (h : te E σ M fun x M1 => kFz x M1 Q) : pFzE te E σ M Q := h
theorem w_fzP {p : Addr} {xs : List PV} {M : Mem} {Q : PQ} (e : M p = some (.lst xs)) (h : Q (.lst xs) (M.drop p)) : kFz (.ptr p) M Q := by rw [fz_ptr e]; exact h
/-! ### list(range(n)) -/
def kLstRg (x : PV) (M : Mem) (Q : PQ) : Prop := match x with | .int j => (0 ≤ j ∧ j ≤ 16777216) ∧ ∀ p, M p = none → Q (.ptr p) (M.put p (.lst (rngP 0 j.toNat))) | _ => False
def pLstRg (te : PTE) : PTE := fun E σ M Q => te E σ M fun x M1 => kLstRg x M1 Q
theorem rall_rng {K : PySem.W.Frag} {F : Hp} : ∀ ns : List Nat, RAll K F (ns.map fun (i : Nat) => PV.int (0 + (i : Int))) (ns.map fun (i : Nat) => V.int (0 + (i : Int)))
  | [] => .nil
  | n :: r => .cons (.int _) (rall_rng r)
theorem LE.listRg {pr pl : Pos} (hc : X.calm = true) (hg : Gl X "list") (hm : X.mg "list" = none) (hg2 : Gl X "range") (hm2 : X.mg "range" = none) (ha : LE X a ta) (na : starEach [a] X.env = (false, eval a X.env) :: starEach [] X.env := by rfl)
    (ne : starEach [.Call (.Name "range" pr) [a] [] p] X.env = (false, eval (.Call (.Name "range" pr) [a] [] p) X.env) :: starEach [] X.env := by rfl) :
    LE X (.Call (.Name "list" pl) [.Call (.Name "range" pr) [a] [] p] [] pos) (pLstRg ta) := by
  refine ⟨fun σv H σ F M Q E tk rm rs h => WE.of (pe_listRg hc hg hm (prg_1 hg2 hm2 WE.pe na) ne) ?_⟩
  refine (ha.run σv H σ F M _ E tk rm rs h).mono ?_
  rintro v H1 ⟨F1, M1, x, b1, rx, hx⟩
  cases rx with
  | int j =>
    obtain ⟨⟨h0, h1⟩, hx⟩ := hx
    refine ⟨j, rfl, .of_le (Int.le_refl 0) h1 (by decide) h0, fun q nq => ?_⟩
    have eq : (j - 0).toNat = j.toNat := by rw [Int.sub_zero]
    have rr : RAll X.K F1 (rngP 0 j.toNat) (rgV 0 j) := by
      unfold rngP rgV
      rw [eq]
      exact rall_rng _
    exact ⟨_, _, _, b1.trans (b1.rm.behNew nq (.lst rr)), .ptr q, hx q (b1.rm.nones nq).2⟩
  | _ => exact hx.elim
theorem w_lstRg {E : PXK} {σ : PSt} {M : Mem} {Q : PQ} (h : te E σ M fun x M1 => kLstRg x M1 Q) : pLstRg te E σ M Q := h
/-! ### xs.pop(i) of a list that may change -/
def kPop (o i : PV) (M : Mem) (Q : PQ) : Prop := match o, i with
  | .ptr p, .int k => match M p with
    | some (.lst xs) => (0 ≤ k ∧ k < xs.length ∧ xs.length < 2 ^ 62) ∧ need xs[k.toNat]? fun y => Q y (M.put p (.lst (xs.eraseIdx k.toNat)))
    | _ => False
  | _, _ => False
def pPop (to te : PTE) : PTE := fun E σ M Q => to E σ M fun o M1 => lstOf M1 o ≠ none ∧ te E σ M1 fun i M2 => kPop o i M2 Q
theorem rall_erase {K : PySem.W.Frag} {F : Hp} : ∀ {xs : List PV} {vs : List V} (k : Nat), RAll K F xs vs → RAll K F (xs.eraseIdx k) (vs.eraseIdx k)
  | _, _, _, .nil => .nil
  | _, _, 0, .cons _ r => r
  | _, _, k + 1, .cons h r => .cons h (rall_erase k r)
theorem rall_get {K : PySem.W.Frag} {F : Hp} : ∀ {xs : List PV} {vs : List V} {k : Nat} {y : PV}, RAll K F xs vs → xs[k]? = some y → ∃ v, vs[k]? = some v ∧ R K F y v
  | _, _, 0, _, .cons h r, e => by cases e; exact ⟨_, rfl, h⟩
  | _, _, k + 1, _, .cons h r, e => rall_get (k := k) r e
theorem LE.popAt {apos : Pos} (ho : LE X a to) (he : LE X e te) (hbase : attributeBase a "pop" X.env (eval a X.env) = eval a X.env := by rfl)
    (hfew : ((backTo pos (starEach [e] X.env)).all (fun x => !x.1) && (backToKw pos (keywordEach [] X.env)).all (fun x => x.1.isSome) && decide ([e].length + ([] : List Keyword).length + (if ([] : List Keyword).isEmpty then 0 else 1) < 30)) = true := by rfl)
    (hline : (apos.endLine == pos.line) = true := by rfl) (hs : starEach [e] X.env = (false, eval e X.env) :: starEach [] X.env := by rfl) (hplain : (backTo pos (starEach [] X.env)).any (·.1) = false := by rfl) :
    LE X (.Call (.Attribute a "pop" apos) [e] [] pos) (pPop to te) := by
  refine ⟨fun σv H σ F M Q E tk rm rs h => WE.of (pe_bm PySem.F.plainAttrs_list PySem.F.slot_list_pop PySem.F.type_list_pop mt_popAt WE.pe (pa_cons WE.pe pa_nil hs) hbase hfew hline hs hplain) ?_⟩
  refine (ho.run σv H σ F M _ E tk rm rs h).mono ?_
  rintro v H1 ⟨F1, M1, x, b1, rx, hl, hx⟩
  refine ⟨?_, ?_⟩
  · cases hq : lstOf M1 x with
    | none => exact absurd hq hl
    | some xs =>
      obtain ⟨q, ws, ev, hs, _⟩ := rx.lstI b1.rm hq
      subst ev
      exact .inl ⟨rfl, _, hs⟩
  · refine (he.run σv H1 σ F1 M1 _ E (tk.tr b1) b1.rm (rs.same b1.sm) hx).mono ?_
    rintro w H2 ⟨F2, M2, y, b2, ry, hy⟩
    unfold kPop at hy
    split at hy
    · rename_i p k
      cases rx
      cases ry
      split at hy
      · rename_i xs hm
        obtain ⟨u, e2, ru⟩ := b2.rm.mu _ _ hm
        obtain ⟨⟨h1, h2, h3⟩, h4⟩ := hy
        obtain ⟨y, e3, h4⟩ := need_of h4
        cases ru with
        | lst ru =>
          rename_i vs
          obtain ⟨z, e4, rz⟩ := rall_get ru e3
          have hk : k = ((k.toNat : Nat) : Int) := (Int.toNat_of_nonneg h1).symm
          have lz := ru.length
          refine ⟨p, vs, k, k.toNat, z, rfl, rfl, e2, by omega, by omega, ?_, e4, ?_⟩
          · unfold seqIndex?
            simp only [if_neg (show ¬ k < 0 from by omega)]
            rw [if_pos (by simp only [Bool.and_eq_true, decide_eq_true_eq]; exact ⟨h1, by omega⟩)]
          · have b3 := b2.rm.behWrite (o := .lst _) hm (.lst (rall_erase k.toNat ru))
            exact ⟨F2, _, _, (b1.trans b2).trans b3, rz, h4⟩
      · exact hy.elim
    · exact hy.elim
theorem w_pop {E : PXK} {σ : PSt} {M : Mem} {Q : PQ} (h : to E σ M fun o M1 => lstOf M1 o ≠ none ∧ te E σ M1 fun i M2 => kPop o i M2 Q) : pPop to te E σ M Q := h
/-! ### sorted(xs) of ints -/
def kSort (x : PV) (M : Mem) (Q : PQ) : Prop := need (lstOf M x) fun xs => need (intsOf xs) fun ns => ∀ ns' : List Int, ns'.Perm ns → ns'.Pairwise (· ≤ ·) → Q (.lst (ns'.map .int)) M
theorem rall_intsV {K : PySem.W.Frag} {F : Hp} : ∀ ns : List Int, RAll K F (ns.map PV.int) (ns.map V.int)
  | [] => .nil
  | n :: r => .cons (.int n) (rall_intsV r)
theorem LE.sorted (hg : Gl X "sorted") (hm : X.mg "sorted" = none) (ha : LA X [e] t) (he : starEach [e] X.env = (false, eval e X.env) :: starEach [] X.env := by rfl) : LE X (.Call (.Name "sorted" p) [e] [] pos) (pCallB (on1 kSort) t) := by
  refine LE.callB cr_sortedI (fun F M H xs vs Q Qv rm rx h k => ?_) hg hm (by decide +kernel) ha (he := he)
  obtain ⟨x, ex, h1⟩ := on1_of h
  subst ex
  obtain ⟨v, ev, rx1⟩ := rx.one
  subst ev
  obtain ⟨ys, e1, h2⟩ := need_of h1
  obtain ⟨ns, e2, h3⟩ := need_of h2
  obtain ⟨q, ws, ev, hs, ra⟩ := rx1.lstI rm e1
  subst ev
  rw [intsOf_eq e2] at ra
  rw [ra.intsI] at hs
  refine ⟨q, ns, rfl, hs, fun ns' l h5 h6 nl => k _ _ ⟨_, M, _, rm.beh nl, .lst upd_same (rall_intsV ns'), h3 ns' h5 h6⟩⟩
theorem w_sort {x : PV} {xs : List PV} {ns : List Int} {M : Mem} {Q : PQ} (e1 : lstOf M x = some xs) (e2 : intsOf xs = some ns) (h : ∀ ns' : List Int, ns'.Perm ns → ns'.Pairwise (· ≤ ·) → Q (.lst (ns'.map .int)) M) : kSort x M Q := need_by e1 (need_by e2 h)
/-! ### xs[::-1] of a list -/
def kRev (x : PV) (M : Mem) (Q : PQ) : Prop := need (lstOf M x) fun xs => Q (.lst xs.reverse) M
def pRev (te : PTE) : PTE := fun E σ M Q => te E σ M fun x M1 => kRev x M1 Q
theorem RAll.rev {K : PySem.W.Frag} {F : Hp} : ∀ {xs : List PV} {vs : List V}, RAll K F xs vs → RAll K F xs.reverse vs.reverse
  | _, _, .nil => .nil
  | _, _, .cons h r => by
    rw [List.reverse_cons, List.reverse_cons]
    exact (RAll.rev r).append (.cons h .nil)
theorem LE.revL {k : Nat} {p1 p2 p3 : Pos} (he : LE X e te) : LE X (.Subscript e (.Slice none none (some (.UnaryOp .USub (.Constant (.int 1) k p1) p2)) p3) pos) (pRev te) := by
  refine ⟨fun σv H σ F M Q E tk rm rs h => WE.of (pe_revL WE.pe) ?_⟩
  refine (he.run σv H σ F M _ E tk rm rs h).mono ?_
  rintro v H1 ⟨F1, M1, x, b1, rx, hx⟩
  obtain ⟨xs, e1, h2⟩ := need_of hx
  obtain ⟨q, ws, ev, hs, ra⟩ := rx.lstI b1.rm e1
  subst ev
  exact ⟨q, ws, rfl, hs, fun l nl => ⟨_, M1, _, b1.trans (b1.rm.beh nl), .lst upd_same (ra.rev.same (b1.rm.beh (o := .lst ws.reverse) nl).sm), h2⟩⟩
theorem w_rev {E : PXK} {σ : PSt} {M : Mem} {Q : PQ} (h : te E σ M fun x M1 => kRev x M1 Q) : pRev te E σ M Q := h
theorem w_revL {xs : List PV} {M : Mem} {Q : PQ} (h : Q (.lst xs.reverse) M) : kRev (.lst xs) M Q := h
/-! ### x in t, a tuple -/
def inP (x y : PV) (k : Bool → Prop) : Prop := match y with
  | .tup ys => need (toD x) fun d => need (toDs ys) fun ds => d.depth ≤ 64 ∧ k (ds.any fun z => PyData.eqv z d)
  | _ => False
def oIn : PO2 := fun x y M Q => inP x y fun b => Q (.bl b) M
def oNin : PO2 := fun x y M Q => inP x y fun b => Q (.bl (!b)) M
def rInT (K : PySem.W.Frag) (f : Bool → Bool) : R2 := fun x y H Q => ∃ d ds, Dp K H x d ∧ Dp K H y (.tuple ds) ∧ d.canLay0 = true ∧ PyData.canLayAll0 ds = true ∧ d.depth ≤ 64 ∧ Q (.bl (f (ds.any fun z => PyData.eqv z d))) H
theorem op_inT (hu : X.A.units + 65 < cLine) : OpR X (compareOp .In) (rInT X.K id) := by
  intro pins s σ H x y v u Q I rx ry h
  obtain ⟨d, ds, hd, he, sd, se, h64, q⟩ := h
  obtain ⟨as, r1⟩ := Dp.reads I d x v hd rx
  obtain ⟨bs, r2⟩ := Dp.reads I (.tuple ds) y u he ry
  exact SeqAt.in_tuple_reads r2 r1 se sd (by have := Nat.min_le_right (PyData.depthAll ds) d.depth; omega) ⟨.bl _, H, I, rfl, q⟩
theorem op_ninT (hu : X.A.units + 65 < cLine) : OpR X (compareOp .NotIn) (rInT X.K not) := by
  intro pins s σ H x y v u Q I rx ry h
  obtain ⟨d, ds, hd, he, sd, se, h64, q⟩ := h
  obtain ⟨as, r1⟩ := Dp.reads I d x v hd rx
  obtain ⟨bs, r2⟩ := Dp.reads I (.tuple ds) y u he ry
  exact SeqAt.notIn_tuple_reads r2 r1 se sd (by have := Nat.min_le_right (PyData.depthAll ds) d.depth; omega) ⟨.bl _, H, I, rfl, q⟩
theorem pop_inT {K : PySem.W.Frag} {f : Bool → Bool} : POp K (rInT K f) (fun x y M Q => inP x y fun b => Q (.bl (f b)) M) := by
  intro F M H x y xv yv Q Qv rm rx ry h k
  cases y with
  | tup ys =>
    obtain ⟨d, e1, h⟩ := need_of h
    obtain ⟨ds, e2, h⟩ := need_of h
    obtain ⟨h1, h2⟩ := h
    obtain ⟨a1, a2⟩ := toD_dp rm.fr x xv d rx e1
    have e3 : toD (.tup ys) = some (.tuple ds) := by unfold toD; rw [e2]; rfl
    obtain ⟨b1, b2⟩ := toD_dp rm.fr (.tup ys) _ _ ry e3
    exact ⟨d, ds, a1, b1, a2, b2, h1, k _ _ (LQ.now rm (.bl _) h2)⟩
  | _ => exact h.elim
theorem LE.inT (hu : X.A.units + 65 < cLine) (ha : LE X a ta) (hb : LE X b tb) (hm : behindInMarks .In b = false := by rfl) : LE X (.Compare a [.In] [b] pos) (pBin oIn ta tb) := LE.cmp (op_inT hu) pop_inT hm ha hb
theorem LT.inT (hu : X.A.units + 65 < cLine) (ha : LE X a ta) (hb : LE X b tb) (hm : behindInMarks .In b = false := by rfl) : LT X (.Compare a [.In] [b] pos) (pTest (pBin oIn ta tb)) := LT.cmp (op_inT hu) pop_inT hm ha hb
theorem LE.ninT (hu : X.A.units + 65 < cLine) (ha : LE X a ta) (hb : LE X b tb) (hm : behindInMarks .NotIn b = false := by rfl) : LE X (.Compare a [.NotIn] [b] pos) (pBin oNin ta tb) := LE.cmp (op_ninT hu) pop_inT hm ha hb
theorem LT.ninT (hu : X.A.units + 65 < cLine) (ha : LE X a ta) (hb : LE X b tb) (hm : behindInMarks .NotIn b = false := by rfl) : LT X (.Compare a [.NotIn] [b] pos) (pTest (pBin oNin ta tb)) := LT.cmp (op_ninT hu) pop_inT hm ha hb
/-! ### for .. else -/
def pForEL (g : PTG) (tb u : PTS) : List PV → PTS
  | [] => fun D σ M => u D σ M
  | x :: xs => fun D σ M => g x σ M fun σ1 M1 => tb { D with nx := pForEL g tb u xs D, bk := D.nx, ct := pForEL g tb u xs D } σ1 M1
def pForE (wi : PTI) (g : PTG) (tb u : PTS) : PTS := fun D σ M => wi D.ex σ M fun xs M1 => pForEL g tb u xs D σ M1
theorem LS.forE {tg iter : Expr} {body orelse : List Stmt} {wi : PTI} {g : PTG} {tb u : PTS} (hp : PassesOwn (model X.prog X.w) X.A X.env X.xe) (hc : X.calm = true) (hi : LI X tg iter wi) (hg : LG X tg g) (hb : LSs X body tb) (ho : LSs X orelse u) (hs : ∀ x, foldedSetIterable iter X.env x = pure x := by intro _; rfl) : LS X (.For tg iter body orelse pos) (pForE wi g tb u) := by
  refine ⟨fun σv H σ F M D tk rm rs h => WS.of (ps_forE hp hc WI.pi WG.pg WSs.ps WSs.ps hs) ?_⟩
  refine (hi.run σv H σ F M _ D.ex tk rm rs h).mono ?_
  rintro J H1 ⟨F1, M1, xs, b1, st, h1⟩
  refine ⟨fun i m σv' H' => m = xs.length - i ∧ i ≤ xs.length ∧ ∃ F' M' σ', Beh X.K F M H F' M' H' ∧ Same F1 F' ∧ RS X.K F' σ' σv' ∧ pForEL g tb u (xs.drop i) D σ' M', ⟨xs.length, rfl, Nat.zero_le _, F1, M1, σ, b1, Same.refl _, rs.same b1.sm, h1⟩, ?_⟩
  rintro i m σv2 H2 ⟨rfl, hi2, F2, M2, σ2, b2, sm2, rs2, h2⟩
  obtain ⟨s1, s2⟩ := st i F2 M2 H2 sm2 b2.rm
  by_cases hlt : i < xs.length
  · obtain ⟨go, yl⟩ := s1 hlt
    rw [List.drop_eq_getElem_cons hlt] at h2
    refine .inr ⟨go, _, fun σv' H' n => ⟨_, (show xs.length - (i + 1) < xs.length - i by omega), n⟩, fun v H3 y => ?_⟩
    obtain ⟨F3, b3, r3⟩ := yl v H3 y
    refine (hg.run σv2 H3 σ2 F3 M2 _ v _ b3.rm (rs2.same b3.sm) r3 h2).mono ?_
    rintro σv4 H4 ⟨F4, M4, σ4, b4, rs4, h4⟩
    have b24 := b3.trans b4
    have b04 := b2.trans b24
    refine (hb.run σv4 H4 σ4 F4 M4 { D with nx := pForEL g tb u (xs.drop (i + 1)) D, bk := D.nx, ct := pForEL g tb u (xs.drop (i + 1)) D } (tk.tr b04) b04.rm rs4 h4).mono ⟨?_, fun _ _ q => q.tr b04, fun _ _ q => q.tr b04, ?_⟩
    · rintro σv5 H5 ⟨F5, M5, σ5, b5, rs5, h5⟩
      exact ⟨rfl, hlt, F5, M5, σ5, b04.trans b5, (sm2.trans b24.sm).trans b5.sm, rs5, h5⟩
    · rintro σv5 H5 ⟨F5, M5, σ5, b5, rs5, h5⟩
      exact ⟨rfl, hlt, F5, M5, σ5, b04.trans b5, (sm2.trans b24.sm).trans b5.sm, rs5, h5⟩
  · have e : i = xs.length := by omega
    subst e
    rw [List.drop_length] at h2
    refine .inl ⟨s2 (Nat.le_refl _), ?_⟩
    refine (ho.run σv2 H2 σ2 F2 M2 D (tk.tr b2) b2.rm rs2 h2).mono ⟨?_, fun _ _ q => q.tr b2, ?_, ?_⟩
    · rintro σv5 H5 ⟨F5, M5, σ5, b5, rs5, h5⟩
      exact ⟨F5, M5, σ5, b2.trans b5, rs5, h5⟩
    · rintro σv5 H5 ⟨F5, M5, σ5, b5, rs5, h5⟩
      exact ⟨F5, M5, σ5, b2.trans b5, rs5, h5⟩
    · rintro σv5 H5 ⟨F5, M5, σ5, b5, rs5, h5⟩
      exact ⟨F5, M5, σ5, b2.trans b5, rs5, h5⟩
theorem w_forE {wi : PTI} {g : PTG} {tb u : PTS} {dn db dc : PNx} {dr : PQ} {de : PXK} {σ : PSt} {M : Mem} (h : wi de σ M fun xs M1 => pForEL g tb u xs (PEnds.mk dn dr de db dc) σ M1) : pForE wi g tb u (PEnds.mk dn dr de db dc) σ M := h
/-- the loop that may be left: what holds as long as it goes on, and what where it is left -/
theorem forE_in {g : PTG} {tb u : PTS} {D : PEnds} (I : Nat → PNx) : ∀ (xs : List PV) (j : Nat) (hs : ∀ i x σ M K, xs[i]? = some x → I (j + i) σ M → (∀ σ' M', I (j + i + 1) σ' M' → K σ' M') → g x σ M fun σ1 M1 => tb { D with nx := K, bk := D.nx, ct := K } σ1 M1)
    (hd : ∀ σ M, I (j + xs.length) σ M → u D σ M) (σ : PSt) (M : Mem), I j σ M → pForEL g tb u xs D σ M
  | [], j, hs, hd, σ, M, h => hd σ M h
  | x :: xs, j, hs, hd, σ, M, h => by
    refine hs 0 x σ M (pForEL g tb u xs D) rfl h fun σ' M' h' => ?_
    refine forE_in I xs (j + 1) (fun i y σ M K e hi hk => ?_) (fun σ M hl => hd σ M ?_) σ' M' h'
    · have e1 : j + 1 + i = j + (i + 1) := by omega
      rw [e1] at hi hk
      exact hs (i + 1) y σ M K e hi hk
    · have e1 : j + 1 + xs.length = j + (x :: xs).length := by rw [List.length_cons]; omega
      rw [e1] at hl
      exact hl
theorem w_inT {x : PV} {ys : List PV} {d : PyData} {ds : List PyData} {M : Mem} {Q : PQ} (e1 : toD x = some d) (e2 : toDs ys = some ds) (h1 : d.depth ≤ 64) (h : Q (.bl (ds.any fun z => PyData.eqv z d)) M) : oIn x (.tup ys) M Q := need_by e1 (need_by e2 ⟨h1, h⟩)
theorem w_ninT {x : PV} {ys : List PV} {d : PyData} {ds : List PyData} {M : Mem} {Q : PQ} (e1 : toD x = some d) (e2 : toDs ys = some ds) (h1 : d.depth ≤ 64) (h : Q (.bl (!ds.any fun z => PyData.eqv z d)) M) : oNin x (.tup ys) M Q := need_by e1 (need_by e2 ⟨h1, h⟩)
/-! ### a number that stands in the text's own names -/
theorem LE.globI {x : Str} {i : Int} (hg : Gl X x) (hm : ∃ t, X.mg x = some (.int i t)) (hd : (x == ("__debug__" : Str)) = false := by decide) : LE X (.Name x pos) (pC (.int i)) := by
  refine ⟨fun σv H σ F M Q E tk rm rs h => ?_⟩
  obtain ⟨t, hm⟩ := hm
  exact WE.of (pe_glob (v := .int i) hg hm ⟨t, rfl⟩ hd) (LQ.now rm (.int i) h)
/-! ### a place among those of a list, dropped behind a loop's turn -/
theorem w_dropAt {i : Nat} {t : PTS} {p : Addr} {D : PEnds} {σ : PSt} {M : Mem} (e : σ[i]? = some (some (.ptr p))) (h : t D σ (M.drop p)) : pDropAt i t D σ M := by unfold pDropAt; rw [e]; exact h
theorem Room.units65 {k : Nat} {A : Around} (r : Room k A) : A.units + 65 < cLine := by have := r.un; omega
/-! ### a, b = x, y -/
def kPar (i j : Nat) (σ : PSt) (dn : PNx) (xs : List PV) (M : Mem) : Prop := match xs with
  | [x, y] => dn ((σ.set i (some x)).set j (some y)) M
  | _ => False
def pPar (i j : Nat) (ta : PTA) : PTS := fun D σ M => ta D.ex σ M fun xs M1 => kPar i j σ D.nx xs M1
theorem w_kpar {i j : Nat} {x y : PV} {σ σ1 σ2 : PSt} {dn : PNx} {M : Mem} (e1 : σ.set i (some x) = σ1) (e2 : σ1.set j (some y) = σ2) (h : dn σ2 M) : kPar i j σ dn [x, y] M := by
  subst e1
  subst e2
  exact h
theorem LS.par {y : Str} {e1 e2 : Expr} {px py pt : Pos} {kt k2 pt2} (i j : Nat) {ta : PTA} (hc : X.calm = true) (hN : X.N.Nodup) (hij : i ≠ j) (ha : LA X [e1, e2] ta)
    (hw : swappedStores [.Tuple [.Name x px, .Name y py] kt pt] (.Tuple [e1, e2] k2 pt2) X.env = pure (some [x, y])) (hi : X.N[i]? = some x := by rfl) (hj : X.N[j]? = some y := by rfl)
    (hx : X.env.scope.names.lookup x = some .local := by rfl) (hy : X.env.scope.names.lookup y = some .local := by rfl)
    (hs : swapsWithSole [.Tuple [.Name x px, .Name y py] kt pt] (.Tuple [e1, e2] k2 pt2) pos.line X.env = pure false := by rfl) :
    LS X (.Assign [.Tuple [.Name x px, .Name y py] kt pt] (.Tuple [e1, e2] k2 pt2) pos) (pPar i j ta) := by
  refine ⟨fun σv H σ F M D tk rm rs h => WS.of (ps_par hc hN hi hj hij hx hy WA.pa hw hs) ?_⟩
  refine (ha.run σv H σ F M _ D.ex tk rm rs h).mono ?_
  rintro vs H1 ⟨hl, F1, M1, xs, b1, ra, q⟩
  unfold kPar at q
  split at q
  · rename_i x y
    obtain ⟨v, w, rfl, r1, r2⟩ := ra.two
    exact ⟨v, w, rfl, F1, M1, _, b1, ((rs.same b1.sm).set i r1).set j r2, q⟩
  · exact q.elim
theorem w_par {i j : Nat} {ta : PTA} {dn db dc : PNx} {dr : PQ} {de : PXK} {σ : PSt} {M : Mem} (h : ta de σ M fun xs M1 => kPar i j σ dn xs M1) : pPar i j ta (PEnds.mk dn dr de db dc) σ M := h
end
end PL
set_option Elab.async false
set_option linter.all false
set_option maxRecDepth 100000
namespace PL
open PySem PySem.Spec PyProof.Rows L2
section
variable {X : Cx} {a b c e : Expr} {ta tb tc te to : PTE} {pos p : Pos} {es : List Expr} {t : PTA} {x : Str}
/-! ### [..] * n, a list of its own -/
def oRepP : PO2 := fun x y M Q => match x, y with
  | .ptr p, .int k => match M p with
    | some (.lst xs) => (0 ≤ k ∧ k < 2 ^ 62) ∧ xs.length * k.toNat ≤ sizeLine ∧ Q (.lst (List.replicate k.toNat xs).flatten) M
    | _ => False
  | _, _ => False
theorem LE.repP (ha : LE X a ta) (hb : LE X b tb) : LE X (.BinOp a .Mult b pos) (pBin oRepP ta tb) := by
  refine LE.bin op_rep (fun F M H x y xv yv Q Qv rm rx ry h k => ?_) ha hb
  unfold oRepP at h
  split at h
  · rename_i p j
    cases rx
    cases ry
    split at h
    · rename_i xs hm
      obtain ⟨u, e2, ru⟩ := rm.mu _ _ hm
      obtain ⟨⟨h1, h2⟩, h3, h4⟩ := h
      cases ru with
      | lst ru =>
        rename_i vs
        refine ⟨p, j, vs, rfl, rfl, e2, by omega, by omega, by rw [← ru.length]; exact h3, fun l nl => k _ _ ⟨_, M, _, rm.beh nl, .lst upd_same ((ru.rep _).same (rm.beh (o := .lst _) nl).sm), h4⟩⟩
    · exact h.elim
  · exact h.elim
theorem w_repP {p : Addr} {k : Int} {xs : List PV} {M : Mem} {Q : PQ} (m : M p = some (.lst xs)) (h0 : 0 ≤ k ∧ k < 2 ^ 62) (h1 : xs.length * k.toNat ≤ sizeLine) (h : Q (.lst (List.replicate k.toNat xs).flatten) M) : oRepP (.ptr p) (.int k) M Q := by
  show (match M p with | some (.lst xs) => (0 ≤ k ∧ k < 2 ^ 62) ∧ xs.length * k.toNat ≤ sizeLine ∧ Q (.lst (List.replicate k.toNat xs).flatten) M | _ => False)
  rw [m]
  exact ⟨h0, h1, h⟩
/-- a comprehension whose elements may leave things in the memory -/
theorem lc_mem {i : Nat} {te : PTE} {σ : PSt} {Q : PQ} (f : PV → PV) : ∀ (xs acc : List PV) (M : Mem), (∀ x ∈ xs, ∀ (M : Mem) (R : PQ), (∀ M', R (f x) M') → te noX (σ.set i (some x)) M R) → (∀ M', Q (.lst (acc ++ xs.map f)) M') → pLcL i pYes te xs acc σ M Q
  | [], acc, M, _, q => by
    have := q M
    rw [List.map_nil, List.append_nil] at this
    exact this
  | x :: xs, acc, M, h, q => by
    refine w_lccons (h x List.mem_cons_self M _ fun M' => lc_mem f xs (acc ++ [f x]) M' (fun y hy => h y (List.mem_cons_of_mem _ hy)) ?_)
    rw [List.append_assoc]
    exact q
end
end PL
set_option Elab.async false
set_option linter.all false
set_option maxRecDepth 100000
namespace HT
open PySem PySem.Spec PyProof.Rows
section
variable {prog : Program} {w : World} {A : Around} {E : Value → Shared → Prop} {s : Shared}
theorem places_rev (n : Nat) : Builtin.Slice.slicePlaces ((n : Int) - 1) (-1) (-1) = n := by
  unfold Builtin.Slice.slicePlaces
  have h1 : ¬ ((-1 : Int) > 0) := by omega
  simp only [h1, if_false]
  split
  · rw [show (- -1 : Int) = 1 from rfl, Int.ediv_one]
    omega
  · omega
theorem adjust_rev (n : Nat) : Builtin.Slice.sliceAdjust none none (-1) (n : Int) = ((n : Int) - 1, -1) := by
  unfold Builtin.Slice.sliceAdjust
  have h1 : ((-1 : Int) < 0) := by omega
  simp only [h1, if_true]
theorem sliceApplied_rev {sl : Addr} {vs : Value} {n : Nat} {Q : Int × Int × Nat → Shared → Prop} (hs : s.heap.IsSliceOf sl .none .none vs) (ps : IsPart vs (some (-1)))
    (h : Q ((n : Int) - 1, -1, n) s) : wpAny (model prog w) A (Builtin.Slice.sliceApplied (.ref sl) (pure (n : Int))) Q E s := by
  obtain ⟨os, hos, hcs, hds⟩ := id hs
  unfold Builtin.Slice.sliceApplied Builtin.Slice.sliceFields
  refine wpAny_bind (wpAny_bind (wpAny_field hos hds (x := .none) rfl (wpAny_bind (wpAny_field hos hds (x := .none) rfl (wpAny_bind (wpAny_field hos hds (x := vs) rfl (wpAny_pure ?_)))))))
  refine wpAny_bind (slicePart_ ps ?_)
  show wpAny _ _ (if ((-1 : Int) == 0) = true then _ else _) _ _ s
  rw [if_neg (by decide)]
  refine wpAny_bind (slicePart_none (wpAny_bind (slicePart_none (wpAny_bind (wpAny_pure ?_)))))
  show wpAny _ _ (match Builtin.Slice.sliceAdjust none none (-1) (n : Int) with | (lo, hi) => pure (lo, (-1 : Int), Builtin.Slice.slicePlaces lo hi (-1))) _ _ s
  rw [adjust_rev n]
  show wpAny _ _ (pure ((n : Int) - 1, (-1 : Int), Builtin.Slice.slicePlaces ((n : Int) - 1) (-1) (-1))) _ _ s
  rw [places_rev]
  exact wpAny_pure h
theorem fm_congr {α β : Type} {f g : α → Option β} : ∀ l : List α, (∀ k ∈ l, f k = g k) → l.filterMap f = l.filterMap g
  | [], _ => rfl
  | a :: l, h => by
    have ih := fm_congr l fun k hk => h k (List.mem_cons_of_mem _ hk)
    rw [List.filterMap_cons, List.filterMap_cons, h a List.mem_cons_self, ih]
theorem pick_rev (xs : Array Value) : ((List.range xs.size).filterMap fun (m : Nat) => xs[((xs.size : Int) - 1 + (m : Int) * (-1)).toNat]?).toArray = xs.toList.reverse.toArray := by
  congr 1
  apply List.ext_getElem?
  intro i
  have e : ∀ k ∈ List.range xs.size, (fun (m : Nat) => xs[((xs.size : Int) - 1 + (m : Int) * (-1)).toNat]?) k = some (xs.toList.reverse.getD k Value.none) := by
    intro k hk
    rw [List.mem_range] at hk
    show xs[((xs.size : Int) - 1 + (k : Int) * (-1)).toNat]? = _
    have h1 : ((xs.size : Int) - 1 + (k : Int) * (-1)).toNat = xs.size - 1 - k := by omega
    rw [h1]
    have h2 : k < xs.toList.reverse.length := by rw [List.length_reverse, Array.length_toList]; exact hk
    have h3 : xs.size - 1 - k < xs.toList.length := by rw [Array.length_toList]; omega
    rw [List.getD_eq_getElem?_getD, List.getElem?_reverse (by rw [Array.length_toList]; exact hk), Array.length_toList, ← Array.getElem?_toList, List.getElem?_eq_getElem h3]
    rfl
  rw [fm_congr _ e]
  have e2 : (List.range xs.size).filterMap (fun k => some (xs.toList.reverse.getD k Value.none)) = (List.range xs.size).map fun k => xs.toList.reverse.getD k Value.none := by
    rw [← List.filterMap_eq_map]
    rfl
  rw [e2]
  have e3 : (List.range xs.size).map (fun k => xs.toList.reverse.getD k Value.none) = xs.toList.reverse := by
    have hl : xs.toList.reverse.length = xs.size := by rw [List.length_reverse, Array.length_toList]
    rw [← hl]
    apply List.ext_getElem
    · rw [List.length_map, List.length_range]
    · intro j h1 h2
      rw [List.getElem_map, List.getElem_range, List.getD_eq_getElem?_getD, List.getElem?_eq_getElem h2]
      rfl
  rw [e3]
theorem getItem_tuple_rev {t sl : Addr} {items : Array Value} {vs : Value} {Q : Value → Shared → Prop} (ht : IsTup s.heap t items) (hs : s.heap.IsSliceOf sl .none .none vs) (ps : IsPart vs (some (-1)))
    (h : Q (.ref s.heap.objs.size) { s with heap := s.heap.push { cls := .type "tuple", data := .seq items.toList.reverse.toArray } })
    (hsz : items.size ≤ sizeLine) : wpAny (model prog w) A (getItem (.ref t) (.ref sl)) Q E s := by
  have htake : sizeOk (.seq items.toList.reverse.toArray) := by
    show items.toList.reverse.toArray.size ≤ sizeLine
    rw [List.size_toArray, List.length_reverse, Array.length_toList]
    exact hsz
  obtain ⟨os, hos, hcs, hds⟩ := id hs
  have hTs : s.TypeIs (.ref sl) "slice" := ⟨os, hos, hcs⟩
  unfold getItem
  try with_reducible refine wpAny_holding ?_
  first | refine wpAny_bind (wpAny_pure ?_) | skip
  refine wpAny_bind (wpAny_sequenceKey ht.typeIs (by decide) ?_)
  refine wpAny_bind (wpAny_callSpecial?_slot (name := Str.ofString "__getitem__") ht.typeIs PyProof.Rows.slot_tuple_getitem
    (wpAny_call_entry PyProof.Rows.slot_tuple_getitem ht.typeIs entry_tuple_getitem ?_ (args_tuple_getitem _ _)))
  show wpAny _ _ (Builtin.Tuple.tupleItemsOf (.ref t) >>= _) _ _ s
  refine wpAny_bind (tupleItemsOf_ ht ?_)
  refine wpAny_bind (wpAny_typeOf hTs ?_)
  rw [if_pos (by decide)]
  refine wpAny_bind (sliceApplied_rev hs ps ?_)
  have hno : ¬ ((((items.size : Int) - 1) == 0 && (-1 : Int) == 1 && items.size == items.size) = true) := by
    intro q
    rw [Bool.and_eq_true, Bool.and_eq_true] at q
    have q1 : (-1 : Int) = 1 := eq_of_beq q.1.2
    omega
  show wpAny _ _ (if (((items.size : Int) - 1) == 0 && (-1 : Int) == 1 && items.size == items.size) = true then _ else _) _ _ s
  rw [if_neg hno, pick_rev]
  first
    | exact wpAny_bind (m := Builtin.Tuple.tupleExact _) (wpAny_newObj_type (wpAny_pure ⟨_, rfl, wpAny_pure h⟩) htake)
    | exact wpAny_bind (m := Builtin.Tuple.tupleExact _) (wpAny_newObj_type (wpAny_bind (wpAny_pure (wpAny_pure ⟨_, rfl, wpAny_pure h⟩))) htake)
    | exact wpAny_bind (wpAny_bind (m := Builtin.Tuple.tupleExact _) (wpAny_newObj_type (wpAny_pure (wpAny_pure ⟨_, rfl, wpAny_pure h⟩)) htake))
    | exact wpAny_bind (wpAny_bind (m := Builtin.Tuple.tupleExact _) (wpAny_newObj_type (wpAny_pure ⟨_, rfl, wpAny_pure h⟩) htake))
end
end HT

namespace PL
open PySem PySem.Spec PyProof.Rows L2
section
variable {X : Cx} {a b c e : Expr} {ta tb tc te to : PTE} {pos p : Pos} {es : List Expr} {t : PTA} {x : Str}
/-! ### t[::-1] of a tuple -/
def kRevT (x : PV) (M : Mem) (Q : PQ) : Prop := need (tupF x) fun xs => Q (.tup xs.reverse) M
def pRevT (te : PTE) : PTE := fun E σ M Q => te E σ M fun x M1 => kRevT x M1 Q
def tRevT (K : PySem.W.Frag) (te : TE) : TE := fun σ H Q => te σ H fun x H1 => ∃ a xs, x = .ref a ∧ SqT K H1 a xs ∧ ∀ p, H1 p = none → Q (.ref p) (upd H1 p (.tup xs.reverse))
theorem pe_revT {te : TE} {k : Nat} {p1 p2 p3 : Pos} (he : PE X e te) : PE X (.Subscript e (.Slice none none (some (.UnaryOp .USub (.Constant (.int 1) k p1) p2)) p3) pos) (tRevT X.K te) := by
  refine ⟨fun pins s σ H Q I h => ?_⟩
  refine Subscript_ (thn (he.run pins s σ H _ I h) fun v s1 ⟨x, H1, I1, r1, q1⟩ => ?_)
  obtain ⟨a, xs, ex, hx, q⟩ := q1
  subst ex
  cases r1
  have hst : PO X (some (.UnaryOp .USub (.Constant (.int 1) k p1) p2)) (tPart (tUn (rU fun i => .int (-i)) (tC (.int 1)))) := po_some (pe_un un_neg pe_int)
  refine wpAny_Slice (thn (po_none.run pins s1 σ H1 (fun o H2 => o = none ∧ H2 = H1) I1 ⟨rfl, rfl⟩) fun vl s2 ⟨l, H2, I2, pl, el, e2⟩ => ?_)
  subst el e2
  refine thn (po_none.run pins s2 σ H2 (fun o H3 => o = none ∧ H3 = H2) I2 ⟨rfl, rfl⟩) fun vu s3 ⟨u, H3, I3, pu, eu, e3⟩ => ?_
  subst eu e3
  refine thn (hst.run pins s3 σ H3 (fun o H4 => o = some (-1) ∧ H4 = H3) I3 ⟨1, rfl, -1, rfl, rfl, rfl⟩) fun vs s4 ⟨o, H4, I4, ps, eo, e4⟩ => ?_
  subst eo e4
  cases pl
  cases pu
  have I5 : Inv X pins σ H4 { s4 with heap := s4.heap.push { cls := .type "slice", data := .fields #[.none, .none, vs] } } := I4.kept (t' := s4.toks) fun b ob q => Heap.get?_push_of_some _ q
  obtain ⟨its, r, ht, hz⟩ := I5.tuple hx
  have hlen := r.length
  show wpAny (model X.prog X.w) X.A (subscriptTail e (.Slice none none (some (.UnaryOp .USub (.Constant (.int 1) k p1) p2)) p3) (.ref a) (.ref s4.heap.objs.size)) (EP X pins σ Q) X.xe { s4 with heap := s4.heap.push { cls := .type "slice", data := .fields #[.none, .none, vs] } }
  refine tail_any (ops := [.ref a, .ref s4.heap.objs.size]) ht.typeIs (PyProof.Rows.slot_tuple_getitem.lookup) ?_ (by with_unfolding_all rfl)
  refine HT.getItem_tuple_rev ht (Heap.IsSliceOf.new _ .none .none vs) ps ?_ (by rw [List.size_toArray]; omega)
  refine ⟨.ref _, _, I5.laid (t' := s4.toks) (o := .tup xs.reverse) (fun b ob q => Heap.get?_push_of_some _ q) (Nat.le_refl _) ?_, rfl, q _ (I5.hok.fresh (Nat.le_refl _))⟩
  exact ⟨by rw [List.length_reverse]; exact hz, _, r.reverse, IsTup.new _ _⟩
theorem LE.revT {k : Nat} {p1 p2 p3 : Pos} (he : LE X e te) : LE X (.Subscript e (.Slice none none (some (.UnaryOp .USub (.Constant (.int 1) k p1) p2)) p3) pos) (pRevT te) := by
  refine ⟨fun σv H σ F M Q E tk rm rs h => WE.of (pe_revT WE.pe) ?_⟩
  refine (he.run σv H σ F M _ E tk rm rs h).mono ?_
  rintro v H1 ⟨F1, M1, x, b1, rx, hx⟩
  obtain ⟨xs, e1, h2⟩ := need_of hx
  cases rx with
  | tup q ra =>
    cases e1
    exact ⟨_, _, rfl, sqT_same b1.rm.fr q, fun l nl => ⟨_, M1, _, b1.trans (b1.rm.beh nl), .tup (SqT.of upd_same) (ra.rev.same (b1.rm.beh (o := .tup _) nl).sm), h2⟩⟩
  | _ => cases e1
theorem w_revT {E : PXK} {σ : PSt} {M : Mem} {Q : PQ} (h : te E σ M fun x M1 => kRevT x M1 Q) : pRevT te E σ M Q := h
theorem w_revTt {xs : List PV} {M : Mem} {Q : PQ} (h : Q (.tup xs.reverse) M) : kRevT (.tup xs) M Q := h
/-! ### == of data, lists that may change among them -/
def toM (M : Mem) : PV → Option PyData
  | .ptr a => match M a with | some (.lst xs) => (toDs xs).map .list | _ => none
  | x => toD x
def oEqM : PO2 := fun x y M Q => need (toM M x) fun d => need (toM M y) fun e => d.depth ≤ 64 ∧ e.depth ≤ 64 ∧ Q (.bl (PyData.eqv d e)) M
def oNeM : PO2 := fun x y M Q => need (toM M x) fun d => need (toM M y) fun e => d.depth ≤ 64 ∧ e.depth ≤ 64 ∧ Q (.bl (!PyData.eqv d e)) M
theorem toM_dp {K : PySem.W.Frag} {F H : Hp} {M : Mem} (rm : RM K F M H) {x : PV} {v : V} {d : PyData} (r : R K F x v) (h : toM M x = some d) : Dp K H v d ∧ d.canLay0 = true := by
  cases x with
  | ptr a =>
    have h' : (match M a with | some (.lst xs) => (toDs xs).map PyData.list | _ => none) = some d := h
    cases r
    split at h'
    · rename_i xs hm
      obtain ⟨q, ws, ev, hs, ra⟩ := R.lstI (x := .ptr a) rm (.ptr a) (lstOf_ptr hm)
      cases ev
      cases e : toDs xs with
      | none => rw [e] at h'; cases h'
      | some ds =>
        rw [e] at h'
        cases h'
        obtain ⟨a1, a2⟩ := toDs_dp rm.fr xs ws ds ra e
        exact ⟨.lst hs a1, by simpa [PyData.canLay0] using a2⟩
    · cases h'
  | _ => exact toD_dp rm.fr _ v d r h
theorem LE.eqM (hu : X.A.units + 64 < cLine) (ha : LE X a ta) (hb : LE X b tb) : LE X (.Compare a [.Eq] [b] pos) (pBin oEqM ta tb) := LE.cmp (op_eqD hu) (fun F M H x y xv yv Q Qv rm rx ry h k => by
  obtain ⟨d, e1, h⟩ := need_of h
  obtain ⟨e, e2, h1, h2, h3⟩ := need_of h
  obtain ⟨a1, a2⟩ := toM_dp rm rx e1
  obtain ⟨b1, b2⟩ := toM_dp rm ry e2
  exact ⟨d, e, a1, b1, shaped_of a2 h1, shaped_of b2 h2, k _ _ (LQ.now rm (.bl _) h3)⟩) (nomark _) ha hb
theorem LE.neM (hu : X.A.units + 64 < cLine) (ha : LE X a ta) (hb : LE X b tb) : LE X (.Compare a [.NotEq] [b] pos) (pBin oNeM ta tb) := LE.cmp (op_neD hu) (fun F M H x y xv yv Q Qv rm rx ry h k => by
  obtain ⟨d, e1, h⟩ := need_of h
  obtain ⟨e, e2, h1, h2, h3⟩ := need_of h
  obtain ⟨a1, a2⟩ := toM_dp rm rx e1
  obtain ⟨b1, b2⟩ := toM_dp rm ry e2
  exact ⟨d, e, a1, b1, shaped_of a2 h1, shaped_of b2 h2, k _ _ (LQ.now rm (.bl _) h3)⟩) (nomark _) ha hb
theorem LT.eqM (hu : X.A.units + 64 < cLine) (ha : LE X a ta) (hb : LE X b tb) : LT X (.Compare a [.Eq] [b] pos) (pTest (pBin oEqM ta tb)) := LT.cmp (op_eqD hu) (fun F M H x y xv yv Q Qv rm rx ry h k => by
  obtain ⟨d, e1, h⟩ := need_of h
  obtain ⟨e, e2, h1, h2, h3⟩ := need_of h
  obtain ⟨a1, a2⟩ := toM_dp rm rx e1
  obtain ⟨b1, b2⟩ := toM_dp rm ry e2
  exact ⟨d, e, a1, b1, shaped_of a2 h1, shaped_of b2 h2, k _ _ (LQ.now rm (.bl _) h3)⟩) (nomark _) ha hb
theorem LT.neM (hu : X.A.units + 64 < cLine) (ha : LE X a ta) (hb : LE X b tb) : LT X (.Compare a [.NotEq] [b] pos) (pTest (pBin oNeM ta tb)) := LT.cmp (op_neD hu) (fun F M H x y xv yv Q Qv rm rx ry h k => by
  obtain ⟨d, e1, h⟩ := need_of h
  obtain ⟨e, e2, h1, h2, h3⟩ := need_of h
  obtain ⟨a1, a2⟩ := toM_dp rm rx e1
  obtain ⟨b1, b2⟩ := toM_dp rm ry e2
  exact ⟨d, e, a1, b1, shaped_of a2 h1, shaped_of b2 h2, k _ _ (LQ.now rm (.bl _) h3)⟩) (nomark _) ha hb
/-! ### what was there stays -/
def Ext (M M' : Mem) : Prop := ∀ b, M b ≠ none → M' b = M b
theorem Ext.refl {M : Mem} : Ext M M := fun _ _ => rfl
theorem Ext.put {M : Mem} {p : Addr} {o : MO} (h : M p = none) : Ext M (M.put p o) := fun b hb => put_ne fun e => hb (by rw [e]; exact h)
theorem Ext.trans {M M1 M2 : Mem} (a : Ext M M1) (b : Ext M1 M2) : Ext M M2 := fun c hc => by rw [b c (by rw [a c hc]; exact hc), a c hc]
end
end PL
set_option Elab.async false
set_option linter.all false
set_option maxRecDepth 100000
namespace SrtO
open PySem PySem.Spec PyProof.Rows
section
variable {prog : Program} {w : World} {A : Around} {E : Value → Shared → Prop} {s : Shared}
theorem collect_tup {l : Addr} {vs : List Value} {Q : List Value → Shared → Prop} (hl : IsTup s.heap l vs.toArray)
    (h : Q vs { s with heap := (s.heap.push (seqObj "list" #[] 0)).update s.heap.objs.size (Obj.mapSeq (· ++ vs.toArray)) }) (hsz : vs.length ≤ sizeLine) :
    wpAny (model prog w) A (collect (.ref l)) Q E s := by
  obtain ⟨o, ho, hc, n, hd⟩ := id hl
  unfold collect
  refine wpAny_bind (wpAny_runValue (codeAny_builtin entry_proto_collect' ?_))
  show wpAny _ _ (do again (.builtin "list.__iadd__" ⟨[← newList [], .ref l], []⟩)) _ _ s
  refine wpAny_bind (wpAny_newList (wpAny_pure ⟨Code.quiet_builtin _ (by decide +kernel), codeAny_builtin entry_list_iadd' ?_⟩))
  show wpAny _ _ (Builtin.List.listExtendWith (.ref s.heap.objs.size) (.ref l) (.ref s.heap.objs.size)) _ _ { s with heap := s.heap.push (seqObj "list" #[] 0) }
  unfold Builtin.List.listExtendWith
  have ho' : (s.heap.push (seqObj "list" #[] 0)).get? l = some o := Heap.get?_push_of_some _ ho
  refine wpAny_bind (wpAny_typeOf (T := "tuple") ⟨o, ho', hc⟩ ?_)
  have ht : (Value.type "tuple" == Value.type "tuple") = true := by rfl
  rw [if_pos (by rw [ht]; simp)]
  refine wpAny_bind (listItems_at ho' hd ?_)
  refine wpAny_bind (listItems_at (xs := #[]) (n := 0) (Heap.get?_push_size _ rfl) rfl ?_)
  rw [if_neg (by simp)]
  refine wpAny_bind (listUpdate_at (xs := #[]) (n := 0) (Heap.get?_push_size _ rfl) rfl ?_ (Nat.zero_le _) (by show (#[] ++ vs.toArray).size ≤ sizeLine + 1; simp only [Array.size_append, List.size_toArray, List.length_nil]; omega))
  refine wpAny_pure ?_
  show wpAny (model prog w) A (do
      let o ← load s.heap.objs.size
      match o.data with
      | .seq xs _ => pure xs.toList
      | _ => unsupported "internal:collect") Q E { s with heap := (s.heap.push (seqObj "list" #[] 0)).update s.heap.objs.size (Obj.mapSeq (· ++ vs.toArray)) }
  refine wpAny_bind (wpAny_load (get?_update_seq (Heap.get?_push_size _ rfl) _) ?_)
  show wpAny _ _ (pure ((#[] : Array Value) ++ vs.toArray).toList) Q E _
  rw [show ((#[] : Array Value) ++ vs.toArray).toList = vs by simp]
  exact wpAny_pure h
theorem sorted_ordT {l : Addr} {vs : List Value} {ltv : Value → Value → Bool} {Q : Value → Shared → Prop} (O : Swo ltv) (hl : IsTup s.heap l vs.toArray) (hz : vs.length ≤ sizeLine)
    (hS : 2 ≤ vs.length → ∀ (h₁ : Heap) (a : Addr), h₁.get? a = some (seqObj "list" vs.toArray 0) → (∀ b o, s.heap.get? b = some o → b ≠ a ∧ h₁.get? b = some o) → SortableO prog w A.in1.in1 { s with heap := h₁ } a vs ltv)
    (h : ∀ out : List Value, Srtd ltv out → Stb ltv out vs → Q (.ref (s.heap.objs.size + 1)) { s with heap := sortedAll s.heap vs out.toArray }) :
    wpAny (model prog w) A (call (.builtin "sorted") [.ref l]) Q E s := by
  refine Calls.call_function_entry kind_sorted plain_sorted entry_sorted (args_sorted1 _) ?_
  unfold Builtin.«sorted»
  refine wpAny_bind (m := checkCount "sorted" 1 1 _) (wpAny_pure ?_)
  refine wpAny_bind (collect_tup hl ?_ hz)
  refine wpAny_bind (wpAny_newList ?_ hz)
  have hsz : ((s.heap.push (seqObj "list" #[] 0)).update s.heap.objs.size (Obj.mapSeq (· ++ vs.toArray))).objs.size = s.heap.objs.size + 1 := by
    rw [Heap.size_update, size_push']
  have hoL : (((s.heap.push (seqObj "list" #[] 0)).update s.heap.objs.size (Obj.mapSeq (· ++ vs.toArray))).push (seqObj "list" vs.toArray 0)).get? (s.heap.objs.size + 1) = some (seqObj "list" vs.toArray 0) := by
    rw [← hsz]; exact Heap.get?_push_size _ rfl
  have keep : ∀ b o, s.heap.get? b = some o → b ≠ s.heap.objs.size + 1 ∧ (((s.heap.push (seqObj "list" #[] 0)).update s.heap.objs.size (Obj.mapSeq (· ++ vs.toArray))).push (seqObj "list" vs.toArray 0)).get? b = some o := fun b o q => by
    have hlt : b < s.heap.objs.size := Heap.lt_size q
    refine ⟨Nat.ne_of_lt (Nat.lt_succ_of_lt hlt), Heap.get?_push_of_some _ ?_⟩
    rw [Heap.get?_update_ne _ _ _ _ (Nat.ne_of_lt hlt)]
    exact Heap.get?_push_of_some _ q
  show wpAny _ _ _ _ _ { s with heap := ((s.heap.push (seqObj "list" #[] 0)).update s.heap.objs.size (Obj.mapSeq (· ++ vs.toArray))).push (seqObj "list" vs.toArray 0) }
  rw [hsz]
  refine wpAny_bind (wpAny_holding (wpAny_call_entry slot_list_sort ⟨_, hoL, rfl⟩ entry_list_sort (list_sort_ord O hoL hz (fun h2 => hS h2 _ _ hoL keep) fun out hs hb => ⟨_, rfl, ?_⟩) (args_list_sort _)))
  exact wpAny_pure ⟨_, rfl, h out hs hb⟩
end
end SrtO
namespace PL
open PySem PySem.Spec PyProof.Rows L2
section
variable {X : Cx} {a b c e : Expr} {ta tb tc te to : PTE} {pos p : Pos} {es : List Expr} {t : PTA} {x : Str}
def rSortedT (K : PySem.W.Frag) : List V → Hp → VK → Prop := fun vs H Q => ∃ (a : Addr) (ns : List Int), vs = [V.ref a] ∧ SqT K H a (ns.map V.int) ∧
  ∀ (ns' : List Int) (p : Addr), ns'.Perm ns → ns'.Pairwise (· ≤ ·) → H p = none → Q (.ref p) (upd H p (.lst (ns'.map V.int)))
theorem cr_sortedT' : CallR X (.builtin "sorted") (rSortedT X.K) := by
  intro pins s σ H vs us Q I r h
  obtain ⟨a, ns, rfl, hs, q⟩ := h
  obtain ⟨its, rv, hl, hz⟩ := I.tuple hs
  rw [Vals.ref1 r]
  have hi := rv.ints
  refine SrtO.sorted_ordT SrtO.swo_int hl (by rw [← rv.length]; exact hz) (fun h2 h₁ a' _ _ => SrtO.ints_sortable hi h2) fun out h1 h2 => ?_
  obtain ⟨k1, k2, k3⟩ := SrtO.ints_out hi h1 h2
  obtain ⟨ep, he'⟩ := PyProof.Rows.sortedAll_at s.heap its out.toArray
  have hlen : ((out.map SrtO.iv).map V.int).length ≤ sizeLine := by
    rw [List.length_map, k2.length_eq]
    rw [List.length_map] at hz
    exact hz
  exact ⟨.ref _, upd H (s.heap.objs.size + 1) (.lst ((out.map SrtO.iv).map V.int)), I.laid (t' := s.toks) (fun _ _ => PyProof.Rows.sortedAll_old) (Nat.le_succ _) ⟨hlen, out, ep, vals_of_ints k1, he'⟩, rfl, q _ _ k2 k3 (I.hok.fresh (Nat.le_succ _))⟩
def kSortT (x : PV) (M : Mem) (Q : PQ) : Prop := need (tupF x) fun xs => need (intsOf xs) fun ns => ∀ ns' : List Int, ns'.Perm ns → ns'.Pairwise (· ≤ ·) → Q (.lst (ns'.map .int)) M
theorem LE.sortedT (hg : Gl X "sorted") (hm : X.mg "sorted" = none) (ha : LA X [e] t) (he : starEach [e] X.env = (false, eval e X.env) :: starEach [] X.env := by rfl) : LE X (.Call (.Name "sorted" p) [e] [] pos) (pCallB (on1 kSortT) t) := by
  refine LE.callB cr_sortedT' (fun F M H xs vs Q Qv rm rx h k => ?_) hg hm (by decide +kernel) ha (he := he)
  obtain ⟨x, ex, h1⟩ := on1_of h
  subst ex
  obtain ⟨v, ev, rx1⟩ := rx.one
  subst ev
  obtain ⟨ys, e1, h2⟩ := need_of h1
  obtain ⟨ns, e2, h3⟩ := need_of h2
  cases rx1 with
  | tup q ra =>
    cases e1
    rw [intsOf_eq e2] at ra
    have hs := sqT_same rm.fr q
    rw [ra.intsI] at hs
    exact ⟨_, ns, rfl, hs, fun ns' l h5 h6 nl => k _ _ ⟨_, M, _, rm.beh nl, .lst upd_same (rall_intsV ns'), h3 ns' h5 h6⟩⟩
  | _ => cases e1
theorem w_sortT {xs : List PV} {ns : List Int} {M : Mem} {Q : PQ} (e2 : intsOf xs = some ns) (h : ∀ ns' : List Int, ns'.Perm ns → ns'.Pairwise (· ≤ ·) → Q (.lst (ns'.map .int)) M) : kSortT (.tup xs) M Q := need_by (a := xs) rfl (need_by e2 h)
end
end PL
set_option Elab.async false
set_option linter.all false
set_option maxRecDepth 100000
namespace PL
open PySem PySem.Spec PyProof.Rows L2
section
variable {X : Cx} {a b c e : Expr} {ta tb tc te to : PTE} {pos p : Pos} {es : List Expr} {t : PTA} {x : Str}
/-! ### xs + ys of lists, those that may change among them -/
def lstM (M : Mem) : PV → Option (List PV)
  | .lst xs => some xs
  | .ptr a => match M a with | some (.lst xs) => some xs | _ => none
  | _ => none
theorem lstM_ptr {M : Mem} {a : Addr} {xs : List PV} (h : M a = some (.lst xs)) : lstM M (.ptr a) = some xs := by
  show (match M a with | some (.lst xs) => some xs | _ => none) = some xs
  rw [h]
theorem R.lstM {K : PySem.W.Frag} {F H : Hp} {M : Mem} {x : PV} {v : V} {xs : List PV} (rm : RM K F M H) (r : R K F x v) (h : lstM M x = some xs) : ∃ a vs, v = .ref a ∧ H a = some (.lst vs) ∧ RAll K F xs vs := by
  cases r with
  | lst e q => cases h; exact ⟨_, _, rfl, rm.fr _ _ e, q⟩
  | ptr a =>
    cases hm : M a with
    | none =>
      have h' : (match M a with | some (.lst xs) => some xs | _ => none) = some xs := h
      rw [hm] at h'
      cases h'
    | some m =>
      have h' : (match M a with | some (.lst xs) => some xs | _ => none) = some xs := h
      rw [hm] at h'
      cases m with
      | lst ys =>
        cases h'
        obtain ⟨u, e, ru⟩ := rm.mu _ _ hm
        cases ru with
        | lst ru => exact ⟨_, _, rfl, e, ru⟩
      | _ => cases h'
  | _ => cases h
def oAddL : PO2 := fun x y M Q => need (lstM M x) fun xs => need (lstM M y) fun ys => xs.length + ys.length ≤ sizeLine ∧ Q (.lst (xs ++ ys)) M
theorem LE.addL (ha : LE X a ta) (hb : LE X b tb) : LE X (.BinOp a .Add b pos) (pBin oAddL ta tb) := by
  refine LE.bin op_cat (fun F M H x y xv yv Q Qv rm rx ry h k => ?_) ha hb
  obtain ⟨xs, e1, h⟩ := need_of h
  obtain ⟨ys, e2, h⟩ := need_of h
  obtain ⟨a', vs, ev, hs, ra⟩ := R.lstM rm rx e1
  obtain ⟨b', ws, ew, hs2, rb⟩ := R.lstM rm ry e2
  subst ev ew
  exact ⟨_, _, vs, ws, rfl, rfl, hs, hs2, by rw [← ra.length, ← rb.length]; exact h.1, fun p np => k _ _ ⟨_, M, _, rm.beh np, .lst upd_same ((ra.append rb).same (rm.beh (o := .lst (vs ++ ws)) np).sm), h.2⟩⟩
theorem w_addLs {x y : PV} {xs ys : List PV} {M : Mem} {Q : PQ} (e1 : lstM M x = some xs) (e2 : lstM M y = some ys) (c : xs.length + ys.length ≤ sizeLine) (h : Q (.lst (xs ++ ys)) M) : oAddL x y M Q := need_by e1 (need_by e2 ⟨c, h⟩)
/-! ### xs += ys of a list that may change -/
def oExt : PO2 := fun x y M Q => match x with
  | .ptr p => match M p with
    | some (.lst xs) => need (lstM M y) fun ys => xs.length + ys.length ≤ sizeLine ∧ Q (.ptr p) (M.put p (.lst (xs ++ ys)))
    | _ => False
  | _ => False
theorem pop_ext {K : PySem.W.Frag} : POp K rExt2 oExt := by
  intro F M H x y xv yv Q Qv rm rx ry h k
  unfold oExt at h
  split at h
  · rename_i p
    split at h
    · rename_i xs hm
      obtain ⟨ys, e2, h⟩ := need_of h
      obtain ⟨b', ws, ew, hs2, rb⟩ := R.lstM rm ry e2
      obtain ⟨u, e3, ru⟩ := rm.mu _ _ hm
      cases rx
      cases ru with
      | lst ru =>
        refine ⟨p, b', _, _, rfl, ew, e3, hs2, by rw [← ru.length, ← rb.length]; exact h.1, k _ _ ⟨F, _, _, rm.behWrite (o := .lst _) hm (.lst (ru.append rb)), .ptr p, h.2⟩⟩
    · exact h.elim
  · exact h.elim
theorem LS.augExt (i : Nat) {pos' : Pos} (hN : X.N.Nodup) (he : LE X e te) (hi : X.N[i]? = some x := by rfl) (hx : Loc X.env.scope x := by first | exact .inl rfl | exact .inr rfl)
    (hf : X.fn x = true ∨ X.env.scope.names.lookup x = some .local := by first | exact .inl rfl | exact .inr rfl) : LS X (.AugAssign (.Name x pos') .Add e pos) (pAug i oExt te) := LS.aug i iop_ext pop_ext hN he hi hx hf
theorem w_ext {p : Addr} {y : PV} {xs ys : List PV} {M : Mem} {Q : PQ} (e1 : M p = some (.lst xs)) (e2 : lstM M y = some ys) (c : xs.length + ys.length ≤ sizeLine) (h : Q (.ptr p) (M.put p (.lst (xs ++ ys)))) : oExt (.ptr p) y M Q := by
  show (match M p with | some (.lst xs) => _ | _ => False)
  rw [e1]
  exact need_by e2 ⟨c, h⟩
end
/-! ### max(xs) of a list of ints -/
section
variable {prog : Program} {w : World} {A : Around} {E : Value → Shared → Prop} {s : Shared} {l : Addr}
theorem max_lstRaw {its : List Value} {ns : List Int} {Q : Value → Shared → Prop} (hh : A.handled = none) (hl : s.heap.IsList l its.toArray) (hi : IntsAre its ns) (hne : 0 < ns.length)
    (h : ∀ h' tk m t', (∀ b o, s.heap.get? b = some o → h'.get? b = some o) → m ∈ ns → (∀ a, a ∈ ns → a ≤ m) → Q (.int m t') { s with heap := h', toks := tk }) : wpAny (model prog w) A (call (.builtin "max") [.ref l]) Q E s := by
  obtain ⟨xs, e⟩ := hi.allInts.items
  have hn : numsOf (intItems xs).toList = ns := by rw [← e]; exact hi.numsOf
  rw [nums_intItems] at hn
  subst hn
  rw [e] at hl
  have hsz : 0 < xs.size := by simpa using hne
  have hlt : l < s.heap.objs.size := by
    obtain ⟨_, q, _⟩ := hl
    exact Heap.lt_size q
  have push1 : ∀ b o, s.heap.get? b = some o → (s.heap.push { cls := .type "list_iterator", data := .fields #[.ref l, .int 0 0] }).get? b = some o := fun b o q => Heap.get?_push_of_some _ q
  refine call_max_walk (wpAny_pyIter_list hl ?_)
  refine ⟨_, _, _, _, _, _, _, rfl, Walks.list (A := A.in1) hh _ l (Nat.ne_of_lt hlt) (intItems xs), ⟨⟨_, Heap.get?_push_size _ rfl, rfl, rfl⟩, hl.at fun o e => push1 l o e⟩, fun b hb => ?_, by simpa [intItems] using hsz, CmpOf.ints_gt (numAt xs) (fun _ _ => intItems_at), fun v h' tk hP hk => ?_⟩
  · show b < (s.heap.push _).objs.size
    rw [Heap.size_push]
    have hb2 : b = s.heap.objs.size ∨ b = l := by simpa using hb
    rcases hb2 with e1 | e1
    · rw [e1]; exact Nat.lt_succ_self _
    · rw [e1]; exact Nat.lt_succ_of_lt hlt
  · obtain ⟨t, rfl⟩ := intItems_at (by simpa [intItems] using hP)
    obtain ⟨h1, h2⟩ := argBest_gt (numAt xs) (xs.size - 1)
    refine h h' tk _ t (fun b o q => hk b o (fun hm => ?_) (push1 b o q)) ?_ fun a ha => ?_
    · have : b = s.heap.objs.size := by simpa using hm
      exact absurd (this ▸ Heap.lt_size q) (Nat.lt_irrefl _)
    · rw [numAt_eq]; exact PySem.getD_mem (by rw [List.length_map, Array.length_toList]; exact Nat.lt_of_le_of_lt h1 (by omega))
    · obtain ⟨j, hj, rfl⟩ := mem_getD ha
      have hj' : j < xs.size := by simpa using hj
      rw [← numAt_eq]; exact h2 j (by omega)
end
def kMaxL (x : PV) (M : Mem) (Q : PQ) : Prop := need (lstOf M x) fun xs => need (intsOf xs) fun ns => 0 < ns.length ∧ ∀ m, m ∈ ns → (∀ y, y ∈ ns → y ≤ m) → Q (.int m) M
section
variable {X : Cx} {a b c e : Expr} {ta tb tc te : PTE} {pos p p2 pos2 : Pos} {es : List Expr} {t : PTA} {x : Str}
theorem cr_maxL (hc : X.calm = true) : CallR X (.builtin "max") (fun vs H Q => ∃ (a : Addr) (ns : List Int), vs = [V.ref a] ∧ SqL X.K H a (ns.map V.int) ∧ 0 < ns.length ∧ ∀ m, m ∈ ns → (∀ y, y ∈ ns → y ≤ m) → Q (.int m) H) := by
  rintro pins s σ H vs us Q I r ⟨a, ns, ev, hs, hne, q⟩
  subst ev
  obtain ⟨its, rv, hl, _⟩ := I.list hs
  rw [Vals.ref1 r]
  exact max_lstRaw (I.ok.hd hc) hl.isList (intsAre_of rv) hne fun h' tk m t' hk h1 h2 => ⟨.int _, H, I.kept hk, ⟨_, rfl⟩, q m h1 h2⟩
theorem LE.maxL (hc : X.calm = true) (hg : Gl X "max") (hm : X.mg "max" = none) (ha : LA X [e] t) (he : starEach [e] X.env = (false, eval e X.env) :: starEach [] X.env := by rfl) : LE X (.Call (.Name "max" p) [e] [] pos) (pCallB (on1 kMaxL) t) := by
  refine LE.callB (cr_maxL hc) (fun F M H xs vs Q Qv rm rx h k => ?_) hg hm (by decide +kernel) ha (he := he)
  obtain ⟨x, ex, h1⟩ := on1_of h
  subst ex
  obtain ⟨v, ev, rx1⟩ := rx.one
  subst ev
  obtain ⟨ys, e1, h2⟩ := need_of h1
  obtain ⟨ns, e2, h3, h4⟩ := need_of h2
  obtain ⟨q, ws, ev, hs, ra⟩ := rx1.lstI rm e1
  subst ev
  rw [intsOf_eq e2] at ra
  rw [ra.intsI] at hs
  exact ⟨_, ns, rfl, hs, h3, fun m h5 h6 => k _ _ (LQ.now rm (.int _) (h4 m h5 h6))⟩
end
end PL
set_option Elab.async false
set_option linter.all false
set_option maxRecDepth 100000
namespace PL
open PySem PySem.Spec PyProof.Rows L2
section
variable {X : Cx} {a b c e tg : Expr} {ta tb tc te to : PTE} {pos p : Pos} {es : List Expr} {t : PTA} {x : Str}
/-! ### shifts and bits -/
abbrev oShl := oI CPow fun i j => .int (i * 2 ^ j.toNat)
abbrev oShr := oI (fun _ j => 0 ≤ j) fun i j => .int (i / 2 ^ j.toNat)
abbrev oBand := oI0 fun i j => .int (Builtin.bitAnd i j)
abbrev oBor := oI0 fun i j => .int (Builtin.bitOr i j)
abbrev oBxor := oI0 fun i j => .int (Builtin.bitXor i j)
theorem LE.shl (ha : LE X a ta) (hb : LE X b tb) : LE X (.BinOp a .LShift b pos) (pBin oShl ta tb) := LE.bin op_shl (pop_I fun _ _ _ => .int _) ha hb
theorem LE.shr (ha : LE X a ta) (hb : LE X b tb) : LE X (.BinOp a .RShift b pos) (pBin oShr ta tb) := LE.bin op_shr (pop_I fun _ _ _ => .int _) ha hb
theorem LE.band (ha : LE X a ta) (hb : LE X b tb) : LE X (.BinOp a .BitAnd b pos) (pBin oBand ta tb) := LE.bin op_and (pop_I0 fun _ _ _ => .int _) ha hb
theorem LE.bor (ha : LE X a ta) (hb : LE X b tb) : LE X (.BinOp a .BitOr b pos) (pBin oBor ta tb) := LE.bin op_or (pop_I0 fun _ _ _ => .int _) ha hb
theorem LE.bxor (ha : LE X a ta) (hb : LE X b tb) : LE X (.BinOp a .BitXor b pos) (pBin oBxor ta tb) := LE.bin op_xor (pop_I0 fun _ _ _ => .int _) ha hb
/-! ### zip of two frozen lists, or of two tuples -/
def zipP (xs ys : List PV) : List PV := (xs.zip ys).map fun p => .tup [p.1, p.2]
theorem zipP_at {xs ys : List PV} {i : Nat} {x y : PV} (e : xs[i]? = some x) (e' : ys[i]? = some y) : (zipP xs ys)[i]? = some (.tup [x, y]) := by
  unfold zipP
  rw [List.getElem?_map, List.zip_eq_zipWith, List.getElem?_zipWith, e, e']
  rfl
theorem stab_zip {K : PySem.W.Frag} {F : Hp} {a b : Addr} {xs ys : List PV} {vs ws : List V} (h : SqL K F a vs) (r : RAll K F xs vs) (h' : SqL K F b ws) (r' : RAll K F ys ws) : Stab K (Itz K a b) F (zipP xs ys) := by
  intro i F' M H sm rm
  have hH : SqL K H a vs := rm.fr.seq (sm.seq h)
  have hH' : SqL K H b ws := rm.fr.seq (sm.seq h')
  have hl : (zipP xs ys).length = min xs.length ys.length := by unfold zipP; rw [List.length_map, List.length_zip]
  refine ⟨fun hi => ?_, fun hi => ⟨vs, ws, hH, hH', by rw [← r.length, ← r'.length]; omega⟩⟩
  have hi2 := hi
  rw [hl] at hi2
  obtain ⟨v, e, rv⟩ := r.get (List.getElem?_eq_getElem (show i < xs.length by omega))
  obtain ⟨w, e', rw'⟩ := r'.get (List.getElem?_eq_getElem (show i < ys.length by omega))
  refine ⟨⟨vs, ws, v, w, hH, hH', e, e'⟩, fun u H' y => ?_⟩
  obtain ⟨T, v1, w1, rfl, nT, rfl, y1, y2⟩ := y
  have e2 := y1 vs hH
  rw [e] at e2
  cases e2
  have e3 := y2 ws hH'
  rw [e'] at e3
  cases e3
  have eq : (zipP xs ys)[i] = .tup [xs[i], ys[i]] := by
    have z := zipP_at (List.getElem?_eq_getElem (show i < xs.length by omega)) (List.getElem?_eq_getElem (show i < ys.length by omega))
    rw [List.getElem?_eq_getElem hi] at z
    exact Option.some.inj z
  rw [eq]
  exact ⟨_, rm.beh nT, .tup (SqT.of upd_same) (.cons ((rv.same sm).same (rm.beh (o := .tup [v, w]) nT).sm) (.cons ((rw'.same sm).same (rm.beh (o := .tup [v, w]) nT).sm) .nil))⟩
theorem stab_zipT {K : PySem.W.Frag} {F : Hp} {a b : Addr} {xs ys : List PV} {vs ws : List V} (h : SqT K F a vs) (r : RAll K F xs vs) (h' : SqT K F b ws) (r' : RAll K F ys ws) : Stab K (RZ.ItzT K a b) F (zipP xs ys) := by
  intro i F' M H sm rm
  have hH : SqT K H a vs := sqT_same rm.fr (sqT_same sm h)
  have hH' : SqT K H b ws := sqT_same rm.fr (sqT_same sm h')
  have hl : (zipP xs ys).length = min xs.length ys.length := by unfold zipP; rw [List.length_map, List.length_zip]
  refine ⟨fun hi => ?_, fun hi => ⟨vs, ws, hH, hH', by rw [← r.length, ← r'.length]; omega⟩⟩
  have hi2 := hi
  rw [hl] at hi2
  obtain ⟨v, e, rv⟩ := r.get (List.getElem?_eq_getElem (show i < xs.length by omega))
  obtain ⟨w, e', rw'⟩ := r'.get (List.getElem?_eq_getElem (show i < ys.length by omega))
  refine ⟨⟨vs, ws, v, w, hH, hH', e, e'⟩, fun u H' y => ?_⟩
  obtain ⟨T, v1, w1, rfl, nT, rfl, y1, y2⟩ := y
  have e2 := y1 vs hH
  rw [e] at e2
  cases e2
  have e3 := y2 ws hH'
  rw [e'] at e3
  cases e3
  have eq : (zipP xs ys)[i] = .tup [xs[i], ys[i]] := by
    have z := zipP_at (List.getElem?_eq_getElem (show i < xs.length by omega)) (List.getElem?_eq_getElem (show i < ys.length by omega))
    rw [List.getElem?_eq_getElem hi] at z
    exact Option.some.inj z
  rw [eq]
  exact ⟨_, rm.beh nT, .tup (SqT.of upd_same) (.cons ((rv.same sm).same (rm.beh (o := .tup [v, w]) nT).sm) (.cons ((rw'.same sm).same (rm.beh (o := .tup [v, w]) nT).sm) .nil))⟩
def seqK : PV → Option (Bool × List PV)
  | .lst xs => some (false, xs)
  | .scr xs => some (false, xs)
  | .tup xs => some (true, xs)
  | _ => none
def piZ (ta tb : PTE) : PTI := fun E σ M Q => ta E σ M fun x M1 => tb E σ M1 fun y M2 => need (seqK x) fun p => need (seqK y) fun q => p.1 = q.1 ∧ Q (zipP p.2 q.2) M2
theorem R.seqK_lst {K : PySem.W.Frag} {F : Hp} {x : PV} {v : V} {xs : List PV} (r : R K F x v) (h : seqK x = some (false, xs)) : ∃ a vs, v = .ref a ∧ SqL K F a vs ∧ RAll K F xs vs := by
  cases r with
  | lst q s => cases h; exact ⟨_, _, rfl, SqL.of q, s⟩
  | scr q s => cases h; exact ⟨_, _, rfl, q, s⟩
  | _ => cases h
theorem R.seqK_tup {K : PySem.W.Frag} {F : Hp} {x : PV} {v : V} {xs : List PV} (r : R K F x v) (h : seqK x = some (true, xs)) : ∃ a vs, v = .ref a ∧ SqT K F a vs ∧ RAll K F xs vs := by
  cases r with
  | tup q s => cases h; exact ⟨_, _, rfl, q, s⟩
  | _ => cases h
theorem LI.zip {elts : List Expr} {kk : Nat} {tpos : Pos} (hg : Gl X "zip") (hm : X.mg "zip" = none) (ha : LE X a ta) (hb : LE X b tb)
    (hs : starEach [a, b] X.env = (false, eval a X.env) :: starEach [b] X.env := by rfl) (hs2 : starEach [b] X.env = [(false, eval b X.env)] := by rfl) :
    LI X (.Tuple elts kk tpos) (.Call (.Name "zip" p) [a, b] [] pos) (piZ ta tb) := by
  refine ⟨fun σv H σ F M Q E tk rm rs h => WI.of (RZ.pi_zipA hg hm (pa_cons WE.pe (pa_cons WE.pe pa_nil hs2) hs) hs (by rw [hs2]; rfl)) ?_⟩
  refine seq2 ha hb tk rm rs h fun x y xv yv F2 M2 H2 bh rx ry h2 => ?_
  obtain ⟨⟨k1, xs⟩, e1, h3⟩ := need_of h2
  obtain ⟨⟨k2, ys⟩, e2, h4⟩ := need_of h3
  obtain ⟨h5, h6⟩ := h4
  have h5' : k1 = k2 := h5
  subst h5'
  cases k1 with
  | false =>
    obtain ⟨a1, vs, rfl, q1, r1⟩ := rx.seqK_lst e1
    obtain ⟨a2, ws, rfl, q2, r2⟩ := ry.seqK_lst e2
    exact ⟨a1, a2, vs, ws, rfl, .inl ⟨bh.rm.fr.seq q1, bh.rm.fr.seq q2, F2, M2, _, bh, stab_zip q1 r1 q2 r2, h6⟩⟩
  | true =>
    obtain ⟨a1, vs, rfl, q1, r1⟩ := rx.seqK_tup e1
    obtain ⟨a2, ws, rfl, q2, r2⟩ := ry.seqK_tup e2
    exact ⟨a1, a2, vs, ws, rfl, .inr ⟨sqT_same bh.rm.fr q1, sqT_same bh.rm.fr q2, F2, M2, _, bh, stab_zipT q1 r1 q2 r2, h6⟩⟩
/-! ### reversed(range(n)) -/
theorem stab_rev {K : PySem.W.Frag} {F : Hp} {n : Nat} : Stab K (Itc (0 + (((n : Int) - 0).toNat : Nat) - 1) (-1) ((n : Int) - 0).toNat) F (rngP 0 n).reverse := by
  intro i F' M H sm rm
  have en : ((n : Int) - 0).toNat = n := by omega
  rw [en]
  have hl : (rngP 0 n).reverse.length = n := by rw [List.length_reverse, rngP_length]
  refine ⟨fun hi => ?_, fun hi => by rw [hl] at hi; exact hi⟩
  have hn : i < n := by rw [hl] at hi; exact hi
  refine ⟨hn, fun w H' y => ?_⟩
  obtain ⟨rfl, rfl⟩ := y
  refine ⟨F', Beh.refl rm, ?_⟩
  have e : (rngP 0 n).reverse[i] = PV.int (0 + ((n : Nat) : Int) - 1 + (i : Int) * (-1)) := by
    rw [List.getElem_reverse]
    simp only [rngP, List.getElem_map, List.getElem_range, List.length_map, List.length_range]
    congr 1
    omega
  rw [e]
  exact .int _
def piRv (te : PTE) : PTI := fun E σ M Q => te E σ M fun x M1 => match x with | .int j => (0 ≤ j ∧ j < 2 ^ 62) ∧ Q (rngP 0 j.toNat).reverse M1 | _ => False
theorem LI.rvR {p2 pos2 : Pos} (hg : Gl X "reversed") (hm : X.mg "reversed" = none) (hg2 : Gl X "range") (hm2 : X.mg "range" = none) (ha : LE X a ta) (hs : starEach [a] X.env = [(false, eval a X.env)] := by rfl)
    (hs2 : starEach [.Call (.Name "range" p2) [a] [] pos2] X.env = (false, eval (.Call (.Name "range" p2) [a] [] pos2) X.env) :: starEach [] X.env := by rfl) : LI X tg (.Call (.Name "reversed" p) [.Call (.Name "range" p2) [a] [] pos2] [] pos) (piRv ta) := by
  refine ⟨fun σv H σ F M Q E tk rm rs h => WI.of (pi_revR hg hm (prg_1 hg2 hm2 WE.pe hs) hs2) ?_⟩
  refine (ha.run σv H σ F M _ E tk rm rs h).mono ?_
  rintro v H1 ⟨F1, M1, x, b1, rx, hx⟩
  cases rx <;> first
    | exact hx.elim
    | skip
  rename_i j
  obtain ⟨⟨h1, h2⟩, h3⟩ := hx
  obtain ⟨n, rfl⟩ := Int.eq_ofNat_of_zero_le h1
  exact ⟨_, rfl, by omega, by omega, by omega, by omega, F1, M1, _, b1, stab_rev, by rw [Int.toNat_natCast] at h3; exact h3⟩
/-! ### tuple(range(n)) -/
theorem rall_rg {K : PySem.W.Frag} {F : Hp} {j : Int} : RAll K F (rngP 0 j.toNat) (rgV 0 j) := by
  have eq : (j - 0).toNat = j.toNat := by rw [Int.sub_zero]
  unfold rngP rgV
  rw [eq]
  exact rall_rng _
def kTupRg (x : PV) (M : Mem) (Q : PQ) : Prop := match x with | .int j => (-1000000 < j ∧ j < 1000000) ∧ Q (.tup (rngP 0 j.toNat)) M | _ => False
def pTupRg (ta : PTE) : PTE := fun E σ M Q => ta E σ M fun x M1 => kTupRg x M1 Q
theorem LE.tupRg {pr pl : Pos} (hc : X.calm = true) (hg : Gl X "tuple") (hm : X.mg "tuple" = none) (hg2 : Gl X "range") (hm2 : X.mg "range" = none) (ha : LE X a ta) (na : starEach [a] X.env = (false, eval a X.env) :: starEach [] X.env := by rfl)
    (ne : starEach [.Call (.Name "range" pr) [a] [] p] X.env = (false, eval (.Call (.Name "range" pr) [a] [] p) X.env) :: starEach [] X.env := by rfl) :
    LE X (.Call (.Name "tuple" pl) [.Call (.Name "range" pr) [a] [] p] [] pos) (pTupRg ta) := by
  refine ⟨fun σv H σ F M Q E tk rm rs h => WE.of (pe_tupRg hc hg hm (prg_1 hg2 hm2 WE.pe na) ne) ?_⟩
  refine (ha.run σv H σ F M _ E tk rm rs h).mono ?_
  rintro v H1 ⟨F1, M1, x, b1, rx, hx⟩
  cases rx with
  | int j =>
    obtain ⟨⟨h0, h1⟩, hx⟩ := hx
    refine ⟨j, rfl, ?_, fun q nq => ?_⟩
    · exact ⟨by omega, by omega, by omega, by omega, by omega⟩
    · exact ⟨_, _, _, b1.trans (b1.rm.beh nq), .tup (SqT.of upd_same) (rall_rg.same (b1.rm.beh (o := .tup (rgV 0 j)) nq).sm), hx⟩
  | _ => exact hx.elim
theorem w_tupRg {E : PXK} {σ : PSt} {M : Mem} {Q : PQ} (h : ta E σ M fun x M1 => kTupRg x M1 Q) : pTupRg ta E σ M Q := h
/-! ### steps of the walk -/
def kRv (x : PV) (M : Mem) (Q : List PV → Mem → Prop) : Prop := match x with | .int j => (0 ≤ j ∧ j < 2 ^ 62) ∧ Q (rngP 0 j.toNat).reverse M | _ => False
theorem w_rv {E : PXK} {σ : PSt} {M : Mem} {Q : List PV → Mem → Prop} (h : ta E σ M fun x M1 => kRv x M1 Q) : piRv ta E σ M Q := h
theorem w_rvI {j : Int} {M : Mem} {Q : List PV → Mem → Prop} (hj : 0 ≤ j ∧ j < 2 ^ 62) (h : Q (rngP 0 j.toNat).reverse M) : kRv (.int j) M Q := ⟨hj, h⟩
def kZ (x y : PV) (M : Mem) (Q : List PV → Mem → Prop) : Prop := need (seqK x) fun p => need (seqK y) fun q => p.1 = q.1 ∧ Q (zipP p.2 q.2) M
theorem w_z {E : PXK} {σ : PSt} {M : Mem} {Q : List PV → Mem → Prop} (h : ta E σ M fun x M1 => tb E σ M1 fun y M2 => kZ x y M2 Q) : piZ ta tb E σ M Q := h
theorem w_zL {xs ys : List PV} {M : Mem} {Q : List PV → Mem → Prop} (h : Q (zipP xs ys) M) : kZ (.lst xs) (.lst ys) M Q := ⟨rfl, h⟩
theorem w_zT {xs ys : List PV} {M : Mem} {Q : List PV → Mem → Prop} (h : Q (zipP xs ys) M) : kZ (.tup xs) (.tup ys) M Q := ⟨rfl, h⟩
theorem w_shr {i j : Int} {M : Mem} {Q : PQ} (hj : 0 ≤ j) (h : Q (.int (i / 2 ^ j.toNat)) M) : oShr (.int i) (.int j) M Q := ⟨hj, h⟩
theorem w_shl {i j : Int} {M : Mem} {Q : PQ} (hj : 0 ≤ j ∧ j ≤ 1000000 ∧ i.natAbs < 2 ^ 64) (h : Q (.int (i * 2 ^ j.toNat)) M) : oShl (.int i) (.int j) M Q := ⟨hj, h⟩
end
end PL
set_option Elab.async false
set_option linter.all false
set_option maxRecDepth 100000
namespace PL
open PySem PySem.Spec PyProof.Rows L2
/-! ### min(t) of a tuple of ints -/
section
variable {prog : Program} {w : World} {A : Around} {E : Value → Shared → Prop} {s : Shared} {l : Addr}
theorem min_tupRaw {its : List Value} {ns : List Int} {Q : Value → Shared → Prop} (hh : A.handled = none) (hl : s.heap.IsTuple l its.toArray) (hi : IntsAre its ns) (hne : 0 < ns.length)
    (h : ∀ h' tk m t', (∀ b o, s.heap.get? b = some o → h'.get? b = some o) → m ∈ ns → (∀ a, a ∈ ns → m ≤ a) → Q (.int m t') { s with heap := h', toks := tk }) : wpAny (model prog w) A (call (.builtin "min") [.ref l]) Q E s := by
  obtain ⟨xs, e⟩ := hi.allInts.items
  have hn : numsOf (intItems xs).toList = ns := by rw [← e]; exact hi.numsOf
  rw [nums_intItems] at hn
  subst hn
  rw [e] at hl
  have hsz : 0 < xs.size := by simpa using hne
  have hlt : l < s.heap.objs.size := by
    obtain ⟨_, q, _⟩ := hl
    exact Heap.lt_size q
  have push1 : ∀ b o, s.heap.get? b = some o → (s.heap.push { cls := .type "tuple_iterator", data := .fields #[.ref l, .int 0 0] }).get? b = some o := fun b o q => Heap.get?_push_of_some _ q
  refine call_min_walk (wpAny_pyIter_tuple hl ?_)
  refine ⟨_, _, _, _, _, _, _, rfl, Walks.tuple (A := A.in1) hh _ l (Nat.ne_of_lt hlt) (intItems xs), ⟨⟨_, Heap.get?_push_size _ rfl, rfl, rfl⟩, hl.push _⟩, fun b hb => ?_, by simpa [intItems] using hsz, CmpOf.ints_lt (numAt xs) (fun _ _ => intItems_at), fun v h' tk hP hk => ?_⟩
  · show b < (s.heap.push _).objs.size
    rw [Heap.size_push]
    have hb2 : b = s.heap.objs.size ∨ b = l := by simpa using hb
    rcases hb2 with e1 | e1
    · rw [e1]; exact Nat.lt_succ_self _
    · rw [e1]; exact Nat.lt_succ_of_lt hlt
  · obtain ⟨t, rfl⟩ := intItems_at (by simpa [intItems] using hP)
    obtain ⟨h1, h2⟩ := argBest_lt (numAt xs) (xs.size - 1)
    refine h h' tk _ t (fun b o q => hk b o (fun hm => ?_) (push1 b o q)) ?_ fun a ha => ?_
    · have : b = s.heap.objs.size := by simpa using hm
      exact absurd (this ▸ Heap.lt_size q) (Nat.lt_irrefl _)
    · rw [numAt_eq]; exact PySem.getD_mem (by rw [List.length_map, Array.length_toList]; exact Nat.lt_of_le_of_lt h1 (by omega))
    · obtain ⟨j, hj, rfl⟩ := mem_getD ha
      have hj' : j < xs.size := by simpa using hj
      rw [← numAt_eq]; exact h2 j (by omega)
end
def kMinT (x : PV) (M : Mem) (Q : PQ) : Prop := need (tupF x) fun xs => need (intsOf xs) fun ns => 0 < ns.length ∧ ∀ m, m ∈ ns → (∀ y, y ∈ ns → m ≤ y) → Q (.int m) M
section
variable {X : Cx} {a b c e : Expr} {ta tb tc te : PTE} {pos p p2 pos2 : Pos} {es : List Expr} {t : PTA} {x : Str}
theorem cr_minT (hc : X.calm = true) : CallR X (.builtin "min") (fun vs H Q => ∃ (a : Addr) (ns : List Int), vs = [V.ref a] ∧ SqT X.K H a (ns.map V.int) ∧ 0 < ns.length ∧ ∀ m, m ∈ ns → (∀ y, y ∈ ns → m ≤ y) → Q (.int m) H) := by
  rintro pins s σ H vs us Q I r ⟨a, ns, ev, hs, hne, q⟩
  subst ev
  obtain ⟨its, rv, hl, _⟩ := I.tuple hs
  rw [Vals.ref1 r]
  exact min_tupRaw (I.ok.hd hc) hl (intsAre_of rv) hne fun h' tk m t' hk h1 h2 => ⟨.int _, H, I.kept hk, ⟨_, rfl⟩, q m h1 h2⟩
theorem LE.minT (hc : X.calm = true) (hg : Gl X "min") (hm : X.mg "min" = none) (ha : LA X [e] t) (he : starEach [e] X.env = (false, eval e X.env) :: starEach [] X.env := by rfl) : LE X (.Call (.Name "min" p) [e] [] pos) (pCallB (on1 kMinT) t) := by
  refine LE.callB (cr_minT hc) (fun F M H xs vs Q Qv rm rx h k => ?_) hg hm (by decide +kernel) ha (he := he)
  obtain ⟨x, ex, h1⟩ := on1_of h
  subst ex
  obtain ⟨v, ev, rx1⟩ := rx.one
  subst ev
  obtain ⟨ys, e1, h2⟩ := need_of h1
  obtain ⟨ns, e2, h3, h4⟩ := need_of h2
  cases rx1 with
  | tup q ra =>
    cases e1
    rw [intsOf_eq e2] at ra
    have hs := sqT_same rm.fr q
    rw [ra.intsI] at hs
    exact ⟨_, ns, rfl, hs, h3, fun m h5 h6 => k _ _ (LQ.now rm (.int _) (h4 m h5 h6))⟩
  | _ => cases e1
end
/-! ### s.join(xs), xs a frozen list or a tuple of texts -/
def strsOf : List PV → Option (List Str)
  | [] => some []
  | .str x :: r => (strsOf r).map (x :: ·)
  | _ :: _ => none
theorem strsOf_eq : ∀ {xs : List PV} {ss : List Str}, strsOf xs = some ss → xs = ss.map PV.str
  | [], ss, h => by cases h; rfl
  | .str x :: r, ss, h => by
    cases e : strsOf r with
    | none => simp only [strsOf, e] at h; cases h
    | some t =>
      simp only [strsOf, e] at h
      cases h
      rw [strsOf_eq e]
      rfl
  | .non :: _, _, h => by cases h
  | .bl _ :: _, _, h => by cases h
  | .int _ :: _, _, h => by cases h
  | .ty _ :: _, _, h => by cases h
  | .tup _ :: _, _, h => by cases h
  | .lst _ :: _, _, h => by cases h
  | .scr _ :: _, _, h => by cases h
  | .obj _ _ :: _, _, h => by cases h
  | .ptr _ :: _, _, h => by cases h
theorem RAll.strs {K : PySem.W.Frag} {F : Hp} : ∀ {ss : List Str} {vs : List V}, RAll K F (ss.map PV.str) vs → vs = ss.map V.str
  | [], _, .nil => rfl
  | x :: r, _, .cons h t => by
    cases h
    rw [RAll.strs t]
    rfl
def kStr (x : PV) (k : Str → Prop) : Prop := match x with | .str a => k a | _ => False
def kJoin (a : Str) (y : PV) (M : Mem) (Q : PQ) : Prop := need (seqK y) fun p => need (strsOf p.2) fun ss => (ss.map (·.length)).sum + ss.length * a.length ≤ 16777216 ∧ Q (.str (Str.join a ss)) M
def pJoin (to te : PTE) : PTE := fun E σ M Q => to E σ M fun x M1 => kStr x fun a => te E σ M1 fun y M2 => kJoin a y M2 Q
section
variable {X : Cx} {o e : Expr} {to te : PTE} {pos apos : Pos}
theorem LE.join (ho : LE X o to) (he : LE X e te) (hs : starEach [e] X.env = [(false, eval e X.env)] := by rfl) (hbase : attributeBase o "join" X.env (eval o X.env) = eval o X.env := by rfl) (hline : (apos.endLine == pos.line) = true := by rfl) :
    LE X (.Call (.Attribute o "join" apos) [e] [] pos) (pJoin to te) := by
  refine ⟨fun σv H σ F M Q E tk rm rs h => WE.of (pe_join WE.pe WE.pe hs hbase hline) ?_⟩
  refine (ho.run σv H σ F M _ E tk rm rs h).mono ?_
  rintro v H1 ⟨F1, M1, x, b1, rx, hx⟩
  cases rx with
  | str a =>
    refine ⟨⟨a, rfl⟩, (he.run σv H1 σ F1 M1 _ E (tk.tr b1) b1.rm (rs.same b1.sm) hx).mono ?_⟩
    rintro w H2 ⟨F2, M2, y, b2, ry, h2⟩
    obtain ⟨⟨k, xs⟩, e1, h3⟩ := need_of h2
    obtain ⟨ss, e2, h4, h5⟩ := need_of h3
    have e3 := strsOf_eq e2
    dsimp only at e3
    subst e3
    cases k with
    | false =>
      obtain ⟨p, vs, rfl, q1, r1⟩ := ry.seqK_lst e1
      rw [r1.strs] at q1
      exact ⟨a, p, ss, rfl, rfl, .inl (b2.rm.fr.seq q1), h4, LQ.tr b1 (LQ.tr b2 (LQ.now b2.rm (.str _) (by rw [TL.join_eq]; exact h5)))⟩
    | true =>
      obtain ⟨p, vs, rfl, q1, r1⟩ := ry.seqK_tup e1
      rw [r1.strs] at q1
      exact ⟨a, p, ss, rfl, rfl, .inr (sqT_same b2.rm.fr q1), h4, LQ.tr b1 (LQ.tr b2 (LQ.now b2.rm (.str _) (by rw [TL.join_eq]; exact h5)))⟩
  | _ => exact hx.elim
theorem w_join {E : PXK} {σ : PSt} {M : Mem} {Q : PQ} (h : to E σ M fun x M1 => kStr x fun a => te E σ M1 fun y M2 => kJoin a y M2 Q) : pJoin to te E σ M Q := h
theorem w_kStr {a : Str} {k : Str → Prop} (h : k a) : kStr (.str a) k := h
theorem w_kJoin {a : Str} {xs : List PV} {ss : List Str} {M : Mem} {Q : PQ} (e : strsOf xs = some ss) (c : (ss.map (·.length)).sum + ss.length * a.length ≤ 16777216) (h : Q (.str (Str.join a ss)) M) : kJoin a (.lst xs) M Q := need_by rfl (need_by e ⟨c, h⟩)
end
end PL
set_option Elab.async false
set_option linter.all false
set_option maxRecDepth 100000
/-! TM: ordinary tape machines, as plain Lean -/
namespace TM
open PySem PySem.Spec PyProof.Rows L2 PL

abbrev TRow := Option (Int × Int × Int)
def rowP : TRow → PV
  | none => .non
  | some (w, mv, t) => .tup [.int w, .int mv, .int t]
def RowOk (m s : Int) : TRow → Prop
  | none => True
  | some (w, mv, t) => (0 ≤ w ∧ w < m) ∧ (mv = 1 ∨ mv = -1) ∧ (0 ≤ t ∧ t < s)
structure Mach (m s : Int) (rows : List TRow) : Prop where
  m2 : 2 ≤ m
  m8 : m ≤ 8
  s1 : 1 ≤ s
  s40 : s ≤ 40
  len : (rows.length : Int) = m * s
  ok : ∀ r ∈ rows, RowOk m s r
def tI (xs : List Int) : PV := .tup (xs.map PV.int)
def trimL (ms : List Int) : List Int := (ms.reverse.dropWhile (fun x => decide (x = 0))).reverse
structure Cf where
  q : Int
  l : List Int
  a : Int
  r : List Int
def cfP (c : Cf) : PV := .tup [.int c.q, tI c.l, .int c.a, tI c.r]
structure SideOk (m : Int) (xs : List Int) : Prop where
  mm : ∀ x ∈ xs, 0 ≤ x ∧ x < m
  tr : trimL xs = xs
structure CfOk (m s : Int) (c : Cf) : Prop where
  q0 : 0 ≤ c.q
  qs : c.q < s
  a0 : 0 ≤ c.a
  am : c.a < m
  l : SideOk m c.l
  r : SideOk m c.r
def push (w : Int) (l : List Int) : List Int := if w = 0 ∧ l = [] then [] else w :: l
def hd (l : List Int) : Int := l.headD 0
def rowAt (rows : List TRow) (m q a : Int) : TRow := (rows[(q * m + a).toNat]?).getD none
def stepM (rows : List TRow) (m : Int) (c : Cf) : Option Cf := match rowAt rows m c.q c.a with
  | none => none
  | some (w, mv, t) => if mv = 1 then some ⟨t, push w c.l, hd c.r, c.r.tail⟩ else some ⟨t, c.l.tail, hd c.l, push w c.r⟩
def runM (rows : List TRow) (m : Int) : Nat → Cf → Cf × Nat
  | 0, c => (c, 0)
  | n + 1, c => match stepM rows m c with
    | none => (c, 0)
    | some d => let (e, k) := runM rows m n d; (e, k + 1)
def optP : Option Cf → PV
  | none => .non
  | some c => cfP c
def tapeF (m s : Int) (rows : List TRow) : List (Str × PV) := [(Str.ofString "marks", .int m), (Str.ofString "states", .int s), (Str.ofString "_rows", .lst (rows.map rowP))]

/-! ### trimming -/
theorem trimL_nil : trimL [] = [] := rfl
theorem trimL_snoc0 (xs : List Int) : trimL (xs ++ [0]) = trimL xs := by
  unfold trimL
  rw [List.reverse_append]
  simp
theorem trimL_snoc (xs : List Int) {x : Int} (h : x ≠ 0) : trimL (xs ++ [x]) = xs ++ [x] := by
  unfold trimL
  rw [List.reverse_append]
  simp [h]
theorem trimL_idem (xs : List Int) : trimL (trimL xs) = trimL xs := by
  unfold trimL
  rw [List.reverse_reverse]
  congr 1
  generalize xs.reverse = ys
  induction ys with
  | nil => rfl
  | cons y r ih =>
    rw [List.dropWhile_cons]
    split
    · exact ih
    · rename_i h
      rw [List.dropWhile_cons, if_neg h]
theorem mem_trimL {xs : List Int} {x : Int} (h : x ∈ trimL xs) : x ∈ xs := by
  unfold trimL at h
  rw [List.mem_reverse] at h
  exact List.mem_reverse.mp ((List.dropWhile_suffix _).subset h)
theorem trimL_len (xs : List Int) : (trimL xs).length ≤ xs.length := by
  unfold trimL
  rw [List.length_reverse]
  exact Nat.le_trans ((List.dropWhile_suffix _).length_le) (by rw [List.length_reverse]; exact Nat.le_refl _)
theorem SideOk.trim {m : Int} {xs : List Int} (h : ∀ x ∈ xs, 0 ≤ x ∧ x < m) : SideOk m (trimL xs) := ⟨fun x hx => h x (mem_trimL hx), trimL_idem xs⟩
/-- it is trimmed: it is empty, or its last is no blank -/
theorem trimL_eq_iff (xs : List Int) : trimL xs = xs ↔ ∀ x, xs.getLast? = some x → x ≠ 0 := by
  rcases List.eq_nil_or_concat xs with rfl | ⟨r, y, rfl⟩
  · simp [trimL]
  · rw [List.concat_eq_append]
    constructor
    · intro h x hx
      rw [List.getLast?_append] at hx
      simp at hx
      subst hx
      intro z
      subst z
      rw [trimL_snoc0] at h
      have := trimL_len r
      rw [h] at this
      simp at this
      omega
    · intro h
      exact trimL_snoc r (h y (by simp))
theorem SideOk.tail {m : Int} {xs : List Int} (h : SideOk m xs) : SideOk m xs.tail := by
  refine ⟨fun x hx => h.mm x (List.mem_of_mem_tail hx), ?_⟩
  rw [trimL_eq_iff]
  have h2 := (trimL_eq_iff xs).mp h.tr
  cases xs with
  | nil => exact h2
  | cons a r =>
    intro x hx
    refine h2 x ?_
    show (a :: r).getLast? = some x
    cases r with
    | nil => cases hx
    | cons b r =>
      rw [List.getLast?_cons_cons]
      exact hx
theorem SideOk.push {m w : Int} {xs : List Int} (h : SideOk m xs) (hw : 0 ≤ w ∧ w < m) : SideOk m (push w xs) := by
  unfold TM.push
  split
  · exact ⟨fun x hx => (nomatch hx), rfl⟩
  · rename_i hn
    refine ⟨fun x hx => ?_, ?_⟩
    · rcases List.mem_cons.mp hx with e | e
      · rw [e]; exact hw
      · exact h.mm x e
    · rw [trimL_eq_iff]
      have h2 := (trimL_eq_iff xs).mp h.tr
      cases xs with
      | nil =>
        intro x hx
        simp at hx
        subst hx
        intro z
        exact hn ⟨z, rfl⟩
      | cons b r =>
        intro x hx
        rw [List.getLast?_cons_cons] at hx
        exact h2 x hx
theorem SideOk.hd {m : Int} {xs : List Int} (h : SideOk m xs) (hm : 0 < m) : 0 ≤ hd xs ∧ hd xs < m := by
  cases xs with
  | nil => exact ⟨Int.le_refl 0, hm⟩
  | cons a r => exact h.mm a List.mem_cons_self
theorem trim_push {m w : Int} {xs : List Int} (h : SideOk m xs) : trimL (w :: xs) = push w xs := by
  unfold TM.push
  by_cases hx : xs = []
  · subst hx
    by_cases hw : w = 0
    · subst hw; rw [if_pos ⟨rfl, rfl⟩]; rfl
    · rw [if_neg (fun z => hw z.1)]
      exact trimL_snoc [] hw
  · rw [if_neg (fun z => hx z.2), trimL_eq_iff]
    have h2 := (trimL_eq_iff xs).mp h.tr
    intro x e
    cases xs with
    | nil => exact absurd rfl hx
    | cons b r =>
      rw [List.getLast?_cons_cons] at e
      exact h2 x e
theorem rowAt_mem {m s q a : Int} {rows : List TRow} (M : Mach m s rows) (hq : 0 ≤ q) (hqs : q < s) (ha : 0 ≤ a) (ham : a < m) :
    (q * m + a).toNat < rows.length ∧ rows[(q * m + a).toNat]? = some (rowAt rows m q a) ∧ RowOk m s (rowAt rows m q a) ∧ 0 ≤ q * m + a := by
  have h0 : 0 ≤ q * m + a := Int.add_nonneg (Int.mul_nonneg hq (by have := M.m2; omega)) ha
  have h1 : q * m + a < m * s := by
    have e1 : (q + 1) * m ≤ s * m := Int.mul_le_mul_of_nonneg_right (by omega) (by have := M.m2; omega)
    have e2 : (q + 1) * m = q * m + m := by rw [Int.add_mul, Int.one_mul]
    have e3 : s * m = m * s := Int.mul_comm s m
    omega
  have hl : (q * m + a).toNat < rows.length := by
    have := M.len
    omega
  have hg : rows[(q * m + a).toNat]? = some rows[(q * m + a).toNat] := List.getElem?_eq_getElem hl
  have hr : rowAt rows m q a = rows[(q * m + a).toNat] := by
    unfold rowAt
    rw [hg]
    rfl
  exact ⟨hl, by rw [hr]; exact hg, by rw [hr]; exact M.ok _ (List.getElem_mem hl), h0⟩
theorem stepM_ok {m s : Int} {rows : List TRow} {c d : Cf} (M : Mach m s rows) (h : CfOk m s c) (e : stepM rows m c = some d) : CfOk m s d := by
  unfold stepM at e
  obtain ⟨_, _, hr, _⟩ := rowAt_mem M h.q0 h.qs h.a0 h.am
  split at e
  · cases e
  · rename_i w mv t hrow
    rw [hrow] at hr
    obtain ⟨hw, hm, ht⟩ := hr
    have hm0 : (0 : Int) < m := by have := M.m2; omega
    split at e
    · cases e
      exact ⟨ht.1, ht.2, (h.r.hd hm0).1, (h.r.hd hm0).2, h.l.push hw, h.r.tail⟩
    · cases e
      exact ⟨ht.1, ht.2, (h.l.hd hm0).1, (h.l.hd hm0).2, h.l.tail, h.r.push hw⟩
/-! ### readings over tuples of ints -/
section
variable {M : Mem} {Q : PQ}
theorem eq_tI {l r : List Int} : oEq (tI l) (tI r) M Q = Q (.bl (decide (l = r))) M := eqP_tI
theorem eq_tI_nil {l : List Int} : oEq (tI l) (.tup []) M Q = Q (.bl (decide (l = []))) M := eqP_tI (ys := [])
theorem sl_tI_tail {l : List Int} : oSl (tI l) (some 1) none M Q = Q (tI l.tail) M := by
  unfold tI
  rw [PL.sl_tup, cutA_map, cutA_from1]
theorem sl_tI_to {l : List Int} {k : Int} (h : 0 ≤ k) : oSl (tI l) none (some k) M Q = Q (tI (l.take k.toNat)) M := by
  unfold tI
  rw [PL.sl_tup, cutA_map, cutA_to _ h]
theorem sl_tI_from {l : List Int} {k : Int} (h : 0 ≤ k) : oSl (tI l) (some k) none M Q = Q (tI (l.drop k.toNat)) M := by
  unfold tI
  rw [PL.sl_tup, cutA_map, cutA_from _ h]
theorem len_tI {l : List Int} : kLen (tI l) M Q = Q (.int l.length) M := by
  unfold tI
  rw [PL.len_tup, List.length_map]
theorem tup_tI {l : List Int} : PL.kTup (tI l) M Q = Q (tI l) M := rfl
theorem ix_tI0 {l : List Int} (h : l ≠ []) : oIx (tI l) (.int 0) M Q = Q (.int (hd l)) M := by
  cases l with
  | nil => exact absurd rfl h
  | cons a r =>
    unfold tI
    rw [PL.ix_tup, at_0]
    rfl
theorem ix_tI {l : List Int} {i : Int} {x : Int} (h : 0 ≤ i) (e : l[i.toNat]? = some x) : oIx (tI l) (.int i) M Q = Q (.int x) M := by
  unfold tI
  rw [PL.ix_tup, at_pos _ h, List.getElem?_map, e]
  rfl
theorem add_tI {l r : List Int} : oAdd (tI l) (tI r) M Q = (l.length + r.length ≤ sizeLine ∧ Q (tI (l ++ r)) M) := by
  show ((l.map PV.int).length + (r.map PV.int).length ≤ sizeLine ∧ Q (.tup (l.map PV.int ++ r.map PV.int)) M) = _
  rw [List.length_map, List.length_map, ← List.map_append]
  rfl
theorem hd_nil : hd [] = 0 := rfl
theorem hd_cons (a : Int) (r : List Int) : hd (a :: r) = a := rfl
end
section
variable {m s : Int} {rows : List TRow}
theorem lk_marks : List.lookup (Str.ofString "marks") (tapeF m s rows) = some (.int m) := rfl
theorem lk_states : List.lookup (Str.ofString "states") (tapeF m s rows) = some (.int s) := rfl
theorem lk_rows : List.lookup (Str.ofString "_rows") (tapeF m s rows) = some (.lst (rows.map rowP)) := rfl
theorem lk_row : List.lookup (Str.ofString "row") (tapeF m s rows) = none := rfl
theorem lk_table : List.lookup (Str.ofString "table") (tapeF m s rows) = none := rfl
theorem lk_begin : List.lookup (Str.ofString "begin") (tapeF m s rows) = none := rfl
theorem lk_step : List.lookup (Str.ofString "step") (tapeF m s rows) = none := rfl
theorem lk_stopped : List.lookup (Str.ofString "stopped") (tapeF m s rows) = none := rfl
theorem lk_run : List.lookup (Str.ofString "run") (tapeF m s rows) = none := rfl
theorem ix_rows {M : Mem} {Q : PQ} {q a : Int} (M0 : Mach m s rows) (hq : 0 ≤ q) (hqs : q < s) (ha : 0 ≤ a) (ham : a < m) : oIx (.lst (rows.map rowP)) (.int (q * m + a)) M Q = Q (rowP (rowAt rows m q a)) M := by
  obtain ⟨_, h2, _, h0⟩ := rowAt_mem M0 hq hqs ha ham
  rw [PL.ix_lst, at_pos _ h0, List.getElem?_map, h2]
  rfl
theorem at_rows {q a : Int} (M0 : Mach m s rows) (hq : 0 ≤ q) (hqs : q < s) (ha : 0 ≤ a) (ham : a < m) : L2.atI (rows.map rowP) (q * m + a) = some (rowP (rowAt rows m q a)) := by
  obtain ⟨_, h2, _, h0⟩ := rowAt_mem M0 hq hqs ha ham
  rw [at_pos _ h0, List.getElem?_map, h2]
  rfl
theorem cmul_ok {q : Int} (M0 : Mach m s rows) (hq : 0 ≤ q) (hqs : q < s) : CMul q m := by
  have := M0.s40
  exact .inl ⟨by omega, by omega⟩
end
/-! ### the count of places from which on something stands -/
def cntL (ms : List Int) : Nat := ((List.range ms.length).filter (fun i => (ms.drop i).any (fun x => decide (0 < x)))).length
theorem cntL_eq : ∀ (n : Nat) (ms : List Int), ms.length = n → (∀ x ∈ ms, 0 ≤ x) → cntL ms = (trimL ms).length
  | 0, ms, h, _ => by
    have : ms = [] := List.eq_nil_of_length_eq_zero h
    subst this
    rfl
  | n + 1, ms, h, hp => by
    rcases List.eq_nil_or_concat ms with e | ⟨r, y, e⟩
    · subst e; rfl
    · rw [List.concat_eq_append] at e
      subst e
      have hr : r.length = n := by simpa using h
      have hy : 0 ≤ y := hp y (by simp)
      have hrp : ∀ x ∈ r, 0 ≤ x := fun x hx => hp x (List.mem_append_left _ hx)
      unfold cntL
      rw [List.length_append]
      show ((List.range (r.length + 1)).filter _).length = _
      by_cases hz : y = 0
      · subst hz
        rw [trimL_snoc0, ← cntL_eq n r hr hrp]
        unfold cntL
        rw [List.range_succ, List.filter_append]
        have e1 : [r.length].filter (fun i => ((r ++ [0]).drop i).any (fun x => decide (0 < x))) = [] := by simp
        rw [e1, List.append_nil]
        congr 1
        apply List.filter_congr
        intro i hi
        have hi : i < r.length := List.mem_range.mp hi
        rw [List.drop_append_of_le_length (by omega), List.any_append]
        simp
      · rw [trimL_snoc r hz, List.length_append, List.filter_eq_self.mpr, List.length_range]
        · rfl
        · intro i hi
          have hi : i < r.length + 1 := List.mem_range.mp hi
          rw [List.drop_append_of_le_length (by omega), List.any_append]
          simp
          right
          omega
theorem take_trimL (ms : List Int) : ms.take (trimL ms).length = trimL ms := by
  have h : trimL ms <+: ms := by
    unfold trimL
    have h := List.dropWhile_suffix (fun x : Int => decide (x = 0)) (l := ms.reverse)
    have h2 := List.reverse_prefix.mpr h
    rw [List.reverse_reverse] at h2
    exact h2
  exact (List.prefix_iff_eq_take.mp h).symm
section
variable {M : Mem} {Q : PQ}
theorem tupRev_tI {l : List Int} : (need (tupF (tI l)) fun xs => Q (.tup xs.reverse) M) = Q (tI l.reverse) M := by
  show Q (.tup (l.map PV.int).reverse) M = _
  rw [← List.map_reverse]
  rfl
theorem maxT_tI {x : Int} {l : List Int} : kMaxT (tI (x :: l)) M Q = ∀ m, m ∈ x :: l → (∀ y, y ∈ x :: l → y ≤ m) → Q (.int m) M := by
  unfold kMaxT
  show need (intsOf ((x :: l).map PV.int)) _ = _
  rw [intsOf_map]
  exact propext ⟨fun h => h.2, fun h => ⟨Nat.succ_pos _, h⟩⟩
end
end TM
set_option Elab.async false
set_option linter.all false
set_option maxRecDepth 100000
namespace My
open PySem PySem.Spec PyProof.Rows L2 PL
def topS (i : Nat) : Stmt := PySem.Challenge.pw_backstair_k51_clean_nets.main.body.getD i (.Pass ⟨0, 0, 0, 0⟩)
abbrev s_is_whole : Stmt := topS 8
theorem sc_is_whole : FnScope ["value"] ["value"] (defScope s_is_whole) := ⟨rfl, rfl, rfl, by decide +kernel, rfl, by decide +kernel, by decide +kernel⟩
abbrev s_is_number : Stmt := topS 9
theorem sc_is_number : FnScope ["value", "low", "high"] ["value", "low", "high"] (defScope s_is_number) := ⟨rfl, rfl, rfl, by decide +kernel, rfl, by decide +kernel, by decide +kernel⟩
abbrev s_are_numbers : Stmt := topS 10
theorem sc_are_numbers : FnScope ["value", "low", "high", "item"] ["value", "low", "high"] (defScope s_are_numbers) := ⟨rfl, rfl, rfl, by decide +kernel, rfl, by decide +kernel, by decide +kernel⟩
abbrev s_are_controls : Stmt := topS 14
theorem sc_are_controls : FnScope ["value", "lines", "last", "line"] ["value", "lines"] (defScope s_are_controls) := ⟨rfl, rfl, rfl, by decide +kernel, rfl, by decide +kernel, by decide +kernel⟩
abbrev s_is_gate : Stmt := topS 15
theorem sc_is_gate : FnScope ["value", "lines", "word", "controls", "turned", "line"] ["value", "lines"] (defScope s_is_gate) := ⟨rfl, rfl, rfl, by decide +kernel, rfl, by decide +kernel, by decide +kernel⟩
abbrev s_passed : Stmt := topS 16
theorem sc_passed : FnScope ["gates", "bits", "gate", "line"] ["gates", "bits"] (defScope s_passed) := ⟨rfl, rfl, rfl, by decide +kernel, rfl, by decide +kernel, by decide +kernel⟩
abbrev s_Net_init : Stmt := inClass (topS 17) 0
theorem sc_Net_init : FnScope ["self", "lines", "gates", "gate"] ["self", "lines", "gates"] (defScope s_Net_init) := ⟨rfl, rfl, rfl, by decide +kernel, rfl, by decide +kernel, by decide +kernel⟩
abbrev s_Net_gates : Stmt := inClass (topS 17) 1
theorem sc_Net_gates : FnScope ["self"] ["self"] (defScope s_Net_gates) := ⟨rfl, rfl, rfl, by decide +kernel, rfl, by decide +kernel, by decide +kernel⟩
abbrev s_Net_run : Stmt := inClass (topS 17) 2
theorem sc_Net_run : FnScope ["self", "bits"] ["self", "bits"] (defScope s_Net_run) := ⟨rfl, rfl, rfl, by decide +kernel, rfl, by decide +kernel, by decide +kernel⟩
abbrev s_Net__need_bits : Stmt := inClass (topS 17) 4
theorem sc_Net__need_bits : FnScope ["self", "bits"] ["self", "bits"] (defScope s_Net__need_bits) := ⟨rfl, rfl, rfl, by decide +kernel, rfl, by decide +kernel, by decide +kernel⟩
abbrev s_bits_of_number : Stmt := topS 20
theorem sc_bits_of_number : FnScope ["number", "many", "at"] ["number", "many"] (defScope s_bits_of_number) := ⟨rfl, rfl, rfl, by decide +kernel, rfl, by decide +kernel, by decide +kernel⟩
abbrev s_words_in : Stmt := topS 21
theorem sc_words_in : FnScope ["many", "number"] ["many"] (defScope s_words_in) := ⟨rfl, rfl, rfl, by decide +kernel, rfl, by decide +kernel, by decide +kernel⟩
abbrev s_table_of : Stmt := topS 22
theorem sc_table_of : FnScope ["net", "k", "m", "zeros", "table", "word", "end"] ["net", "k", "m"] (defScope s_table_of) := ⟨rfl, rfl, rfl, by decide +kernel, rfl, by decide +kernel, by decide +kernel⟩
abbrev s_law_draws : Stmt := topS 24
theorem sc_law_draws : FnScope ["script", "many", "draws", "at", "cell", "number", "k"] ["script", "many"] (defScope s_law_draws) := ⟨rfl, rfl, rfl, by decide +kernel, rfl, by decide +kernel, by decide +kernel⟩
abbrev s_law_gates : Stmt := topS 26
theorem sc_law_gates : FnScope ["draws", "at", "many", "lines", "gates", "k", "draw", "more", "left", "i", "gate", "controls", "j"] ["draws", "at", "many", "lines"] (defScope s_law_gates) := ⟨rfl, rfl, rfl, by decide +kernel, rfl, by decide +kernel, by decide +kernel⟩
abbrev s_law_taken : Stmt := topS 27
theorem sc_law_taken : FnScope ["gates", "bits", "row", "gate", "first", "second", "line"] ["gates", "bits"] (defScope s_law_taken) := ⟨rfl, rfl, rfl, by decide +kernel, rfl, by decide +kernel, by decide +kernel⟩
abbrev s_law_words : Stmt := topS 28
theorem sc_law_words : FnScope ["many", "found", "k", "longer", "word"] ["many"] (defScope s_law_words) := ⟨rfl, rfl, rfl, by decide +kernel, rfl, by decide +kernel, by decide +kernel⟩
abbrev s_law_due : Stmt := topS 30
theorem sc_law_due : FnScope ["gates", "lines", "k", "m", "found", "word", "bits"] ["gates", "lines", "k", "m"] (defScope s_law_due) := ⟨rfl, rfl, rfl, by decide +kernel, rfl, by decide +kernel, by decide +kernel⟩
abbrev s_law_found : Stmt := topS 31
theorem sc_law_found : FnScope ["net", "k", "m", "e"] ["net", "k", "m"] (defScope s_law_found) := ⟨rfl, rfl, rfl, by decide +kernel, rfl, by decide +kernel, by decide +kernel⟩
abbrev s_law : Stmt := topS 32
theorem sc_law : FnScope ["script", "draws", "lines", "k", "m", "gates", "net", "found", "gate"] ["script"] (defScope s_law) := ⟨rfl, rfl, rfl, by decide +kernel, rfl, by decide +kernel, by decide +kernel⟩
/-- where the classes of the text stand -/
structure Ctx where
  Net : Addr
  BackError : Addr
  BadNet : Addr
  BadBits : Addr
  BadTable : Addr
  NotClean : Addr
  exm : Addr → Addr → Option Bool
  kit : Addr → Value → Option Bool
  e_BadNet_BackError : exm BadNet BackError = some true
  e_BadBits_BackError : exm BadBits BackError = some true
  e_BadTable_BackError : exm BadTable BackError = some true
  e_NotClean_BackError : exm NotClean BackError = some true
  k_BadNet_BadTable : kit BadNet (.ref BadTable) = some false
  k_BadNet_NotClean : kit BadNet (.ref NotClean) = some false
  k_BadBits_BadTable : kit BadBits (.ref BadTable) = some false
  k_BadBits_NotClean : kit BadBits (.ref NotClean) = some false
  k_BadTable_BadTable : kit BadTable (.ref BadTable) = some true
  k_BadTable_NotClean : kit BadTable (.ref NotClean) = some false
  k_NotClean_BadTable : kit NotClean (.ref BadTable) = some false
  k_NotClean_NotClean : kit NotClean (.ref NotClean) = some true
structure ClNet (K : PySem.W.Frag) (C : Addr) : Prop where
  cl : Cls K C
  n_gates : NoAttr K C (PySem.Str.ofString "_gates")
  n_join : NoAttr K C (PySem.Str.ofString "join")
  n_lines : NoAttr K C (PySem.Str.ofString "lines")
structure Txt (K : PySem.W.Frag) (mg : Str → Option Value) (Γ : Ctx) : Prop where
  b_abs : mg (PySem.Str.ofString "abs") = none
  b_all : mg (PySem.Str.ofString "all") = none
  b_any : mg (PySem.Str.ofString "any") = none
  b_bool : mg (PySem.Str.ofString "bool") = none
  b_int : mg (PySem.Str.ofString "int") = none
  b_isinstance : mg (PySem.Str.ofString "isinstance") = none
  b_len : mg (PySem.Str.ofString "len") = none
  b_list : mg (PySem.Str.ofString "list") = none
  b_max : mg (PySem.Str.ofString "max") = none
  b_min : mg (PySem.Str.ofString "min") = none
  b_range : mg (PySem.Str.ofString "range") = none
  b_reversed : mg (PySem.Str.ofString "reversed") = none
  b_sorted : mg (PySem.Str.ofString "sorted") = none
  b_tuple : mg (PySem.Str.ofString "tuple") = none
  m_MOST_BITS : ∃ t, mg (PySem.Str.ofString "MOST_BITS") = some (.int 6 t)
  m_MOST_GATES : ∃ t, mg (PySem.Str.ofString "MOST_GATES") = some (.int 100000 t)
  m_MOST_LINES : ∃ t, mg (PySem.Str.ofString "MOST_LINES") = some (.int 400 t)
  cNet : ClNet K Γ.Net
  g_BackError : mg (PySem.Str.ofString "BackError") = some (.ref Γ.BackError)
  g_BadNet : mg (PySem.Str.ofString "BadNet") = some (.ref Γ.BadNet)
  g_BadBits : mg (PySem.Str.ofString "BadBits") = some (.ref Γ.BadBits)
  g_BadTable : mg (PySem.Str.ofString "BadTable") = some (.ref Γ.BadTable)
  g_NotClean : mg (PySem.Str.ofString "NotClean") = some (.ref Γ.NotClean)
  r_BadNet : OwnErr K Γ.BadNet
  r_BadBits : OwnErr K Γ.BadBits
  r_BadTable : OwnErr K Γ.BadTable
  r_NotClean : OwnErr K Γ.NotClean
  exm_ok : ∀ C X b, Γ.exm C X = some b → PySem.W.exmOne K (.ref C) (.ref X) = some b
  exm_cls : ∀ C X b, Γ.exm C X = some b → ExcC K C
  kit_ok : ∀ C v b, Γ.kit C v = some b → PySem.W.kitOne K (.ref C) v = some b
end My
set_option Elab.async false
set_option linter.all false
set_option maxRecDepth 100000
namespace My
open PySem PySem.Spec PyProof.Rows L2 PL TM
def isNum (lo hi : Int) : PV → Bool
  | .int i => decide (lo ≤ i) && decide (i ≤ hi)
  | _ => false
def areNum (lo hi : Int) : PV → Bool
  | .tup xs => xs.all (isNum lo hi)
  | _ => false
def known (M : Mem) (v : PV) : Prop := tyOf M v ≠ none
def isWh : PV → Bool
  | .int _ => true
  | _ => false
def sp_is_whole (Γ : Ctx) : PSp := fun xs M Q _ => ∃ v, xs = [v] ∧ known M v ∧ Q (.bl (isWh v)) M
def sp_is_number (Γ : Ctx) : PSp := fun xs M Q _ => ∃ v lo hi, xs = [v, .int lo, .int hi] ∧ known M v ∧ Q (.bl (isNum lo hi v)) M
def sp_are_numbers (Γ : Ctx) : PSp := fun xs M Q _ => ∃ v lo hi, xs = [v, .int lo, .int hi] ∧ known M v ∧ (∀ ys, v = .tup ys → ys.length ≤ sizeLine ∧ ∀ y ∈ ys, known M y) ∧ Q (.bl (areNum lo hi v)) M
def lI (xs : List Int) : PV := .lst (xs.map PV.int)
/-- without a place that may change, tuples not too long, to the depth n -/
def okV : Nat → PV → Prop
  | 0, _ => True
  | _ + 1, .ptr _ => False
  | n + 1, .tup xs => xs.length ≤ 1000 ∧ ∀ x ∈ xs, okV n x
  | _ + 1, .lst _ => True
  | _ + 1, .scr _ => False
  | _ + 1, .obj _ _ => False
  | _ + 1, .ty _ => False
  | _ + 1, .non => True
  | _ + 1, .bl _ => True
  | _ + 1, .int _ => True
  | _ + 1, .str _ => True
inductive Gt where
  | turn (cs : List Int) (i : Int)
  | swap (cs : List Int) (i j : Int)
def gtP : Gt → PV
  | .turn cs i => .tup [.str (PySem.Str.ofString "turn"), tI cs, .int i]
  | .swap cs i j => .tup [.str (PySem.Str.ofString "swap"), tI cs, .int i, .int j]
structure CtlOk (n : Int) (cs : List Int) : Prop where
  up : cs.Pairwise (· < ·)
  mm : ∀ c ∈ cs, 0 ≤ c ∧ c < n
def GtOk (n : Int) : Gt → Prop
  | .turn cs i => CtlOk n cs ∧ (0 ≤ i ∧ i < n) ∧ i ∉ cs
  | .swap cs i j => CtlOk n cs ∧ (0 ≤ i ∧ i < n) ∧ (0 ≤ j ∧ j < n) ∧ i ∉ cs ∧ j ∉ cs ∧ i ≠ j
def GV (n : Int) (v : PV) : Prop := ∃ g, GtOk n g ∧ v = gtP g
def ctl : Int → List PV → Option Int
  | l, [] => some l
  | l, .int i :: r => if i ≤ l then none else ctl i r
  | _, _ :: _ => none
def ctlB (n : Int) : PV → Bool
  | .tup xs => match ctl (-1) xs with | some l => decide (l < n) | none => false
  | _ => false
structure Bits (n : Int) (bs : List Int) : Prop where
  len : (bs.length : Int) = n
  b : ∀ b ∈ bs, b = 0 ∨ b = 1
def gB (bs : List Int) (i : Int) : Int := (bs[i.toNat]?).getD 0
def onG (cs : List Int) (bs : List Int) : Bool := cs.all fun c => decide (gB bs c = 1)
def apG (g : Gt) (bs : List Int) : List Int := match g with
  | .turn cs i => if onG cs bs = true then bs.set i.toNat (1 - gB bs i) else bs
  | .swap cs i j => if onG cs bs = true then (bs.set i.toNat (gB bs j)).set j.toNat (gB bs i) else bs
def runG (gs : List Gt) (bs : List Int) : List Int := gs.foldl (fun b g => apG g b) bs
def netF (n : Int) (gs : List Gt) : List (Str × PV) := [(Str.ofString "lines", .int n), (Str.ofString "_gates", .lst (gs.map gtP))]
def netP (Γ : Ctx) (n : Int) (gs : List Gt) : PV := .obj Γ.Net (netF n gs)
def sp_are_controls (Γ : Ctx) : PSp := fun xs M Q _ => ∃ v n, xs = [v, .int n] ∧ okV 2 v ∧ Q (.bl (ctlB n v)) M
/-- what may be asked whether it is a gate -/
def gArg (v : PV) : Prop := okV 3 v ∧ ∀ w c t, v = .tup (w :: c :: t) → t ≠ [] → ∃ s, w = .str s ∧ (PyData.str s).canLay0 = true
def sp_is_gate (Γ : Ctx) : PSp := fun xs M Q _ => ∃ v n, xs = [v, .int n] ∧ gArg v ∧ ∀ b : Bool, (b = true ↔ GV n v) → Q (.bl b) M
def sp_passed (Γ : Ctx) : PSp := fun xs M Q _ => ∃ n gs bs, xs = [.lst (gs.map gtP), tI bs] ∧ (∀ g ∈ gs, GtOk n g) ∧ Bits n bs ∧ Q (tI (runG gs bs)) M
def netGood (Γ : Ctx) : PSp := fun xs M Q _ => ∃ p n gv gs, xs = [.ptr p, .int n, gv] ∧ (1 ≤ n ∧ n ≤ 400) ∧ lstOf M gv = some (gs.map gtP) ∧ tyOf M gv = some "list" ∧ gs.length ≤ 100000 ∧ (∀ g ∈ gs, GtOk n g) ∧ M p = some (.obj Γ.Net []) ∧
  Q .non (M.put p (.obj Γ.Net (netF n gs)))
def netBad (nv : PV) (gvs : List PV) : Prop := isNum 1 400 nv = false ∨ ∃ n, nv = .int n ∧ (1 ≤ n ∧ n ≤ 400) ∧ (100000 < gvs.length ∨ ((∀ g ∈ gvs, gArg g) ∧ ∃ g ∈ gvs, ¬ GV n g))
def netNot (Γ : Ctx) : PSp := fun xs M _ E => ∃ p nv gvs, xs = [.ptr p, nv, .lst gvs] ∧ okV 1 nv ∧ gvs.length ≤ sizeLine ∧ netBad nv gvs ∧ E Γ.BadNet [] M
def sp_Net_init (Γ : Ctx) : PSp := fun xs M Q E => netGood Γ xs M Q E ∨ netNot Γ xs M Q E
def sp_Net_gates (Γ : Ctx) : PSp := fun xs M Q _ => ∃ n gs, xs = [netP Γ n gs] ∧ ∀ p, M p = none → Q (.ptr p) (M.put p (.lst (gs.map gtP)))
def bitsBad (n : Int) (v : PV) : Prop := okV 2 v ∧ (areNum 0 1 v = false ∨ ∃ ys, v = .tup ys ∧ (ys.length : Int) ≠ n)
def sp_Net__need_bits (Γ : Ctx) : PSp := fun xs M Q E => ∃ n gs v, xs = [netP Γ n gs, v] ∧ ((∃ bs, v = tI bs ∧ Bits n bs ∧ n ≤ 400 ∧ Q .non M) ∨ (bitsBad n v ∧ E Γ.BadBits [] M))
def sp_Net_run (Γ : Ctx) : PSp := fun xs M Q E => ∃ n gs v, xs = [netP Γ n gs, v] ∧ ((∃ bs, v = tI bs ∧ Bits n bs ∧ n ≤ 400 ∧ (∀ g ∈ gs, GtOk n g) ∧ Q (tI (runG gs bs)) M) ∨ (bitsBad n v ∧ E Γ.BadBits [] M))
structure Draws (ds : List Int) (k : Int) : Prop where
  r : ∀ d ∈ ds, 0 ≤ d ∧ d < 65537
  l : (ds.length : Int) = k
def sp_law_draws (Γ : Ctx) : PSp := fun xs M Q _ => ∃ (zs : List Int) (many : Int), xs = [.scr (zs.map .int), .int many] ∧ zs.length ≤ 63 ∧ (0 ≤ many ∧ many ≤ 1000) ∧ ∀ ds, Draws ds many → Q (lI ds) M
def sp_law_gates (Γ : Ctx) : PSp := fun xs M Q _ => ∃ ds k0 at_ many n, xs = [lI ds, .int at_, .int many, .int n] ∧ Draws ds k0 ∧ 0 ≤ at_ ∧ (0 ≤ many ∧ many ≤ 1000) ∧ at_ + 2 * many ≤ k0 ∧ (1 ≤ n ∧ n ≤ 400) ∧
  ∀ gs : List Gt, (gs.length : Int) = many → (∀ g ∈ gs, GtOk n g) → Q (.lst (gs.map gtP)) M
def sp_law_taken (Γ : Ctx) : PSp := fun xs M Q _ => ∃ n gs bs, xs = [.lst (gs.map gtP), tI bs] ∧ n ≤ 400 ∧ (∀ g ∈ gs, GtOk n g) ∧ Bits n bs ∧ Q (tI (runG gs bs)) M
structure NetOk (n : Int) (gs : List Gt) : Prop where
  hn : 1 ≤ n ∧ n ≤ 400
  hg : ∀ g ∈ gs, GtOk n g
  hl : gs.length ≤ 100000
def wordsN : Nat → List (List Int)
  | 0 => [[]]
  | n + 1 => (wordsN n).flatMap fun w => [w ++ [0], w ++ [1]]
def bitsN : Nat → Nat → List Int
  | _, 0 => []
  | n, k + 1 => bitsN (n / 2) k ++ [((n % 2 : Nat) : Int)]
def wL (ws : List (List Int)) : PV := .lst (ws.map tI)
def sp_bits_of_number (Γ : Ctx) : PSp := fun xs M Q _ => ∃ (n k : Nat), xs = [.int n, .int k] ∧ k ≤ 6 ∧ Q (tI (bitsN n k)) M
def sp_words_in (Γ : Ctx) : PSp := fun xs M Q _ => ∃ k : Nat, xs = [.int k] ∧ k ≤ 6 ∧ Q (wL (wordsN k)) M
def sp_law_words (Γ : Ctx) : PSp := fun xs M Q _ => ∃ k : Nat, xs = [.int k] ∧ k ≤ 6 ∧ Q (wL (wordsN k)) M
/-- the run from a word and zeros -/
def endW (n k : Nat) (gs : List Gt) (w : List Int) : List Int := runG gs (w ++ List.replicate (n - k) 0)
def scanR (n k m : Nat) (gs : List Gt) : List (List Int) → List (List Int) → Option (List (List Int))
  | [], acc => some acc
  | w :: r, acc => if (endW n k gs w).take k = w ∧ (1 : Int) ∉ (endW n k gs w).drop (k + m) then scanR n k m gs r (acc ++ [((endW n k gs w).drop k).take m]) else none
def badK (n k m : Int) : Prop := k < 1 ∨ 6 < k ∨ m < 1 ∨ 6 < m ∨ n < k + m
instance (n k m : Int) : Decidable (badK n k m) := by unfold badK; infer_instance
def resV : Option (List (List Int)) → PV
  | none => .str (Str.ofString "dirty")
  | some ws => wL ws
def scanA (n k m : Int) (gs : List Gt) : Option (List (List Int)) := scanR n.toNat k.toNat m.toNat gs (wordsN k.toNat) []
def dueV (n k m : Int) (gs : List Gt) : PV := if badK n k m then .str (Str.ofString "bad") else resV (scanA n k m gs)
def sp_table_of (Γ : Ctx) : PSp := fun xs M Q E => ∃ n gs k m, xs = [netP Γ n gs, .int k, .int m] ∧ NetOk n gs ∧
  ((badK n k m ∧ ∀ M', E Γ.BadTable [] M') ∨ (¬ badK n k m ∧ ((scanA n k m gs = none ∧ ∀ M', E Γ.NotClean [] M') ∨ ∃ ws, scanA n k m gs = some ws ∧ ∀ M', Q (wL ws) M')))
def sp_law_due (Γ : Ctx) : PSp := fun xs M Q _ => ∃ n gs k m, xs = [.lst (gs.map gtP), .int n, .int k, .int m] ∧ NetOk n gs ∧ ∀ M', Q (dueV n k m gs) M'
def sp_law_found (Γ : Ctx) : PSp := fun xs M Q _ => ∃ n gs k m, xs = [netP Γ n gs, .int k, .int m] ∧ NetOk n gs ∧ ∀ M', Q (dueV n k m gs) M'
def sp_top : PSp := fun xs M Q _ => ∃ (zs : List Int), xs = [.scr (zs.map .int)] ∧ zs.length ≤ 63 ∧ ∀ M', Q (.bl true) M'
def sp_law (_ : Ctx) : PSp := sp_top
end My
set_option Elab.async false
set_option linter.all false
set_option maxRecDepth 100000
namespace My
open PySem PySem.Spec PyProof.Rows L2 PL
def t_is_whole (Γ : Ctx) : PTS := (pRet (pAndV (fun E σ M Q => (pVar 0) E σ M fun x M1 => kIsi "int" x M1 Q) (pNotV (fun E σ M Q => (pVar 0) E σ M fun x M1 => kIsi "bool" x M1 Q))))
theorem d_is_whole {P : Program} {w : World} {K : PySem.W.Frag} {mg : Str → Option Value} {base : Heap} {Γ : Ctx} (T : Txt K mg Γ)  {f : Addr} {cdv : Value} {A : Around} {outer : List Env} {s : Shared} {H : Hp} {E : XK}
    (hr : Room 0 (A.deeper (envOfC "is_whole" (defScope s_is_whole) s.heap.objs.size f cdv))) :
    LSs (cxOf (L2.CX P w) P w K mg base ["value"] "is_whole" (defScope s_is_whole) f cdv A outer s H E) (defBody s_is_whole) (t_is_whole Γ) :=
  (LSs.one (LS.ret (PL.LE.and (PL.LE.isi (Ts := "int") rfl T.b_isinstance rfl T.b_int (by decide +kernel) (PL.LE.var 0)) (PL.LE.one (PL.LE.not (PL.LE.isi (Ts := "bool") rfl T.b_isinstance rfl T.b_bool (by decide +kernel) (PL.LE.var 0)))))))
def t_is_number (Γ : Ctx) : PTS := (pRet (pAndV (pCall (sp_is_whole Γ) (pCons (pVar 0) pNil)) (pChain (fun i j => decide (i ≤ j)) (fun i j => decide (i ≤ j)) (pVar 1) (pVar 0) (pVar 2))))
theorem d_is_number {P : Program} {w : World} {K : PySem.W.Frag} {mg : Str → Option Value} {base : Heap} {Γ : Ctx} (T : Txt K mg Γ) (G_is_whole : GFn P w K mg base (PySem.Str.ofString "is_whole") 1 ["value"] (sp_is_whole Γ)) {f : Addr} {cdv : Value} {A : Around} {outer : List Env} {s : Shared} {H : Hp} {E : XK}
    (hr : Room 1 (A.deeper (envOfC "is_number" (defScope s_is_number) s.heap.objs.size f cdv))) :
    LSs (cxOf (L2.CX P w) P w K mg base ["value", "low", "high"] "is_number" (defScope s_is_number) f cdv A outer s H E) (defBody s_is_number) (t_is_number Γ) :=
  (LSs.one (LS.ret (PL.LE.and (PL.LE.call G_is_whole (hr.mono (by decide)) rfl (LA.cons (PL.LE.var 0) LA.nil)) (PL.LE.one (PL.LE.lele (PL.LE.var 1) (PL.LE.var 0) (PL.LE.var 2))))))
def t_are_numbers (Γ : Ctx) : PTS := (pSeq (pIfS (pNot (pTest (fun E σ M Q => (pVar 0) E σ M fun x M1 => kIsi "tuple" x M1 Q))) (pRet (pC (.bl false))) pNext) (pRet (pCallB (on1 kAll) (pCons (pLc (piT (pVar 0)) 3 pYes (pCall (sp_is_number Γ) (pCons (pVar 3) (pCons (pVar 1) (pCons (pVar 2) pNil))))) pNil))))
theorem d_are_numbers {P : Program} {w : World} {K : PySem.W.Frag} {mg : Str → Option Value} {base : Heap} {Γ : Ctx} (T : Txt K mg Γ) (G_is_number : GFn P w K mg base (PySem.Str.ofString "is_number") 2 ["value", "low", "high"] (sp_is_number Γ)) {f : Addr} {cdv : Value} {A : Around} {outer : List Env} {s : Shared} {H : Hp} {E : XK}
    (hr : Room 2 (A.deeper (envOfC "are_numbers" (defScope s_are_numbers) s.heap.objs.size f cdv))) :
    LSs (cxOf (L2.CX P w) P w K mg base ["value", "low", "high", "item"] "are_numbers" (defScope s_are_numbers) f cdv A outer s H E) (defBody s_are_numbers) (t_are_numbers Γ) :=
  (LSs.cons (LS.ite (PL.LT.not (PL.LT.val (PL.LE.isi (Ts := "tuple") rfl T.b_isinstance rfl T.b_tuple (by decide +kernel) (PL.LE.var 0)))) (LSs.one (LS.ret PL.LE.bl)) LSs.nil) (LSs.one (LS.ret (PL.LE.all rfl rfl T.b_all (LA.cons (PL.LE.lc rfl sc_are_numbers.nd (LI.tup (PL.LE.var 0)) (blkOk_by (N := ["value", "low", "high", "item"]) (sc := defScope s_are_numbers) (by decide +kernel)) (fun _ _ _ _ _ => pg_name (i := 3) sc_are_numbers.nd rfl (Or.inl rfl)) (fun _ _ _ _ _ => LTs.nil) (fun _ _ _ _ _ => (PL.LE.call G_is_number (hr.mono (by decide)) rfl (LA.cons (PL.LE.var 3) (LA.cons (PL.LE.var 1) (LA.cons (PL.LE.var 2) LA.nil)))))) LA.nil)))))
def b_are_controls_1 (Γ : Ctx) := ((pSeq (pIfS (pOr (pTest (fun E σ M Q => (pVar 3) E σ M fun x M1 => kIsi "bool" x M1 Q)) (pOr (pNot (pTest (fun E σ M Q => (pVar 3) E σ M fun x M1 => kIsi "int" x M1 Q))) (pTest (pBin oLe (pVar 3) (pVar 2))))) (pRet (pC (.bl false))) pNext) (pSet 2 (pVar 3))) : PTS)
def t_are_controls (Γ : Ctx) : PTS := (pSeq (pIfS (pNot (pTest (fun E σ M Q => (pVar 0) E σ M fun x M1 => kIsi "tuple" x M1 Q))) (pRet (pC (.bl false))) pNext) (pSeq (pSet 2 (pNeg (pC (.int 1)))) (pSeq (pFor (piT (pVar 0)) (gpName 3) (b_are_controls_1 Γ)) (pRet (pBin oLt (pVar 2) (pVar 1))))))
theorem d_are_controls {P : Program} {w : World} {K : PySem.W.Frag} {mg : Str → Option Value} {base : Heap} {Γ : Ctx} (T : Txt K mg Γ)  {f : Addr} {cdv : Value} {A : Around} {outer : List Env} {s : Shared} {H : Hp} {E : XK}
    (hr : Room 0 (A.deeper (envOfC "are_controls" (defScope s_are_controls) s.heap.objs.size f cdv))) :
    LSs (cxOf (L2.CX P w) P w K mg base ["value", "lines", "last", "line"] "are_controls" (defScope s_are_controls) f cdv A outer s H E) (defBody s_are_controls) (t_are_controls Γ) :=
  (LSs.cons (LS.ite (PL.LT.not (PL.LT.val (PL.LE.isi (Ts := "tuple") rfl T.b_isinstance rfl T.b_tuple (by decide +kernel) (PL.LE.var 0)))) (LSs.one (LS.ret PL.LE.bl)) LSs.nil) (LSs.cons (LS.set 2 sc_are_controls.nd (PL.LE.neg PL.LE.int)) (LSs.cons (LS.for (passes_of rfl) rfl (LI.tup (PL.LE.var 0)) (LG.name 3 sc_are_controls.nd) (LSs.cons (LS.ite (LW.lt (LW.or (PL.LT.val (PL.LE.isi (Ts := "bool") rfl T.b_isinstance rfl T.b_bool (by decide +kernel) (PL.LE.var 3))) (LW.or (PL.LT.not (PL.LT.val (PL.LE.isi (Ts := "int") rfl T.b_isinstance rfl T.b_int (by decide +kernel) (PL.LE.var 3)))) (LW.or1 (PL.LT.le (PL.LE.var 3) (PL.LE.var 2)))))) (LSs.one (LS.ret PL.LE.bl)) LSs.nil) (LSs.one (LS.set 2 sc_are_controls.nd (PL.LE.var 3))))) (LSs.one (LS.ret (PL.LE.lt (PL.LE.var 2) (PL.LE.var 1)))))))
def t_is_gate (Γ : Ctx) : PTS := (pSeq (pIfS (pOr (pNot (pTest (fun E σ M Q => (pVar 0) E σ M fun x M1 => kIsi "tuple" x M1 Q))) (pTest (pBin oLt (pCallB (on1 kLen) (pCons (pVar 0) pNil)) (pC (.int 3))))) (pRet (pC (.bl false))) pNext) (pSeq (pAsg (pSl (pVar 0) pNoPart (pPart (pC (.int 2)))) (gpTup 2 (gpCons (gpName 2) (gpCons (gpName 3) gpNil)))) (pSeq (pSet 4 (pSl (pVar 0) (pPart (pC (.int 2))) pNoPart)) (pSeq (pIfS (pTest (pBin oNin (pTup (pCons (pVar 2) (pCons (pCallB (on1 kLen) (pCons (pVar 4) pNil)) pNil))) (pTup (pCons (pTup (pCons (pC (.str (PySem.Str.ofString "turn"))) (pCons (pC (.int 1)) pNil))) (pCons (pTup (pCons (pC (.str (PySem.Str.ofString "swap"))) (pCons (pC (.int 2)) pNil))) pNil))))) (pRet (pC (.bl false))) pNext) (pSeq (pIfS (pOr (pNot (pTest (pCall (sp_are_numbers Γ) (pCons (pVar 4) (pCons (pC (.int 0)) (pCons (pBin oSub (pVar 1) (pC (.int 1))) pNil)))))) (pNot (pTest (pCall (sp_are_controls Γ) (pCons (pVar 3) (pCons (pVar 1) pNil)))))) (pRet (pC (.bl false))) pNext) (pSeq (pIfS (pAnd (pTest (pBin oEq (pVar 2) (pC (.str (PySem.Str.ofString "swap"))))) (pTest (pBin oEq (pBin oIx (pVar 4) (pC (.int 0))) (pBin oIx (pVar 4) (pC (.int 1)))))) (pRet (pC (.bl false))) pNext) (pRet (pNotV (pCallB (on1 kAny) (pCons (pLc (piT (pVar 4)) 5 pYes (pBin oIn (pVar 5) (pVar 3))) pNil))))))))))
theorem d_is_gate {P : Program} {w : World} {K : PySem.W.Frag} {mg : Str → Option Value} {base : Heap} {Γ : Ctx} (T : Txt K mg Γ) (G_are_numbers : GFn P w K mg base (PySem.Str.ofString "are_numbers") 3 ["value", "low", "high"] (sp_are_numbers Γ)) (G_are_controls : GFn P w K mg base (PySem.Str.ofString "are_controls") 1 ["value", "lines"] (sp_are_controls Γ)) {f : Addr} {cdv : Value} {A : Around} {outer : List Env} {s : Shared} {H : Hp} {E : XK}
    (hr : Room 3 (A.deeper (envOfC "is_gate" (defScope s_is_gate) s.heap.objs.size f cdv))) :
    LSs (cxOf (L2.CX P w) P w K mg base ["value", "lines", "word", "controls", "turned", "line"] "is_gate" (defScope s_is_gate) f cdv A outer s H E) (defBody s_is_gate) (t_is_gate Γ) :=
  (LSs.cons (LS.ite (LW.lt (LW.or (PL.LT.not (PL.LT.val (PL.LE.isi (Ts := "tuple") rfl T.b_isinstance rfl T.b_tuple (by decide +kernel) (PL.LE.var 0)))) (LW.or1 (PL.LT.lt (PL.LE.len rfl T.b_len (LA.cons (PL.LE.var 0) LA.nil)) PL.LE.int)))) (LSs.one (LS.ret PL.LE.bl)) LSs.nil) (LSs.cons (LS.asg (PL.LE.slice (PL.LE.var 0) LO.none (LO.some PL.LE.int)) (LG.tup rfl (LGs.cons (LG.name 2 sc_is_gate.nd) (LGs.cons (LG.name 3 sc_is_gate.nd) LGs.nil)))) (LSs.cons (LS.set 4 sc_is_gate.nd (PL.LE.slice (PL.LE.var 0) (LO.some PL.LE.int) LO.none)) (LSs.cons (LS.ite (PL.LT.ninT (Room.units65 hr) (PL.LE.tup (LA.cons (PL.LE.var 2) (LA.cons (PL.LE.len rfl T.b_len (LA.cons (PL.LE.var 4) LA.nil)) LA.nil))) (PL.LE.tup (LA.cons (PL.LE.tup (LA.cons PL.LE.str (LA.cons PL.LE.int LA.nil))) (LA.cons (PL.LE.tup (LA.cons PL.LE.str (LA.cons PL.LE.int LA.nil))) LA.nil)))) (LSs.one (LS.ret PL.LE.bl)) LSs.nil) (LSs.cons (LS.ite (LW.lt (LW.or (PL.LT.not (PL.LT.val (PL.LE.call G_are_numbers (hr.mono (by decide)) rfl (LA.cons (PL.LE.var 4) (LA.cons PL.LE.int (LA.cons (PL.LE.sub (PL.LE.var 1) PL.LE.int) LA.nil)))))) (LW.or1 (PL.LT.not (PL.LT.val (PL.LE.call G_are_controls (hr.mono (by decide)) rfl (LA.cons (PL.LE.var 3) (LA.cons (PL.LE.var 1) LA.nil)))))))) (LSs.one (LS.ret PL.LE.bl)) LSs.nil) (LSs.cons (LS.ite (LW.lt (LW.and (PL.LT.eq hr.units (PL.LE.var 2) PL.LE.str) (LW.and1 (PL.LT.eq hr.units (PL.LE.ix (PL.LE.var 4) PL.LE.int) (PL.LE.ix (PL.LE.var 4) PL.LE.int))))) (LSs.one (LS.ret PL.LE.bl)) LSs.nil) (LSs.one (LS.ret (PL.LE.not (PL.LE.any rfl rfl T.b_any (LA.cons (PL.LE.lc rfl sc_is_gate.nd (LI.tup (PL.LE.var 4)) (blkOk_by (N := ["value", "lines", "word", "controls", "turned", "line"]) (sc := defScope s_is_gate) (by decide +kernel)) (fun _ _ _ _ _ => pg_name (i := 5) sc_is_gate.nd rfl (Or.inl rfl)) (fun _ _ _ _ _ => LTs.nil) (fun _ _ _ _ _ => (PL.LE.inT (Room.units65 hr) (PL.LE.var 5) (PL.LE.var 3)))) LA.nil)))))))))))
def b_passed_2 (Γ : Ctx) := ((pIfS (pTest (pBin oEq (pBin oIx (pVar 1) (pVar 3)) (pC (.int 0)))) pBreak pNext) : PTS)
def u_passed_2 (Γ : Ctx) := ((pIfS (pTest (pBin oEq (pBin oIx (pVar 2) (pC (.int 0))) (pC (.str (PySem.Str.ofString "turn"))))) (pAsg (pBin oSub (pC (.int 1)) (pBin oIx (pVar 1) (pBin oIx (pVar 2) (pC (.int 2))))) (gpSub (pVar 1) (pBin oIx (pVar 2) (pC (.int 2))))) (pAsg (pTup (pCons (pBin oIx (pVar 1) (pBin oIx (pVar 2) (pC (.int 3)))) (pCons (pBin oIx (pVar 1) (pBin oIx (pVar 2) (pC (.int 2)))) pNil))) (gpTup 2 (gpCons (gpSub (pVar 1) (pBin oIx (pVar 2) (pC (.int 2)))) (gpCons (gpSub (pVar 1) (pBin oIx (pVar 2) (pC (.int 3)))) gpNil))))) : PTS)
def b_passed_1 (Γ : Ctx) := ((pForE (piT (pBin oIx (pVar 2) (pC (.int 1)))) (gpName 3) (b_passed_2 Γ) (u_passed_2 Γ)) : PTS)
def t_passed (Γ : Ctx) : PTS := (pSeq (pSet 1 (pCallB (on1 kListM) (pCons (pVar 1) pNil))) (pSeq (pFor (piL (pVar 0)) (gpName 2) (b_passed_1 Γ)) (pRetD [1] (pCallB (on1 kTup) (pCons (pVar 1) pNil)))))
theorem d_passed {P : Program} {w : World} {K : PySem.W.Frag} {mg : Str → Option Value} {base : Heap} {Γ : Ctx} (T : Txt K mg Γ)  {f : Addr} {cdv : Value} {A : Around} {outer : List Env} {s : Shared} {H : Hp} {E : XK}
    (hr : Room 0 (A.deeper (envOfC "passed" (defScope s_passed) s.heap.objs.size f cdv))) :
    LSs (cxOf (L2.CX P w) P w K mg base ["gates", "bits", "gate", "line"] "passed" (defScope s_passed) f cdv A outer s H E) (defBody s_passed) (t_passed Γ) :=
  (LSs.cons (LS.set 1 sc_passed.nd (PL.LE.listM rfl T.b_list (LA.cons (PL.LE.var 1) LA.nil))) (LSs.cons (LS.for (passes_of rfl) rfl (LI.list (PL.LE.var 0)) (LG.name 2 sc_passed.nd) (LSs.one (LS.forE (passes_of rfl) rfl (LI.tup (PL.LE.ix (PL.LE.var 2) PL.LE.int)) (LG.name 3 sc_passed.nd) (LSs.one (LS.ite (PL.LT.eq hr.units (PL.LE.ix (PL.LE.var 1) (PL.LE.var 3)) PL.LE.int) (LSs.one LS.brk) LSs.nil)) (LSs.one (LS.ite (PL.LT.eq hr.units (PL.LE.ix (PL.LE.var 2) PL.LE.int) PL.LE.str) (LSs.one (LS.asg (PL.LE.sub PL.LE.int (PL.LE.ix (PL.LE.var 1) (PL.LE.ix (PL.LE.var 2) PL.LE.int))) (LG.sub (PL.LE.var 1) (PL.LE.ix (PL.LE.var 2) PL.LE.int)))) (LSs.one (LS.asg (PL.LE.tup (LA.cons (PL.LE.ix (PL.LE.var 1) (PL.LE.ix (PL.LE.var 2) PL.LE.int)) (LA.cons (PL.LE.ix (PL.LE.var 1) (PL.LE.ix (PL.LE.var 2) PL.LE.int)) LA.nil))) (LG.tup rfl (LGs.cons (LG.sub (PL.LE.var 1) (PL.LE.ix (PL.LE.var 2) PL.LE.int)) (LGs.cons (LG.sub (PL.LE.var 1) (PL.LE.ix (PL.LE.var 2) PL.LE.int)) LGs.nil)))))))))) (LSs.one (LS.retD [1] (PL.LE.tupOf rfl T.b_tuple (LA.cons (PL.LE.var 1) LA.nil))))))
def b_Net_init_1 (Γ : Ctx) := ((pIfS (pNot (pTest (pCall (sp_is_gate Γ) (pCons (pVar 3) (pCons (pVar 1) pNil))))) (pRaise Γ.BadNet) pNext) : PTS)
def t_Net_init (Γ : Ctx) : PTS := (pSeq (pIfS (pNot (pTest (pCall (sp_is_number Γ) (pCons (pVar 1) (pCons (pC (.int 1)) (pCons (pC (.int 400)) pNil)))))) (pRaise Γ.BadNet) pNext) (pSeq (pIfS (pOr (pNot (pTest (fun E σ M Q => (pVar 2) E σ M fun x M1 => kIsi "list" x M1 Q))) (pTest (pBin oGt (pCallB (on1 kLen) (pCons (pVar 2) pNil)) (pC (.int 100000))))) (pRaise Γ.BadNet) pNext) (pSeq (pForM (pVar 2) (gpName 3) (b_Net_init_1 Γ)) (pSeq (pFldS Γ.Net (PySem.Str.ofString "lines") (pVar 0) (pVar 1)) (pFldS Γ.Net (PySem.Str.ofString "_gates") (pVar 0) (pCallB (on1 kList) (pCons (pVar 2) pNil)))))))
theorem d_Net_init {P : Program} {w : World} {K : PySem.W.Frag} {mg : Str → Option Value} {base : Heap} {Γ : Ctx} (T : Txt K mg Γ) (G_is_number : GFn P w K mg base (PySem.Str.ofString "is_number") 2 ["value", "low", "high"] (sp_is_number Γ)) (G_is_gate : GFn P w K mg base (PySem.Str.ofString "is_gate") 4 ["value", "lines"] (sp_is_gate Γ)) {f : Addr} {cdv : Value} {A : Around} {outer : List Env} {s : Shared} {H : Hp} {E : XK}
    (hr : Room 4 (A.deeper (envOfC "Net.__init__" (defScope s_Net_init) s.heap.objs.size f cdv))) :
    LSs (cxOf (L2.CX P w) P w K mg base ["self", "lines", "gates", "gate"] "Net.__init__" (defScope s_Net_init) f cdv A outer s H E) (defBody s_Net_init) (t_Net_init Γ) :=
  (LSs.cons (LS.ite (PL.LT.not (PL.LT.val (PL.LE.call G_is_number (hr.mono (by decide)) rfl (LA.cons (PL.LE.var 1) (LA.cons PL.LE.int (LA.cons (PL.LE.globI rfl T.m_MOST_LINES) LA.nil)))))) (LSs.one (LS.raise PySem.F.excBase_ValueError T.r_BadNet.x T.g_BadNet T.r_BadNet.k (raises_own T.r_BadNet.b T.r_BadNet.t) rfl)) LSs.nil) (LSs.cons (LS.ite (LW.lt (LW.or (PL.LT.not (PL.LT.val (PL.LE.isi (Ts := "list") rfl T.b_isinstance rfl T.b_list (by decide +kernel) (PL.LE.var 2)))) (LW.or1 (PL.LT.gt (PL.LE.len rfl T.b_len (LA.cons (PL.LE.var 2) LA.nil)) (PL.LE.globI rfl T.m_MOST_GATES))))) (LSs.one (LS.raise PySem.F.excBase_ValueError T.r_BadNet.x T.g_BadNet T.r_BadNet.k (raises_own T.r_BadNet.b T.r_BadNet.t) rfl)) LSs.nil) (LSs.cons (LS.forM (passes_of rfl) rfl (PL.LE.var 2) (LG.name 3 sc_Net_init.nd) (LSs.one (LS.ite (PL.LT.not (PL.LT.val (PL.LE.call G_is_gate (hr.mono (by decide)) rfl (LA.cons (PL.LE.var 3) (LA.cons (PL.LE.var 1) LA.nil))))) (LSs.one (LS.raise PySem.F.excBase_ValueError T.r_BadNet.x T.g_BadNet T.r_BadNet.k (raises_own T.r_BadNet.b T.r_BadNet.t) rfl)) LSs.nil))) (LSs.cons (LS.fld T.cNet.cl T.cNet.n_lines (PL.LE.var 0) (PL.LE.var 1)) (LSs.one (LS.fld T.cNet.cl T.cNet.n_gates (PL.LE.var 0) (PL.LE.list rfl T.b_list (LA.cons (PL.LE.var 2) LA.nil))))))))
def t_Net_gates (Γ : Ctx) : PTS := (pRet (pCallB (on1 kListM) (pCons (pFld Γ.Net (pVar 0) (PySem.Str.ofString "_gates")) pNil)))
theorem d_Net_gates {P : Program} {w : World} {K : PySem.W.Frag} {mg : Str → Option Value} {base : Heap} {Γ : Ctx} (T : Txt K mg Γ)  {f : Addr} {cdv : Value} {A : Around} {outer : List Env} {s : Shared} {H : Hp} {E : XK}
    (hr : Room 0 (A.deeper (envOfC "Net.gates" (defScope s_Net_gates) s.heap.objs.size f cdv))) :
    LSs (cxOf (L2.CX P w) P w K mg base ["self"] "Net.gates" (defScope s_Net_gates) f cdv A outer s H E) (defBody s_Net_gates) (t_Net_gates Γ) :=
  (LSs.one (LS.ret (PL.LE.listM rfl T.b_list (LA.cons (PL.LE.fld T.cNet.cl T.cNet.n_gates (PL.LE.var 0)) LA.nil))))
def t_Net_run (Γ : Ctx) : PTS := (pSeq (pDrop (pMeth Γ.Net (PySem.Str.ofString "_need_bits") (sp_Net__need_bits Γ) (pVar 0) (pCons (pVar 1) pNil))) (pRet (pCall (sp_passed Γ) (pCons (pFld Γ.Net (pVar 0) (PySem.Str.ofString "_gates")) (pCons (pVar 1) pNil)))))
theorem d_Net_run {P : Program} {w : World} {K : PySem.W.Frag} {mg : Str → Option Value} {base : Heap} {Γ : Ctx} (T : Txt K mg Γ) (G_Net__need_bits : GMt P w K mg base Γ.Net (PySem.Str.ofString "_need_bits") 4 ["self", "bits"] (sp_Net__need_bits Γ)) (G_passed : GFn P w K mg base (PySem.Str.ofString "passed") 1 ["gates", "bits"] (sp_passed Γ)) {f : Addr} {cdv : Value} {A : Around} {outer : List Env} {s : Shared} {H : Hp} {E : XK}
    (hr : Room 4 (A.deeper (envOfC "Net.run" (defScope s_Net_run) s.heap.objs.size f cdv))) :
    LSs (cxOf (L2.CX P w) P w K mg base ["self", "bits"] "Net.run" (defScope s_Net_run) f cdv A outer s H E) (defBody s_Net_run) (t_Net_run Γ) :=
  (LSs.cons (LS.expr (PL.LE.meth G_Net__need_bits T.cNet.cl (hr.mono (by decide)) (PL.LE.var 0) (LA.cons (PL.LE.var 1) LA.nil))) (LSs.one (LS.ret (PL.LE.call G_passed (hr.mono (by decide)) rfl (LA.cons (PL.LE.fld T.cNet.cl T.cNet.n_gates (PL.LE.var 0)) (LA.cons (PL.LE.var 1) LA.nil))))))
def t_Net__need_bits (Γ : Ctx) : PTS := (pIfS (pOr (pNot (pTest (pCall (sp_are_numbers Γ) (pCons (pVar 1) (pCons (pC (.int 0)) (pCons (pC (.int 1)) pNil)))))) (pTest (pBin oNe (pCallB (on1 kLen) (pCons (pVar 1) pNil)) (pFld Γ.Net (pVar 0) (PySem.Str.ofString "lines"))))) (pRaise Γ.BadBits) pNext)
theorem d_Net__need_bits {P : Program} {w : World} {K : PySem.W.Frag} {mg : Str → Option Value} {base : Heap} {Γ : Ctx} (T : Txt K mg Γ) (G_are_numbers : GFn P w K mg base (PySem.Str.ofString "are_numbers") 3 ["value", "low", "high"] (sp_are_numbers Γ)) {f : Addr} {cdv : Value} {A : Around} {outer : List Env} {s : Shared} {H : Hp} {E : XK}
    (hr : Room 3 (A.deeper (envOfC "Net._need_bits" (defScope s_Net__need_bits) s.heap.objs.size f cdv))) :
    LSs (cxOf (L2.CX P w) P w K mg base ["self", "bits"] "Net._need_bits" (defScope s_Net__need_bits) f cdv A outer s H E) (defBody s_Net__need_bits) (t_Net__need_bits Γ) :=
  (LSs.one (LS.ite (LW.lt (LW.or (PL.LT.not (PL.LT.val (PL.LE.call G_are_numbers (hr.mono (by decide)) rfl (LA.cons (PL.LE.var 1) (LA.cons PL.LE.int (LA.cons PL.LE.int LA.nil)))))) (LW.or1 (PL.LT.ne hr.units (PL.LE.len rfl T.b_len (LA.cons (PL.LE.var 1) LA.nil)) (PL.LE.fld T.cNet.cl T.cNet.n_lines (PL.LE.var 0)))))) (LSs.one (LS.raise PySem.F.excBase_ValueError T.r_BadBits.x T.g_BadBits T.r_BadBits.k (raises_own T.r_BadBits.b T.r_BadBits.t) rfl)) LSs.nil))
def t_bits_of_number (Γ : Ctx) : PTS := (pRet (pCallB (on1 kTup) (pCons (pLc (piRv (pVar 1)) 2 pYes (pBin oBand (pBin oShr (pVar 0) (pVar 2)) (pC (.int 1)))) pNil)))
theorem d_bits_of_number {P : Program} {w : World} {K : PySem.W.Frag} {mg : Str → Option Value} {base : Heap} {Γ : Ctx} (T : Txt K mg Γ)  {f : Addr} {cdv : Value} {A : Around} {outer : List Env} {s : Shared} {H : Hp} {E : XK}
    (hr : Room 0 (A.deeper (envOfC "bits_of_number" (defScope s_bits_of_number) s.heap.objs.size f cdv))) :
    LSs (cxOf (L2.CX P w) P w K mg base ["number", "many", "at"] "bits_of_number" (defScope s_bits_of_number) f cdv A outer s H E) (defBody s_bits_of_number) (t_bits_of_number Γ) :=
  (LSs.one (LS.ret (PL.LE.tupOf rfl T.b_tuple (LA.cons (PL.LE.lc rfl sc_bits_of_number.nd (LI.rvR rfl T.b_reversed rfl T.b_range (PL.LE.var 1)) (blkOk_by (N := ["number", "many", "at"]) (sc := defScope s_bits_of_number) (by decide +kernel)) (fun _ _ _ _ _ => pg_name (i := 2) sc_bits_of_number.nd rfl (Or.inl rfl)) (fun _ _ _ _ _ => LTs.nil) (fun _ _ _ _ _ => (PL.LE.band (PL.LE.shr (PL.LE.var 0) (PL.LE.var 2)) PL.LE.int))) LA.nil))))
def t_words_in (Γ : Ctx) : PTS := (pRet (pLc (piR1 (pBin oShl (pC (.int 1)) (pVar 0))) 1 pYes (pCall (sp_bits_of_number Γ) (pCons (pVar 1) (pCons (pVar 0) pNil)))))
theorem d_words_in {P : Program} {w : World} {K : PySem.W.Frag} {mg : Str → Option Value} {base : Heap} {Γ : Ctx} (T : Txt K mg Γ) (G_bits_of_number : GFn P w K mg base (PySem.Str.ofString "bits_of_number") 1 ["number", "many"] (sp_bits_of_number Γ)) {f : Addr} {cdv : Value} {A : Around} {outer : List Env} {s : Shared} {H : Hp} {E : XK}
    (hr : Room 1 (A.deeper (envOfC "words_in" (defScope s_words_in) s.heap.objs.size f cdv))) :
    LSs (cxOf (L2.CX P w) P w K mg base ["many", "number"] "words_in" (defScope s_words_in) f cdv A outer s H E) (defBody s_words_in) (t_words_in Γ) :=
  (LSs.one (LS.ret (PL.LE.lc rfl sc_words_in.nd (LI.rng1 rfl T.b_range (PL.LE.shl PL.LE.int (PL.LE.var 0))) (blkOk_by (N := ["many", "number"]) (sc := defScope s_words_in) (by decide +kernel)) (fun _ _ _ _ _ => pg_name (i := 1) sc_words_in.nd rfl (Or.inl rfl)) (fun _ _ _ _ _ => LTs.nil) (fun _ _ _ _ _ => (PL.LE.call G_bits_of_number (hr.mono (by decide)) rfl (LA.cons (PL.LE.var 1) (LA.cons (PL.LE.var 0) LA.nil)))))))
def b_table_of_1 (Γ : Ctx) := ((pSeq (pSet 6 (pMeth Γ.Net (PySem.Str.ofString "run") (sp_Net_run Γ) (pVar 0) (pCons (pBin oAdd (pVar 5) (pVar 3)) pNil))) (pSeq (pIfS (pTest (pBin oNe (pSl (pVar 6) pNoPart (pPart (pVar 1))) (pVar 5))) (pRaise Γ.NotClean) pNext) (pSeq (pIfS (pTest (pBin oIn (pC (.int 1)) (pSl (pVar 6) (pPart (pBin oAdd (pVar 1) (pVar 2))) pNoPart))) (pRaise Γ.NotClean) pNext) (pDrop (pApp (pVar 4) (pSl (pVar 6) (pPart (pVar 1)) (pPart (pBin oAdd (pVar 1) (pVar 2))))))))) : PTS)
def t_table_of (Γ : Ctx) : PTS := (pSeq (pIfS (pOr (pNot (pTest (pCall (sp_is_number Γ) (pCons (pVar 1) (pCons (pC (.int 1)) (pCons (pC (.int 6)) pNil)))))) (pNot (pTest (pCall (sp_is_number Γ) (pCons (pVar 2) (pCons (pC (.int 1)) (pCons (pC (.int 6)) pNil))))))) (pRaise Γ.BadTable) pNext) (pSeq (pIfS (pTest (pBin oLt (pFld Γ.Net (pVar 0) (PySem.Str.ofString "lines")) (pBin oAdd (pVar 1) (pVar 2)))) (pRaise Γ.BadTable) pNext) (pSeq (pSet 3 (pBin oMulA (pTup (pCons (pC (.int 0)) pNil)) (pBin oSub (pFld Γ.Net (pVar 0) (PySem.Str.ofString "lines")) (pVar 1)))) (pSeq (pSet 4 (pLstM pNil)) (pSeq (pFor (piL (pCall (sp_words_in Γ) (pCons (pVar 1) pNil))) (gpName 5) (b_table_of_1 Γ)) (pRetF (pVar 4)))))))
theorem d_table_of {P : Program} {w : World} {K : PySem.W.Frag} {mg : Str → Option Value} {base : Heap} {Γ : Ctx} (T : Txt K mg Γ) (G_words_in : GFn P w K mg base (PySem.Str.ofString "words_in") 2 ["many"] (sp_words_in Γ)) (G_Net_run : GMt P w K mg base Γ.Net (PySem.Str.ofString "run") 5 ["self", "bits"] (sp_Net_run Γ)) (G_is_number : GFn P w K mg base (PySem.Str.ofString "is_number") 2 ["value", "low", "high"] (sp_is_number Γ)) {f : Addr} {cdv : Value} {A : Around} {outer : List Env} {s : Shared} {H : Hp} {E : XK}
    (hr : Room 5 (A.deeper (envOfC "table_of" (defScope s_table_of) s.heap.objs.size f cdv))) :
    LSs (cxOf (L2.CX P w) P w K mg base ["net", "k", "m", "zeros", "table", "word", "end"] "table_of" (defScope s_table_of) f cdv A outer s H E) (defBody s_table_of) (t_table_of Γ) :=
  (LSs.cons (LS.ite (LW.lt (LW.or (PL.LT.not (PL.LT.val (PL.LE.call G_is_number (hr.mono (by decide)) rfl (LA.cons (PL.LE.var 1) (LA.cons PL.LE.int (LA.cons (PL.LE.globI rfl T.m_MOST_BITS) LA.nil)))))) (LW.or1 (PL.LT.not (PL.LT.val (PL.LE.call G_is_number (hr.mono (by decide)) rfl (LA.cons (PL.LE.var 2) (LA.cons PL.LE.int (LA.cons (PL.LE.globI rfl T.m_MOST_BITS) LA.nil))))))))) (LSs.one (LS.raise PySem.F.excBase_ValueError T.r_BadTable.x T.g_BadTable T.r_BadTable.k (raises_own T.r_BadTable.b T.r_BadTable.t) rfl)) LSs.nil) (LSs.cons (LS.ite (PL.LT.lt (PL.LE.fld T.cNet.cl T.cNet.n_lines (PL.LE.var 0)) (PL.LE.add (PL.LE.var 1) (PL.LE.var 2))) (LSs.one (LS.raise PySem.F.excBase_ValueError T.r_BadTable.x T.g_BadTable T.r_BadTable.k (raises_own T.r_BadTable.b T.r_BadTable.t) rfl)) LSs.nil) (LSs.cons (LS.set 3 sc_table_of.nd (PL.LE.mulA (PL.LE.tup (LA.cons PL.LE.int LA.nil)) (PL.LE.sub (PL.LE.fld T.cNet.cl T.cNet.n_lines (PL.LE.var 0)) (PL.LE.var 1)))) (LSs.cons (LS.set 4 sc_table_of.nd (PL.LE.lstM LA.nil)) (LSs.cons (LS.for (passes_of rfl) rfl (LI.list (PL.LE.call G_words_in (hr.mono (by decide)) rfl (LA.cons (PL.LE.var 1) LA.nil))) (LG.name 5 sc_table_of.nd) (LSs.cons (LS.set 6 sc_table_of.nd (PL.LE.meth G_Net_run T.cNet.cl (hr.mono (by decide)) (PL.LE.var 0) (LA.cons (PL.LE.add (PL.LE.var 5) (PL.LE.var 3)) LA.nil))) (LSs.cons (LS.ite (PL.LT.ne hr.units (PL.LE.slice (PL.LE.var 6) LO.none (LO.some (PL.LE.var 1))) (PL.LE.var 5)) (LSs.one (LS.raise PySem.F.excBase_ValueError T.r_NotClean.x T.g_NotClean T.r_NotClean.k (raises_own T.r_NotClean.b T.r_NotClean.t) rfl)) LSs.nil) (LSs.cons (LS.ite (PL.LT.inT (Room.units65 hr) PL.LE.int (PL.LE.slice (PL.LE.var 6) (LO.some (PL.LE.add (PL.LE.var 1) (PL.LE.var 2))) LO.none)) (LSs.one (LS.raise PySem.F.excBase_ValueError T.r_NotClean.x T.g_NotClean T.r_NotClean.k (raises_own T.r_NotClean.b T.r_NotClean.t) rfl)) LSs.nil) (LSs.one (LS.expr (PL.LE.app (PL.LE.var 4) (PL.LE.slice (PL.LE.var 6) (LO.some (PL.LE.var 1)) (LO.some (PL.LE.add (PL.LE.var 1) (PL.LE.var 2))))))))))) (LSs.one (LS.retF (PL.LE.var 4))))))))
def b_law_draws_2 (Γ : Ctx) := ((pIfS (pTest (pBin oGt (pVar 5) (pC (.int 0)))) (pSeq (pDrop (pApp (pVar 2) (pBin oMod (pCallB (on1 kInt) (pCons (pVar 5) pNil)) (pC (.int 1009))))) (pSet 5 (pBin oDiv (pVar 5) (pC (.int 1009))))) pNext) : PTS)
def b_law_draws_1 (Γ : Ctx) := ((pSeq (pSet 5 (pCallB (on1 kAbs) (pCons (pVar 4) pNil))) (pSeq (pIfS (pTest (pBin oGe (pVar 5) (pBin oPow (pC (.int 10)) (pC (.int 18))))) (pFor (piR1 (pC (.int 24))) (gpName 6) (b_law_draws_2 Γ)) (pSeq (pDrop (pApp (pVar 2) (pBin oMod (pCallB (on1 kInt) (pCons (pBin oAdd (pBin oAdd (pBin oMul (pVar 5) (pC (.int 48271))) (pBin oMul (pVar 3) (pC (.int 69621)))) (pC (.int 11))) pNil)) (pC (.int 65537))))) (pDrop (pApp (pVar 2) (pBin oMod (pCallB (on1 kInt) (pCons (pBin oAdd (pBin oAdd (pBin oAdd (pBin oMul (pVar 5) (pC (.int 16807))) (pBin oMul (pVar 3) (pC (.int 40692)))) (pC (.int 7))) (pBin oMul (pVar 5) (pVar 5))) pNil)) (pC (.int 65521))))))) (pSet 3 (pBin oAdd (pVar 3) (pC (.int 1)))))) : PTS)
def b_law_draws_3 (Γ : Ctx) := ((pIfS (pTest (pBin oLt (pCallB (on1 kLen) (pCons (pVar 2) pNil)) (pVar 1))) (pDrop (pApp (pVar 2) (pBin oMod (pCallB (on1 kInt) (pCons (pBin oAdd (pBin oAdd (pBin oMul (pCallB (on1 kLen) (pCons (pVar 2) pNil)) (pC (.int 69621))) (pBin oMul (pC (.int 977)) (pVar 3))) (pBin oMul (pBin oMul (pVar 6) (pVar 6)) (pC (.int 31)))) pNil)) (pC (.int 65521))))) pNext) : PTS)
def t_law_draws (Γ : Ctx) : PTS := (pSeq (pSet 2 (pLstM pNil)) (pSeq (pSet 3 (pC (.int 0))) (pSeq (pFor (piL (pSl (pVar 0) pNoPart (pPart (pC (.int 63))))) (gpName 4) (b_law_draws_1 Γ)) (pSeq (pFor (piR1 (pVar 1)) (gpName 6) (b_law_draws_3 Γ)) (pRetD [2] (pSl (pVar 2) pNoPart (pPart (pVar 1))))))))
theorem d_law_draws {P : Program} {w : World} {K : PySem.W.Frag} {mg : Str → Option Value} {base : Heap} {Γ : Ctx} (T : Txt K mg Γ)  {f : Addr} {cdv : Value} {A : Around} {outer : List Env} {s : Shared} {H : Hp} {E : XK}
    (hr : Room 0 (A.deeper (envOfC "_law_draws" (defScope s_law_draws) s.heap.objs.size f cdv))) :
    LSs (cxOf (L2.CX P w) P w K mg base ["script", "many", "draws", "at", "cell", "number", "k"] "_law_draws" (defScope s_law_draws) f cdv A outer s H E) (defBody s_law_draws) (t_law_draws Γ) :=
  (LSs.cons (LS.set 2 sc_law_draws.nd (PL.LE.lstM LA.nil)) (LSs.cons (LS.set 3 sc_law_draws.nd PL.LE.int) (LSs.cons (LS.for (passes_of rfl) rfl (LI.list (PL.LE.slice (PL.LE.var 0) LO.none (LO.some PL.LE.int))) (LG.name 4 sc_law_draws.nd) (LSs.cons (LS.set 5 sc_law_draws.nd (PL.LE.abs rfl T.b_abs (LA.cons (PL.LE.var 4) LA.nil))) (LSs.cons (LS.ite (PL.LT.ge (PL.LE.var 5) (PL.LE.pow PL.LE.int PL.LE.int)) (LSs.one (LS.for (passes_of rfl) rfl (LI.rng1 rfl T.b_range PL.LE.int) (LG.name 6 sc_law_draws.nd) (LSs.one (LS.ite (PL.LT.gt (PL.LE.var 5) PL.LE.int) (LSs.cons (LS.expr (PL.LE.app (PL.LE.var 2) (PL.LE.mod (PL.LE.intOf rfl T.b_int (LA.cons (PL.LE.var 5) LA.nil)) PL.LE.int))) (LSs.one (LS.set 5 sc_law_draws.nd (PL.LE.div (PL.LE.var 5) PL.LE.int)))) LSs.nil)))) (LSs.cons (LS.expr (PL.LE.app (PL.LE.var 2) (PL.LE.mod (PL.LE.intOf rfl T.b_int (LA.cons (PL.LE.add (PL.LE.add (PL.LE.mul (PL.LE.var 5) PL.LE.int) (PL.LE.mul (PL.LE.var 3) PL.LE.int)) PL.LE.int) LA.nil)) PL.LE.int))) (LSs.one (LS.expr (PL.LE.app (PL.LE.var 2) (PL.LE.mod (PL.LE.intOf rfl T.b_int (LA.cons (PL.LE.add (PL.LE.add (PL.LE.add (PL.LE.mul (PL.LE.var 5) PL.LE.int) (PL.LE.mul (PL.LE.var 3) PL.LE.int)) PL.LE.int) (PL.LE.mul (PL.LE.var 5) (PL.LE.var 5))) LA.nil)) PL.LE.int)))))) (LSs.one (LS.set 3 sc_law_draws.nd (PL.LE.add (PL.LE.var 3) PL.LE.int)))))) (LSs.cons (LS.for (passes_of rfl) rfl (LI.rng1 rfl T.b_range (PL.LE.var 1)) (LG.name 6 sc_law_draws.nd) (LSs.one (LS.ite (PL.LT.lt (PL.LE.len rfl T.b_len (LA.cons (PL.LE.var 2) LA.nil)) (PL.LE.var 1)) (LSs.one (LS.expr (PL.LE.app (PL.LE.var 2) (PL.LE.mod (PL.LE.intOf rfl T.b_int (LA.cons (PL.LE.add (PL.LE.add (PL.LE.mul (PL.LE.len rfl T.b_len (LA.cons (PL.LE.var 2) LA.nil)) PL.LE.int) (PL.LE.mul PL.LE.int (PL.LE.var 3))) (PL.LE.mul (PL.LE.mul (PL.LE.var 6) (PL.LE.var 6)) PL.LE.int)) LA.nil)) PL.LE.int)))) LSs.nil))) (LSs.one (LS.retD [2] (PL.LE.slice (PL.LE.var 2) LO.none (LO.some (PL.LE.var 1)))))))))
def b_law_gates_2 (Γ : Ctx) := ((pIfS (pTest (pBin oGt (pCallB (on1 kLen) (pCons (pVar 8) pNil)) (pC (.int 0)))) (pDrop (pApp (pVar 11) (pPop (pVar 8) (pBin oMod (pBin oDiv (pVar 7) (pBin oAdd (pVar 12) (pC (.int 1)))) (pCallB (on1 kLen) (pCons (pVar 8) pNil)))))) pNext) : PTS)
def q_law_gates_1_5 (Γ : Ctx) := ((pSeq (pSet 11 (pLstM pNil)) (pSeq (pFor (piR1 (pBin oMod (pBin oDiv (pVar 6) (pC (.int 512))) (pC (.int 4)))) (gpName 12) (b_law_gates_2 Γ)) (pSeq (pDrop (pApp (pVar 4) (pBin oAdd (pTup (pCons (pBin oIx (pVar 10) (pC (.int 0))) (pCons (pCallB (on1 kTup) (pCons (pCallB (on1 kSort) (pCons (pVar 11) pNil)) pNil)) pNil))) (pSl (pVar 10) (pPart (pC (.int 2))) pNoPart)))) (pDropAt 11 (pDropAt 8 pNext))))) : PTS)
def b_law_gates_1 (Γ : Ctx) := ((pSeq (pPar 6 7 (pCons (pBin oIx (pVar 0) (pBin oAdd (pVar 1) (pBin oMul (pC (.int 2)) (pVar 5)))) (pCons (pBin oIx (pVar 0) (pBin oAdd (pBin oAdd (pVar 1) (pBin oMul (pC (.int 2)) (pVar 5))) (pC (.int 1)))) pNil))) (pSeq (pSet 8 (pLstRg (pVar 3))) (pSeq (pSet 9 (pPop (pVar 8) (pBin oMod (pVar 6) (pVar 3)))) (pSeq (pSet 10 (pTup (pCons (pC (.str (PySem.Str.ofString "turn"))) (pCons (pTup pNil) (pCons (pVar 9) pNil))))) (pSeq (pIfS (pAnd (pTest (pBin oEq (pBin oMod (pBin oDiv (pVar 6) (pVar 3)) (pC (.int 3))) (pC (.int 0)))) (pTest (pBin oGt (pCallB (on1 kLen) (pCons (pVar 8) pNil)) (pC (.int 0))))) (pSet 10 (pTup (pCons (pC (.str (PySem.Str.ofString "swap"))) (pCons (pTup pNil) (pCons (pVar 9) (pCons (pPop (pVar 8) (pBin oMod (pBin oDiv (pVar 6) (pC (.int 64))) (pCallB (on1 kLen) (pCons (pVar 8) pNil)))) pNil)))))) pNext) (q_law_gates_1_5 Γ)))))) : PTS)
def t_law_gates (Γ : Ctx) : PTS := (pSeq (pSet 4 (pLstM pNil)) (pSeq (pFor (piR1 (pVar 2)) (gpName 5) (b_law_gates_1 Γ)) (pRetFD [8, 11] (pVar 4))))
theorem d_law_gates {P : Program} {w : World} {K : PySem.W.Frag} {mg : Str → Option Value} {base : Heap} {Γ : Ctx} (T : Txt K mg Γ)  {f : Addr} {cdv : Value} {A : Around} {outer : List Env} {s : Shared} {H : Hp} {E : XK}
    (hr : Room 0 (A.deeper (envOfC "_law_gates" (defScope s_law_gates) s.heap.objs.size f cdv))) :
    LSs (cxOf (L2.CX P w) P w K mg base ["draws", "at", "many", "lines", "gates", "k", "draw", "more", "left", "i", "gate", "controls", "j"] "_law_gates" (defScope s_law_gates) f cdv A outer s H E) (defBody s_law_gates) (t_law_gates Γ) :=
  (LSs.cons (LS.set 4 sc_law_gates.nd (PL.LE.lstM LA.nil)) (LSs.cons (LS.for (passes_of rfl) rfl (LI.rng1 rfl T.b_range (PL.LE.var 2)) (LG.name 5 sc_law_gates.nd) (LSs.cons (LS.par 6 7 rfl sc_law_gates.nd (by decide) (LA.cons (PL.LE.ix (PL.LE.var 0) (PL.LE.add (PL.LE.var 1) (PL.LE.mul PL.LE.int (PL.LE.var 5)))) (LA.cons (PL.LE.ix (PL.LE.var 0) (PL.LE.add (PL.LE.add (PL.LE.var 1) (PL.LE.mul PL.LE.int (PL.LE.var 5))) PL.LE.int)) LA.nil)) (by rfl)) (LSs.cons (LS.set 8 sc_law_gates.nd (PL.LE.listRg rfl rfl T.b_list rfl T.b_range (PL.LE.var 3))) (LSs.cons (LS.set 9 sc_law_gates.nd (PL.LE.popAt (PL.LE.var 8) (PL.LE.mod (PL.LE.var 6) (PL.LE.var 3)))) (LSs.cons (LS.set 10 sc_law_gates.nd (PL.LE.tup (LA.cons PL.LE.str (LA.cons (PL.LE.tup LA.nil) (LA.cons (PL.LE.var 9) LA.nil))))) (LSs.cons (LS.ite (LW.lt (LW.and (PL.LT.eq hr.units (PL.LE.mod (PL.LE.div (PL.LE.var 6) (PL.LE.var 3)) PL.LE.int) PL.LE.int) (LW.and1 (PL.LT.gt (PL.LE.len rfl T.b_len (LA.cons (PL.LE.var 8) LA.nil)) PL.LE.int)))) (LSs.one (LS.set 10 sc_law_gates.nd (PL.LE.tup (LA.cons PL.LE.str (LA.cons (PL.LE.tup LA.nil) (LA.cons (PL.LE.var 9) (LA.cons (PL.LE.popAt (PL.LE.var 8) (PL.LE.mod (PL.LE.div (PL.LE.var 6) PL.LE.int) (PL.LE.len rfl T.b_len (LA.cons (PL.LE.var 8) LA.nil)))) LA.nil))))))) LSs.nil) (LSs.cons (LS.set 11 sc_law_gates.nd (PL.LE.lstM LA.nil)) (LSs.cons (LS.for (passes_of rfl) rfl (LI.rng1 rfl T.b_range (PL.LE.mod (PL.LE.div (PL.LE.var 6) PL.LE.int) PL.LE.int)) (LG.name 12 sc_law_gates.nd) (LSs.one (LS.ite (PL.LT.gt (PL.LE.len rfl T.b_len (LA.cons (PL.LE.var 8) LA.nil)) PL.LE.int) (LSs.one (LS.expr (PL.LE.app (PL.LE.var 11) (PL.LE.popAt (PL.LE.var 8) (PL.LE.mod (PL.LE.div (PL.LE.var 7) (PL.LE.add (PL.LE.var 12) PL.LE.int)) (PL.LE.len rfl T.b_len (LA.cons (PL.LE.var 8) LA.nil))))))) LSs.nil))) (LSs.cons (LS.expr (PL.LE.app (PL.LE.var 4) (PL.LE.add (PL.LE.tup (LA.cons (PL.LE.ix (PL.LE.var 10) PL.LE.int) (LA.cons (PL.LE.tupOf rfl T.b_tuple (LA.cons (PL.LE.sorted rfl T.b_sorted (LA.cons (PL.LE.var 11) LA.nil)) LA.nil)) LA.nil))) (PL.LE.slice (PL.LE.var 10) (LO.some PL.LE.int) LO.none)))) (LSs.dropAt 11 (LSs.dropAt 8 LSs.nil))))))))))) (LSs.one (LS.retFD [8, 11] (PL.LE.var 4)))))
def b_law_taken_1 (Γ : Ctx) := ((pIfS (pTest (pCallB (on1 kAll) (pCons (pLc (piT (pBin oIx (pVar 3) (pC (.int 1)))) 6 pYes (pBin oEq (pBin oIx (pVar 2) (pVar 6)) (pC (.int 1)))) pNil))) (pIfS (pTest (pBin oEq (pBin oIx (pVar 3) (pC (.int 0))) (pC (.str (PySem.Str.ofString "turn"))))) (pAsg (pBin oSub (pC (.int 1)) (pBin oIx (pVar 2) (pBin oIx (pVar 3) (pC (.int 2))))) (gpSub (pVar 2) (pBin oIx (pVar 3) (pC (.int 2))))) (pSeq (pPar 4 5 (pCons (pBin oIx (pVar 2) (pBin oIx (pVar 3) (pC (.int 2)))) (pCons (pBin oIx (pVar 2) (pBin oIx (pVar 3) (pC (.int 3)))) pNil))) (pSeq (pAsg (pVar 5) (gpSub (pVar 2) (pBin oIx (pVar 3) (pC (.int 2))))) (pAsg (pVar 4) (gpSub (pVar 2) (pBin oIx (pVar 3) (pC (.int 3)))))))) pNext) : PTS)
def t_law_taken (Γ : Ctx) : PTS := (pSeq (pSet 2 (pCallB (on1 kListM) (pCons (pVar 1) pNil))) (pSeq (pFor (piL (pVar 0)) (gpName 3) (b_law_taken_1 Γ)) (pRetD [2] (pCallB (on1 kTup) (pCons (pVar 2) pNil)))))
theorem d_law_taken {P : Program} {w : World} {K : PySem.W.Frag} {mg : Str → Option Value} {base : Heap} {Γ : Ctx} (T : Txt K mg Γ)  {f : Addr} {cdv : Value} {A : Around} {outer : List Env} {s : Shared} {H : Hp} {E : XK}
    (hr : Room 0 (A.deeper (envOfC "_law_taken" (defScope s_law_taken) s.heap.objs.size f cdv))) :
    LSs (cxOf (L2.CX P w) P w K mg base ["gates", "bits", "row", "gate", "first", "second", "line"] "_law_taken" (defScope s_law_taken) f cdv A outer s H E) (defBody s_law_taken) (t_law_taken Γ) :=
  (LSs.cons (LS.set 2 sc_law_taken.nd (PL.LE.listM rfl T.b_list (LA.cons (PL.LE.var 1) LA.nil))) (LSs.cons (LS.for (passes_of rfl) rfl (LI.list (PL.LE.var 0)) (LG.name 3 sc_law_taken.nd) (LSs.one (LS.ite (PL.LT.val (PL.LE.all rfl rfl T.b_all (LA.cons (PL.LE.lc rfl sc_law_taken.nd (LI.tup (PL.LE.ix (PL.LE.var 3) PL.LE.int)) (blkOk_by (N := ["gates", "bits", "row", "gate", "first", "second", "line"]) (sc := defScope s_law_taken) (by decide +kernel)) (fun _ _ _ _ _ => pg_name (i := 6) sc_law_taken.nd rfl (Or.inl rfl)) (fun _ _ _ _ _ => LTs.nil) (fun _ _ _ _ _ => (PL.LE.eq hr.units (PL.LE.ix (PL.LE.var 2) (PL.LE.var 6)) PL.LE.int))) LA.nil))) (LSs.one (LS.ite (PL.LT.eq hr.units (PL.LE.ix (PL.LE.var 3) PL.LE.int) PL.LE.str) (LSs.one (LS.asg (PL.LE.sub PL.LE.int (PL.LE.ix (PL.LE.var 2) (PL.LE.ix (PL.LE.var 3) PL.LE.int))) (LG.sub (PL.LE.var 2) (PL.LE.ix (PL.LE.var 3) PL.LE.int)))) (LSs.cons (LS.par 4 5 rfl sc_law_taken.nd (by decide) (LA.cons (PL.LE.ix (PL.LE.var 2) (PL.LE.ix (PL.LE.var 3) PL.LE.int)) (LA.cons (PL.LE.ix (PL.LE.var 2) (PL.LE.ix (PL.LE.var 3) PL.LE.int)) LA.nil)) (by rfl)) (LSs.cons (LS.asg (PL.LE.var 5) (LG.sub (PL.LE.var 2) (PL.LE.ix (PL.LE.var 3) PL.LE.int))) (LSs.one (LS.asg (PL.LE.var 4) (LG.sub (PL.LE.var 2) (PL.LE.ix (PL.LE.var 3) PL.LE.int)))))))) LSs.nil))) (LSs.one (LS.retD [2] (PL.LE.tupOf rfl T.b_tuple (LA.cons (PL.LE.var 2) LA.nil))))))
def b_law_words_2 (Γ : Ctx) := ((pSet 3 (pBin oAdd (pVar 3) (pLst (pCons (pBin oAdd (pVar 4) (pTup (pCons (pC (.int 0)) pNil))) (pCons (pBin oAdd (pVar 4) (pTup (pCons (pC (.int 1)) pNil))) pNil))))) : PTS)
def b_law_words_1 (Γ : Ctx) := ((pSeq (pSet 3 (pLst pNil)) (pSeq (pFor (piL (pVar 1)) (gpName 4) (b_law_words_2 Γ)) (pSet 1 (pVar 3)))) : PTS)
def t_law_words (Γ : Ctx) : PTS := (pSeq (pSet 1 (pLst (pCons (pTup pNil) pNil))) (pSeq (pFor (piR1 (pVar 0)) (gpName 2) (b_law_words_1 Γ)) (pRet (pVar 1))))
theorem d_law_words {P : Program} {w : World} {K : PySem.W.Frag} {mg : Str → Option Value} {base : Heap} {Γ : Ctx} (T : Txt K mg Γ)  {f : Addr} {cdv : Value} {A : Around} {outer : List Env} {s : Shared} {H : Hp} {E : XK}
    (hr : Room 0 (A.deeper (envOfC "_law_words" (defScope s_law_words) s.heap.objs.size f cdv))) :
    LSs (cxOf (L2.CX P w) P w K mg base ["many", "found", "k", "longer", "word"] "_law_words" (defScope s_law_words) f cdv A outer s H E) (defBody s_law_words) (t_law_words Γ) :=
  (LSs.cons (LS.set 1 sc_law_words.nd (PL.LE.lst (LA.cons (PL.LE.tup LA.nil) LA.nil))) (LSs.cons (LS.for (passes_of rfl) rfl (LI.rng1 rfl T.b_range (PL.LE.var 0)) (LG.name 2 sc_law_words.nd) (LSs.cons (LS.set 3 sc_law_words.nd (PL.LE.lst LA.nil)) (LSs.cons (LS.for (passes_of rfl) rfl (LI.list (PL.LE.var 1)) (LG.name 4 sc_law_words.nd) (LSs.one (LS.set 3 sc_law_words.nd (PL.LE.add (PL.LE.var 3) (PL.LE.lst (LA.cons (PL.LE.add (PL.LE.var 4) (PL.LE.tup (LA.cons PL.LE.int LA.nil))) (LA.cons (PL.LE.add (PL.LE.var 4) (PL.LE.tup (LA.cons PL.LE.int LA.nil))) LA.nil))))))) (LSs.one (LS.set 1 sc_law_words.nd (PL.LE.var 3)))))) (LSs.one (LS.ret (PL.LE.var 1)))))
def b_law_due_1 (Γ : Ctx) := ((pSeq (pSet 6 (pCall (sp_law_taken Γ) (pCons (pVar 0) (pCons (pBin oAdd (pVar 5) (pBin oMulA (pTup (pCons (pC (.int 0)) pNil)) (pBin oSub (pVar 1) (pVar 2)))) pNil)))) (pSeq (pIfS (pOr (pTest (pBin oNe (pSl (pVar 6) pNoPart (pPart (pVar 2))) (pVar 5))) (pTest (pBin oIn (pC (.int 1)) (pSl (pVar 6) (pPart (pBin oAdd (pVar 2) (pVar 3))) pNoPart)))) (pRetD [4] (pC (.str (PySem.Str.ofString "dirty")))) pNext) (pDrop (pApp (pVar 4) (pSl (pVar 6) (pPart (pVar 2)) (pPart (pBin oAdd (pVar 2) (pVar 3)))))))) : PTS)
def t_law_due (Γ : Ctx) : PTS := (pSeq (pIfS (pOr (pTest (pBin oLt (pVar 2) (pC (.int 1)))) (pOr (pTest (pBin oGt (pVar 2) (pC (.int 6)))) (pOr (pTest (pBin oLt (pVar 3) (pC (.int 1)))) (pOr (pTest (pBin oGt (pVar 3) (pC (.int 6)))) (pTest (pBin oLt (pVar 1) (pBin oAdd (pVar 2) (pVar 3)))))))) (pRetD [4] (pC (.str (PySem.Str.ofString "bad")))) pNext) (pSeq (pSet 4 (pLstM pNil)) (pSeq (pFor (piL (pCall (sp_law_words Γ) (pCons (pVar 2) pNil))) (gpName 5) (b_law_due_1 Γ)) (pRetF (pVar 4)))))
theorem d_law_due {P : Program} {w : World} {K : PySem.W.Frag} {mg : Str → Option Value} {base : Heap} {Γ : Ctx} (T : Txt K mg Γ) (G_law_words : GFn P w K mg base (PySem.Str.ofString "_law_words") 1 ["many"] (sp_law_words Γ)) (G_law_taken : GFn P w K mg base (PySem.Str.ofString "_law_taken") 1 ["gates", "bits"] (sp_law_taken Γ)) {f : Addr} {cdv : Value} {A : Around} {outer : List Env} {s : Shared} {H : Hp} {E : XK}
    (hr : Room 1 (A.deeper (envOfC "_law_due" (defScope s_law_due) s.heap.objs.size f cdv))) :
    LSs (cxOf (L2.CX P w) P w K mg base ["gates", "lines", "k", "m", "found", "word", "bits"] "_law_due" (defScope s_law_due) f cdv A outer s H E) (defBody s_law_due) (t_law_due Γ) :=
  (LSs.cons (LS.ite (LW.lt (LW.or (PL.LT.lt (PL.LE.var 2) PL.LE.int) (LW.or (PL.LT.gt (PL.LE.var 2) PL.LE.int) (LW.or (PL.LT.lt (PL.LE.var 3) PL.LE.int) (LW.or (PL.LT.gt (PL.LE.var 3) PL.LE.int) (LW.or1 (PL.LT.lt (PL.LE.var 1) (PL.LE.add (PL.LE.var 2) (PL.LE.var 3))))))))) (LSs.one (LS.retD [4] PL.LE.str)) LSs.nil) (LSs.cons (LS.set 4 sc_law_due.nd (PL.LE.lstM LA.nil)) (LSs.cons (LS.for (passes_of rfl) rfl (LI.list (PL.LE.call G_law_words (hr.mono (by decide)) rfl (LA.cons (PL.LE.var 2) LA.nil))) (LG.name 5 sc_law_due.nd) (LSs.cons (LS.set 6 sc_law_due.nd (PL.LE.call G_law_taken (hr.mono (by decide)) rfl (LA.cons (PL.LE.var 0) (LA.cons (PL.LE.add (PL.LE.var 5) (PL.LE.mulA (PL.LE.tup (LA.cons PL.LE.int LA.nil)) (PL.LE.sub (PL.LE.var 1) (PL.LE.var 2)))) LA.nil)))) (LSs.cons (LS.ite (LW.lt (LW.or (PL.LT.ne hr.units (PL.LE.slice (PL.LE.var 6) LO.none (LO.some (PL.LE.var 2))) (PL.LE.var 5)) (LW.or1 (PL.LT.inT (Room.units65 hr) PL.LE.int (PL.LE.slice (PL.LE.var 6) (LO.some (PL.LE.add (PL.LE.var 2) (PL.LE.var 3))) LO.none))))) (LSs.one (LS.retD [4] PL.LE.str)) LSs.nil) (LSs.one (LS.expr (PL.LE.app (PL.LE.var 4) (PL.LE.slice (PL.LE.var 6) (LO.some (PL.LE.var 2)) (LO.some (PL.LE.add (PL.LE.var 2) (PL.LE.var 3)))))))))) (LSs.one (LS.retF (PL.LE.var 4))))))
def t_law_found (Γ : Ctx) : PTS := (pTryAs 4 3 (fun C => Γ.exm C Γ.BackError) (pRet (pCall (sp_table_of Γ) (pCons (pVar 0) (pCons (pVar 1) (pCons (pVar 2) pNil))))) (fun C a => (pRet (pJoin (pC (.str (PySem.Str.ofString ""))) (pLst (pCons (pBin oIx (pLst (pCons (pC (.str (PySem.Str.ofString ""))) (pCons (pC (.str (PySem.Str.ofString "bad"))) pNil))) (pCallB (on1 kInt) (pCons (fun E σ M Q => (pVar 3) E σ M fun x M1 => kIsE a (Γ.kit C (.ref Γ.BadTable)) x M1 Q) pNil))) (pCons (pBin oIx (pLst (pCons (pC (.str (PySem.Str.ofString ""))) (pCons (pC (.str (PySem.Str.ofString "dirty"))) pNil))) (pCallB (on1 kInt) (pCons (fun E σ M Q => (pVar 3) E σ M fun x M1 => kIsE a (Γ.kit C (.ref Γ.NotClean)) x M1 Q) pNil))) pNil)))))))
theorem d_law_found {P : Program} {w : World} {K : PySem.W.Frag} {mg : Str → Option Value} {base : Heap} {Γ : Ctx} (T : Txt K mg Γ) (G_table_of : GFn P w K mg base (PySem.Str.ofString "table_of") 6 ["net", "k", "m"] (sp_table_of Γ)) {f : Addr} {cdv : Value} {A : Around} {outer : List Env} {s : Shared} {H : Hp} {E : XK}
    (hr : Room 6 (A.deeper (envOfC "_law_found" (defScope s_law_found) s.heap.objs.size f cdv))) :
    LSs (cxOf (L2.CX P w) P w K mg base ["net", "k", "m", "e"] "_law_found" (defScope s_law_found) f cdv A outer s H E) (defBody s_law_found) (t_law_found Γ) :=
  (LSs.one (LS.tryAs (c := .ref Γ.BackError) (exm := fun C => Γ.exm C Γ.BackError) (i := 3) sc_law_found.nd ⟨rfl, by decide, .inl T.g_BackError⟩ (fun C b h => T.exm_ok C _ b h) (fun pn xe hp => (LSs.one (LS.ret (PL.LE.call G_table_of (hr.mono (by decide)) rfl (LA.cons (PL.LE.var 0) (LA.cons (PL.LE.var 1) (LA.cons (PL.LE.var 2) LA.nil))))))) (fun C b a oe pn hC hz hf => (LSs.one (LS.ret (PL.LE.join PL.LE.str (PL.LE.lst (LA.cons (PL.LE.ix (PL.LE.lst (LA.cons PL.LE.str (LA.cons PL.LE.str LA.nil))) (PL.LE.intOf rfl T.b_int (LA.cons (PL.LE.isE (CY := Γ.BadTable) (T.exm_cls _ _ _ hC) hz hf rfl T.b_isinstance rfl T.g_BadTable (T.kit_ok C (.ref Γ.BadTable)) (PL.LE.var 3)) LA.nil))) (LA.cons (PL.LE.ix (PL.LE.lst (LA.cons PL.LE.str (LA.cons PL.LE.str LA.nil))) (PL.LE.intOf rfl T.b_int (LA.cons (PL.LE.isE (CY := Γ.NotClean) (T.exm_cls _ _ _ hC) hz hf rfl T.b_isinstance rfl T.g_NotClean (T.kit_ok C (.ref Γ.NotClean)) (PL.LE.var 3)) LA.nil))) LA.nil)))))))))
def r_law_8 (Γ : Ctx) := ((pRet (pAndV (pBin oEq (pVar 7) (pCall (sp_law_due Γ) (pCons (pVar 5) (pCons (pVar 2) (pCons (pVar 3) (pCons (pVar 4) pNil)))))) (pBin oEq (pFzE (pMeth Γ.Net (PySem.Str.ofString "gates") (sp_Net_gates Γ) (pVar 6) pNil)) (pVar 5)))) : PTS)
def r_law_7 (Γ : Ctx) := ((pSeq (pSet 7 (pCall (sp_law_found Γ) (pCons (pVar 6) (pCons (pVar 3) (pCons (pVar 4) pNil))))) (r_law_8 Γ)) : PTS)
def r_law_6 (Γ : Ctx) := ((pSeq (pSet 6 (pMake Γ.Net (sp_Net_init Γ) (pCons (pVar 2) (pCons (pVar 5) pNil)))) (r_law_7 Γ)) : PTS)
def r_law_5 (Γ : Ctx) := ((pSeq (pIfS (pTest (pBin oEq (pBin oMod (pBin oIx (pVar 1) (pC (.int 55))) (pC (.int 12))) (pC (.int 0)))) (pAsg (pBin oIx (pLst (pCons (pTup (pCons (pC (.int 7)) (pCons (pC (.int 1)) pNil))) (pCons (pTup (pCons (pC (.int 1)) (pCons (pC (.int 7)) pNil))) (pCons (pTup (pCons (pC (.int 0)) (pCons (pC (.int 1)) pNil))) (pCons (pTup (pCons (pC (.int 1)) (pCons (pC (.int 0)) pNil))) (pCons (pTup (pCons (pNeg (pC (.int 1))) (pCons (pC (.int 1)) pNil))) pNil)))))) (pBin oMod (pBin oIx (pVar 1) (pC (.int 56))) (pC (.int 5)))) (gpTup 2 (gpCons (gpName 3) (gpCons (gpName 4) gpNil)))) pNext) (r_law_6 Γ)) : PTS)
def r_law_4 (Γ : Ctx) := ((pSeq (pIfS (pTest (pBin oGt (pBin oMod (pBin oIx (pVar 1) (pC (.int 54))) (pC (.int 3))) (pC (.int 0)))) (pSet 5 (pLc (piL (pVar 5)) 8 (pAnd (pTest (pBin oGe (pCallB (on1 kMinT) (pCons (pSl (pVar 8) (pPart (pC (.int 2))) pNoPart) pNil)) (pVar 3))) (pTest (pBin oLt (pCallB (on1 kMaxT) (pCons (pSl (pVar 8) (pPart (pC (.int 2))) pNoPart) pNil)) (pBin oAdd (pVar 3) (pVar 4))))) (pVar 8))) pNext) (r_law_5 Γ)) : PTS)
def r_law_3 (Γ : Ctx) := ((pSeq (pSet 5 (pCall (sp_law_gates Γ) (pCons (pVar 1) (pCons (pC (.int 0)) (pCons (pBin oMod (pBin oIx (pVar 1) (pC (.int 53))) (pC (.int 9))) (pCons (pVar 2) pNil)))))) (r_law_4 Γ)) : PTS)
def r_law_2 (Γ : Ctx) := ((pSeq (pAsg (pTup (pCons (pBin oMod (pBin oIx (pVar 1) (pC (.int 51))) (pC (.int 5))) (pCons (pBin oMod (pBin oIx (pVar 1) (pC (.int 52))) (pC (.int 5))) pNil))) (gpTup 2 (gpCons (gpName 3) (gpCons (gpName 4) gpNil)))) (r_law_3 Γ)) : PTS)
def r_law_1 (Γ : Ctx) := ((pSeq (pSet 2 (pBin oAdd (pC (.int 2)) (pBin oMod (pBin oIx (pVar 1) (pC (.int 50))) (pC (.int 6))))) (r_law_2 Γ)) : PTS)
def t_law (Γ : Ctx) : PTS := (pSeq (pSet 1 (pCall (sp_law_draws Γ) (pCons (pVar 0) (pCons (pC (.int 60)) pNil)))) (r_law_1 Γ))
theorem d_law {P : Program} {w : World} {K : PySem.W.Frag} {mg : Str → Option Value} {base : Heap} {Γ : Ctx} (T : Txt K mg Γ) (G_law_draws : GFn P w K mg base (PySem.Str.ofString "_law_draws") 1 ["script", "many"] (sp_law_draws Γ)) (G_law_gates : GFn P w K mg base (PySem.Str.ofString "_law_gates") 1 ["draws", "at", "many", "lines"] (sp_law_gates Γ)) (G_Net_init : GMk P w K mg base (PySem.Str.ofString "Net") Γ.Net 5 ["self", "lines", "gates"] (sp_Net_init Γ)) (G_law_found : GFn P w K mg base (PySem.Str.ofString "_law_found") 7 ["net", "k", "m"] (sp_law_found Γ)) (G_law_due : GFn P w K mg base (PySem.Str.ofString "_law_due") 2 ["gates", "lines", "k", "m"] (sp_law_due Γ)) (G_Net_gates : GMt P w K mg base Γ.Net (PySem.Str.ofString "gates") 1 ["self"] (sp_Net_gates Γ)) {f : Addr} {cdv : Value} {A : Around} {outer : List Env} {s : Shared} {H : Hp} {E : XK}
    (hr : Room 7 (A.deeper (envOfC "law" (defScope s_law) s.heap.objs.size f cdv))) :
    LSs (cxOf (L2.CX P w) P w K mg base ["script", "draws", "lines", "k", "m", "gates", "net", "found", "gate"] "law" (defScope s_law) f cdv A outer s H E) (defBody s_law) (t_law Γ) :=
  (LSs.cons (LS.set 1 sc_law.nd (PL.LE.call G_law_draws (hr.mono (by decide)) rfl (LA.cons (PL.LE.var 0) (LA.cons PL.LE.int LA.nil)))) (LSs.cons (LS.set 2 sc_law.nd (PL.LE.add PL.LE.int (PL.LE.mod (PL.LE.ix (PL.LE.var 1) PL.LE.int) PL.LE.int))) (LSs.cons (LS.asg (PL.LE.tup (LA.cons (PL.LE.mod (PL.LE.ix (PL.LE.var 1) PL.LE.int) PL.LE.int) (LA.cons (PL.LE.mod (PL.LE.ix (PL.LE.var 1) PL.LE.int) PL.LE.int) LA.nil))) (LG.tup rfl (LGs.cons (LG.name 3 sc_law.nd) (LGs.cons (LG.name 4 sc_law.nd) LGs.nil)))) (LSs.cons (LS.set 5 sc_law.nd (PL.LE.call G_law_gates (hr.mono (by decide)) rfl (LA.cons (PL.LE.var 1) (LA.cons PL.LE.int (LA.cons (PL.LE.mod (PL.LE.ix (PL.LE.var 1) PL.LE.int) PL.LE.int) (LA.cons (PL.LE.var 2) LA.nil)))))) (LSs.cons (LS.ite (PL.LT.gt (PL.LE.mod (PL.LE.ix (PL.LE.var 1) PL.LE.int) PL.LE.int) PL.LE.int) (LSs.one (LS.setLc 5 rfl sc_law.nd rfl rfl (sw_true rfl rfl rfl (by decide +kernel)) (LI.list (PL.LE.var 5)) (blkOk_by (N := ["script", "draws", "lines", "k", "m", "gates", "net", "found", "gate"]) (sc := defScope s_law) (by decide +kernel)) (fun _ _ _ _ _ => pg_name (i := 8) sc_law.nd rfl (Or.inl rfl)) (fun _ _ _ _ _ => (LTs.one (LW.lt (LW.and (PL.LT.ge (PL.LE.minT rfl rfl T.b_min (LA.cons (PL.LE.slice (PL.LE.var 8) (LO.some PL.LE.int) LO.none) LA.nil)) (PL.LE.var 3)) (LW.and1 (PL.LT.lt (PL.LE.maxT rfl rfl T.b_max (LA.cons (PL.LE.slice (PL.LE.var 8) (LO.some PL.LE.int) LO.none) LA.nil)) (PL.LE.add (PL.LE.var 3) (PL.LE.var 4)))))))) (fun _ _ _ _ _ => (PL.LE.var 8)))) LSs.nil) (LSs.cons (LS.ite (PL.LT.eq hr.units (PL.LE.mod (PL.LE.ix (PL.LE.var 1) PL.LE.int) PL.LE.int) PL.LE.int) (LSs.one (LS.asg (PL.LE.ix (PL.LE.lst (LA.cons (PL.LE.tup (LA.cons PL.LE.int (LA.cons PL.LE.int LA.nil))) (LA.cons (PL.LE.tup (LA.cons PL.LE.int (LA.cons PL.LE.int LA.nil))) (LA.cons (PL.LE.tup (LA.cons PL.LE.int (LA.cons PL.LE.int LA.nil))) (LA.cons (PL.LE.tup (LA.cons PL.LE.int (LA.cons PL.LE.int LA.nil))) (LA.cons (PL.LE.tup (LA.cons (PL.LE.neg PL.LE.int) (LA.cons PL.LE.int LA.nil))) LA.nil)))))) (PL.LE.mod (PL.LE.ix (PL.LE.var 1) PL.LE.int) PL.LE.int)) (LG.tup rfl (LGs.cons (LG.name 3 sc_law.nd) (LGs.cons (LG.name 4 sc_law.nd) LGs.nil))))) LSs.nil) (LSs.cons (LS.set 6 sc_law.nd (PL.LE.make G_Net_init (hr.mono (by decide)) rfl (LA.cons (PL.LE.var 2) (LA.cons (PL.LE.var 5) LA.nil)))) (LSs.cons (LS.set 7 sc_law.nd (PL.LE.call G_law_found (hr.mono (by decide)) rfl (LA.cons (PL.LE.var 6) (LA.cons (PL.LE.var 3) (LA.cons (PL.LE.var 4) LA.nil))))) (LSs.one (LS.ret (PL.LE.and (PL.LE.eq hr.units (PL.LE.var 7) (PL.LE.call G_law_due (hr.mono (by decide)) rfl (LA.cons (PL.LE.var 5) (LA.cons (PL.LE.var 2) (LA.cons (PL.LE.var 3) (LA.cons (PL.LE.var 4) LA.nil)))))) (PL.LE.one (PL.LE.eq hr.units (PL.LE.fz (PL.LE.meth0 G_Net_gates T.cNet.cl (hr.mono (by decide)) (PL.LE.var 6))) (PL.LE.var 5))))))))))))))
end My
set_option Elab.async false
set_option linter.all false
set_option maxRecDepth 100000
namespace My
open PySem PL TM
section
variable {M : Mem} {Q : PQ}
theorem ix_lI {ns : List Int} {i : Int} {x : Int} {M : Mem} {Q : PQ} (h : 0 ≤ i) (e : ns[i.toNat]? = some x) : oIx (lI ns) (.int i) M Q = Q (.int x) M := by
  unfold lI
  rw [PL.ix_lst, at_pos _ h, List.getElem?_map, e]
  rfl
theorem len_lI {ns : List Int} {M : Mem} {Q : PQ} : kLen (lI ns) M Q = Q (.int ns.length) M := by
  unfold lI
  rw [PL.len_lst, List.length_map]
theorem tupF_tI {l : List Int} : tupF (tI l) = some (l.map PV.int) := rfl
theorem tI_rev {l : List Int} : PV.tup (List.map PV.int l).reverse = tI l.reverse := by unfold tI; rw [List.map_reverse]
theorem addR_tI {l : List Int} {w : Int} : oAdd (tI l) (.tup [.int w]) M Q = (l.length + 1 ≤ sizeLine ∧ Q (tI (l ++ [w])) M) := add_tI (r := [w])
theorem addL_tI {l : List Int} {w : Int} : oAdd (.tup [.int w]) (tI l) M Q = (1 + l.length ≤ sizeLine ∧ Q (tI (w :: l)) M) := add_tI (l := [w])
end

local macro_rules | `(tactic| walk_at "pl") => `(tactic| try simp only [pSeq, pNext, pSet, pRet, pRetN, pIfS, pVar, pC, pTest, pBin, pAnd, pOr, pNot, pAndV, pOrV, pNotV, pIsN, pNotN, pTIsN, pTNotN, pCons, pNil, pTup, pLst, pLstM, pCall, pCallB, pDrop, pAsg, gpName, kB_bl, need_some, need_none, pIf, pSl, pNoPart,
  piL, piT, pFor, pLc, pAug, pFldS, pForM, pMeth, pFld, fldOf_obj, objOf_obj, pApp, gpSub, pRetF, pRetFD, pRetD, dropSlots, pTupRev, pBreak, pCont, pRaise, pTryAs, pMake, kIsE, r_isB, r_notB,
  pstart, List.map_cons, List.map_nil, List.cons_append, List.nil_append, List.length_cons, List.length_nil, List.replicate, List.getElem?_cons_zero, List.getElem?_cons_succ, List.set_cons_zero, List.set_cons_succ, Nat.reduceSub, Nat.reduceAdd, Nat.zero_add, Nat.add_zero, Nat.sub_self,
  Bool.false_eq_true, if_false, if_true, ite_true, ite_false, reduceIte, Bool.not_true, Bool.not_false, Bool.true_eq_false, decide_eq_true_eq, Bool.not_eq_true', List.length_append, true_and, and_true, List.length_map,
  isi_int, isi_bl, isi_str, isi_non, isi_tup, isi_lst, kit_ib, kit_ii, kit_it, kit_il, kit_is, kit_bb, kit_bi, kit_bt, kit_bl, kit_bs, kit_tb, kit_ti, kit_tt, kit_tl, kit_ts, kit_lb, kit_li, kit_lt, kit_ll, kit_ls, kit_sb, kit_si, kit_st, kit_sl, kit_ss, kit_nb, kit_ni, kit_nt, kit_nl, kit_ns,
  PL.ix_tup, PL.ix_lst, ix_scr, at_0, at_1, at_2, at_3, at_4, at_5, len_tup, len_lst, len_scr, eq_int', ne_int', eq_bl', ne_bl', eq_str', ne_str', sl_tup, sl_lst, sl_scr, cutA_map, cutA_from1,
  r_add_int, r_add_str, r_add_tup, r_add_lst, r_mulA_int, r_mulA_tup, r_I0, r_I, r_neg, r_neg_int, r_chain, r_ch1, r_ch2, r_abs, r_int, r_min2, r_max2, r_list_lst, r_list_tup, r_list_scr, r_tup_lst, r_tup_tup, r_listM_lst, r_listM_tup, r_on1, r_on2, r_gtup, r_gcons, r_gnil,
  r_non_non, r_non_int, r_non_tup, r_non_lst, r_non_str, r_non_bl, r_non_ptr, r_non_obj, r_part, r_part_int, r_R1, r_R1_int, r_R2, r_R2_int, r_lstF, r_lstF_scr, r_tupF, cdiv_eq, Int.reduceLT, Int.reduceLE, Int.reduceNeg, Int.reduceAdd, Int.reduceSub, Int.reduceMul, Int.reduceEq, Int.reducePow, Nat.reducePow,
  eq_tI, eq_tI_nil, len_lI, tupF_tI, tI_rev, addR_tI, addL_tI, sl_tI_tail, len_tI, tup_tI, add_tI])
theorem tyOf_ptr_list {M : Mem} {a : Addr} {n : String} (ht : tyOf M (.ptr a) = some n) : n = "list" := by
  have h' : (match M a with | some (.lst _) => some "list" | _ => none) = some n := ht
  cases hm : M a with
  | none => rw [hm] at h'; cases h'
  | some m =>
    rw [hm] at h'
    cases m with
    | lst xs => cases h'; rfl
    | obj C fs => cases h'
theorem k_is_whole (Γ : Ctx) : Keeps (t_is_whole Γ) 1 1 (sp_is_whole Γ) := by
  rintro xs M Q E hl ⟨v, rfl, hk, q⟩
  unfold t_is_whole
  walk_at "pl"
  cases v with
  | int i => walk_at "pl"; exact q
  | bl b => walk_at "pl"; exact q
  | str b => walk_at "pl"; exact q
  | non => walk_at "pl"; exact q
  | tup b => walk_at "pl"; exact q
  | lst b => walk_at "pl"; exact q
  | ptr a =>
    cases ht : tyOf M (.ptr a) with
    | none => exact absurd ht hk
    | some n =>
      have hn := tyOf_ptr_list ht
      subst hn
      simp only [isi_of ht]
      walk_at "pl"
      exact q
  | ty n => exact absurd rfl hk
  | scr xs => exact absurd rfl hk
  | obj C fs => exact absurd rfl hk
theorem k_is_number (Γ : Ctx) : Keeps (t_is_number Γ) 3 3 (sp_is_number Γ) := by
  rintro xs M Q E hl ⟨v, lo, hi, rfl, hk, q⟩
  unfold t_is_number
  walk_at "pl"
  refine ⟨_, rfl, hk, ?_⟩
  cases v with
  | int i =>
    walk_at "pl"
    by_cases h : lo ≤ i
    · rw [if_pos h]
      have e : isNum lo hi (.int i) = decide (i ≤ hi) := by unfold isNum; simp [h]
      rw [e] at q
      exact q
    · rw [if_neg h]
      have e : isNum lo hi (.int i) = false := by unfold isNum; simp [h]
      rw [e] at q
      exact q
  | bl b => exact q
  | str b => exact q
  | non => exact q
  | tup b => exact q
  | lst b => exact q
  | ptr a => exact q
  | ty n => exact absurd rfl hk
  | scr xs => exact absurd rfl hk
  | obj C fs => exact absurd rfl hk
theorem c_is_number {Γ : Ctx} {i lo hi : Int} {M : Mem} {Q : PQ} {E : PXK} : sp_is_number Γ [.int i, .int lo, .int hi] M Q E = Q (.bl (decide (lo ≤ i) && decide (i ≤ hi))) M := by
  refine propext ⟨?_, fun q => ⟨_, _, _, rfl, (fun h => nomatch h), q⟩⟩
  rintro ⟨v, lo', hi', e, _, q⟩
  cases e
  exact q
theorem c_is_number' {Γ : Ctx} {v : PV} {lo hi : Int} {M : Mem} {Q : PQ} {E : PXK} (h : known M v) (q : Q (.bl (isNum lo hi v)) M) : sp_is_number Γ [v, .int lo, .int hi] M Q E := ⟨_, _, _, rfl, h, q⟩
theorem k_are_numbers (Γ : Ctx) : Keeps (t_are_numbers Γ) 3 4 (sp_are_numbers Γ) := by
  rintro xs M Q E hl ⟨v, lo, hi, rfl, hk, hys, q⟩
  unfold t_are_numbers
  walk_at "pl"
  cases v with
  | tup ys =>
    walk_at "pl"
    obtain ⟨hz, hys⟩ := hys ys rfl
    refine ⟨hz, lc_map (fun y => .bl (isNum lo hi y)) (fun y hy R hR => ?_) ?_⟩
    · walk_at "pl"
      exact c_is_number' (hys y hy) hR
    · have e : ys.map (fun y => PV.bl (isNum lo hi y)) = (ys.map (isNum lo hi)).map PV.bl := by rw [List.map_map]; rfl
      unfold kAll
      rw [e]
      show need (blsOf _) _
      rw [blsOf_map]
      show Q (.bl ((ys.map (isNum lo hi)).all id)) M
      rw [List.all_map]
      exact q
  | int i => walk_at "pl"; exact q
  | bl b => walk_at "pl"; exact q
  | str b => walk_at "pl"; exact q
  | non => walk_at "pl"; exact q
  | lst b => walk_at "pl"; exact q
  | ptr a =>
    cases ht : tyOf M (.ptr a) with
    | none => exact absurd ht hk
    | some n =>
      have hn := tyOf_ptr_list ht
      subst hn
      simp only [isi_of ht]
      walk_at "pl"
      exact q
  | ty n => exact absurd rfl hk
  | scr xs => exact absurd rfl hk
  | obj C fs => exact absurd rfl hk
theorem c_are_ints {Γ : Ctx} {ms : List Int} {lo hi : Int} {M : Mem} {Q : PQ} {E : PXK} (hz : ms.length < 1000000) (h : ∀ x ∈ ms, lo ≤ x ∧ x ≤ hi) (q : Q (.bl true) M) : sp_are_numbers Γ [tI ms, .int lo, .int hi] M Q E := by
  refine ⟨_, _, _, rfl, (fun h => nomatch h), fun ys e => ?_, ?_⟩
  · cases e
    refine ⟨line_lt (by rw [List.length_map]; omega), fun y hy => ?_⟩
    obtain ⟨x, _, rfl⟩ := List.mem_map.mp hy
    exact fun h => nomatch h
  · have e : areNum lo hi (tI ms) = true := by
      show (ms.map PV.int).all (isNum lo hi) = true
      rw [List.all_map, List.all_eq_true]
      intro x hx
      show (decide (lo ≤ x) && decide (x ≤ hi)) = true
      have := h x hx
      simp; omega
    rw [e]
    exact q
theorem known_ok {n : Nat} {v : PV} {M : Mem} (h : okV (n + 1) v) : known M v := by
  cases v <;> first
    | exact h.elim
    | (intro z; cases z)
theorem num_int {lo hi : Int} {v : PV} (h : isNum lo hi v = true) : ∃ i, v = .int i ∧ lo ≤ i ∧ i ≤ hi := by
  cases v with
  | int i =>
    have h2 : (decide (lo ≤ i) && decide (i ≤ hi)) = true := h
    rw [Bool.and_eq_true] at h2
    exact ⟨i, rfl, of_decide_eq_true h2.1, of_decide_eq_true h2.2⟩
  | _ => cases h
theorem int_num {lo hi i : Int} (h1 : lo ≤ i) (h2 : i ≤ hi) : isNum lo hi (.int i) = true := by
  show (decide (lo ≤ i) && decide (i ≤ hi)) = true
  rw [decide_eq_true h1, decide_eq_true h2]
  rfl
theorem all_ints {lo hi : Int} : ∀ {xs : List PV}, xs.all (isNum lo hi) = true → ∃ ms : List Int, xs = ms.map .int ∧ ∀ x ∈ ms, lo ≤ x ∧ x ≤ hi
  | [], _ => ⟨[], rfl, fun _ h => nomatch h⟩
  | v :: xs, h => by
    rw [List.all_cons, Bool.and_eq_true] at h
    obtain ⟨i, rfl, h1, h2⟩ := num_int h.1
    obtain ⟨ms, rfl, h3⟩ := all_ints h.2
    exact ⟨i :: ms, rfl, fun x hx => by
      rcases List.mem_cons.mp hx with e | e
      · rw [e]; exact ⟨h1, h2⟩
      · exact h3 x e⟩
theorem ints_all {lo hi : Int} : ∀ {ms : List Int}, (∀ x ∈ ms, lo ≤ x ∧ x ≤ hi) → (ms.map PV.int).all (isNum lo hi) = true
  | [], _ => rfl
  | i :: ms, h => by
    rw [List.map_cons, List.all_cons, int_num (h i List.mem_cons_self).1 (h i List.mem_cons_self).2, ints_all (fun x hx => h x (List.mem_cons_of_mem _ hx))]
    rfl
theorem okV_down : ∀ {n : Nat} {v : PV}, okV (n + 1) v → okV n v
  | 0, _, _ => trivial
  | n + 1, .tup xs, h => ⟨h.1, fun x hx => okV_down (h.2 x hx)⟩
  | _ + 1, .ptr _, h => h.elim
  | _ + 1, .lst _, _ => trivial
  | _ + 1, .scr _, h => h.elim
  | _ + 1, .obj _ _, h => h.elim
  | _ + 1, .ty _, h => h.elim
  | _ + 1, .non, _ => trivial
  | _ + 1, .bl _, _ => trivial
  | _ + 1, .int _, _ => trivial
  | _ + 1, .str _, _ => trivial
theorem num_out {lo hi i : Int} (h : i < lo ∨ hi < i) : isNum lo hi (.int i) = false := by
  show (decide (lo ≤ i) && decide (i ≤ hi)) = false
  rcases h with h | h
  · rw [decide_eq_false (by omega)]
    rfl
  · rw [decide_eq_false (p := i ≤ hi) (by omega), Bool.and_false]
theorem okV_tI {n : Nat} {ms : List Int} (h : ms.length ≤ 1000) : okV (n + 2) (tI ms) := ⟨by rw [List.length_map]; exact h, fun x hx => by
  obtain ⟨i, _, rfl⟩ := List.mem_map.mp hx
  exact trivial⟩
end My
set_option Elab.async false
set_option linter.all false
set_option maxRecDepth 100000
namespace My
open PySem PL TM
local macro_rules | `(tactic| walk_at "hd") => `(tactic| repeat (first | (with_reducible refine w_C ?_) | ((with_reducible refine' w_var ?_ ?_); rotate_left; exact rfl) | (with_reducible refine w_nil ?_) | (with_reducible refine w_join ?_) | (with_reducible refine w_kStr ?_) | (with_reducible refine w_rv ?_) | (with_reducible refine w_z ?_) | (with_reducible refine w_zL ?_) | (with_reducible refine w_zT ?_) | (with_reducible refine w_tupRg ?_) | ((with_reducible refine w_shr ?_ ?_); (first | decide | omega)) | (with_reducible refine w_cons ?_) | (with_reducible refine w_bin ?_) | (with_reducible refine w_test ?_) | (with_reducible refine w_kB ?_) | (with_reducible refine w_call ?_) | (with_reducible refine w_callB ?_) | (with_reducible refine w_on1 ?_) | (with_reducible refine w_on2 ?_) | (with_reducible refine w_tup ?_) | (with_reducible refine w_lst ?_) | (with_reducible refine w_lstM ?_) | (with_reducible refine w_seq ?_) | ((with_reducible refine' w_pset ?_ ?_); rotate_left; (intro x; first | with_reducible exact set_h0 | with_reducible exact set_h1 | with_reducible exact set_h2 | with_reducible exact set_h3 | with_reducible exact set_h4 | with_reducible exact set_h5 | with_reducible exact set_h6 | with_reducible exact set_h7 | with_reducible exact set_h8 | with_reducible exact set_h9 | with_reducible exact set_h10 | with_reducible exact set_h11 | with_reducible exact set_h12 | with_reducible exact set_h13 | with_reducible exact set_h14 | with_reducible exact set_h15 | with_reducible exact set_h16 | with_reducible exact set_h17 | with_reducible exact set_h18 | with_reducible exact set_h19 | with_reducible exact set_h20 | with_reducible exact set_h21 | with_reducible exact set_h22 | with_reducible exact set_h23 | with_reducible exact set_h24 | with_reducible exact set_h25)) | (with_reducible refine w_next ?_) | (with_reducible refine w_ret ?_) | (with_reducible refine w_retN ?_) | (with_reducible refine w_ifs ?_) | (with_reducible refine w_dnx ?_) | (with_reducible refine w_drt ?_) | (with_reducible refine w_dbk ?_) | (with_reducible refine w_dct ?_) | (with_reducible refine w_ifT ?_) | (with_reducible refine w_ifF ?_) | (with_reducible refine w_ifd ?_) | (with_reducible refine w_ifn ?_) | (with_reducible refine w_drop ?_) | (with_reducible refine w_asg ?_) | ((with_reducible refine' w_gname ?_ ?_); rotate_left; (first | with_reducible exact set_h0 | with_reducible exact set_h1 | with_reducible exact set_h2 | with_reducible exact set_h3 | with_reducible exact set_h4 | with_reducible exact set_h5 | with_reducible exact set_h6 | with_reducible exact set_h7 | with_reducible exact set_h8 | with_reducible exact set_h9 | with_reducible exact set_h10 | with_reducible exact set_h11 | with_reducible exact set_h12 | with_reducible exact set_h13 | with_reducible exact set_h14 | with_reducible exact set_h15 | with_reducible exact set_h16 | with_reducible exact set_h17 | with_reducible exact set_h18 | with_reducible exact set_h19 | with_reducible exact set_h20 | with_reducible exact set_h21 | with_reducible exact set_h22 | with_reducible exact set_h23 | with_reducible exact set_h24 | with_reducible exact set_h25)) | ((with_reducible refine w_gtup ?_ ?_); exact rfl) | (with_reducible refine w_gcons ?_) | (with_reducible refine w_gnil ?_) | (with_reducible refine w_gsub ?_) | (with_reducible refine w_I0 ?_) | ((with_reducible refine w_mod ?_ ?_); (first | decide | omega)) | ((with_reducible refine w_div ?_ ?_); (first | decide | omega)) | (with_reducible refine w_add ?_) | (with_reducible refine w_neg ?_) | (with_reducible refine w_negI ?_) | (with_reducible refine w_eqInt ?_) | (with_reducible refine w_neInt ?_) | (with_reducible refine w_eqBl ?_) | (with_reducible refine w_neBl ?_) | (with_reducible refine w_eqStr ?_) | (with_reducible refine w_neStr ?_) | (with_reducible refine w_ixtup0 ?_) | (with_reducible refine w_ixlst0 ?_) | (with_reducible refine w_ixtup1 ?_) | (with_reducible refine w_ixlst1 ?_) | (with_reducible refine w_ixtup2 ?_) | (with_reducible refine w_ixlst2 ?_) | (with_reducible refine w_ixtup3 ?_) | (with_reducible refine w_ixlst3 ?_) | (with_reducible refine w_ixtup4 ?_) | (with_reducible refine w_ixlst4 ?_) | (with_reducible refine w_ixtup5 ?_) | (with_reducible refine w_ixlst5 ?_) | (with_reducible refine w_need ?_) | (with_reducible refine w_lentup ?_) | (with_reducible refine w_lenlst ?_) | (with_reducible refine w_lenscr ?_) | (with_reducible refine w_sl ?_) | (with_reducible refine w_nop ?_) | (with_reducible refine w_part ?_) | (with_reducible refine w_partI ?_) | (with_reducible refine w_slT ?_) | (with_reducible refine w_slL ?_) | (with_reducible refine w_slS ?_) | (with_reducible refine w_abs ?_) | (with_reducible refine w_int ?_) | (with_reducible refine w_listL ?_) | (with_reducible refine w_listT ?_) | (with_reducible refine w_listS ?_) | (with_reducible refine w_tupL ?_) | (with_reducible refine w_tupT ?_) | (with_reducible refine w_listML ?_) | (with_reducible refine w_listMT ?_) | (with_reducible refine w_and ?_) | (with_reducible refine w_or ?_) | (with_reducible refine w_not ?_) | (with_reducible refine w_andV ?_) | (with_reducible refine w_orV ?_) | (with_reducible refine w_notV ?_) | (with_reducible refine w_if ?_) | (with_reducible refine w_isN ?_) | (with_reducible refine w_notN ?_) | (with_reducible refine w_tisN ?_) | (with_reducible refine w_tnotN ?_) | (with_reducible refine w_in_non ?_) | (with_reducible refine w_in_int ?_) | (with_reducible refine w_in_tup ?_) | (with_reducible refine w_in_lst ?_) | (with_reducible refine w_in_ptr ?_) | (with_reducible refine w_in_str ?_) | (with_reducible refine w_in_bl ?_) | (with_reducible refine w_isB ?_) | (with_reducible refine w_notB ?_) | (with_reducible refine w_for ?_) | (with_reducible refine w_iL ?_) | (with_reducible refine w_iT ?_) | (with_reducible refine w_lstF ?_) | (with_reducible refine w_lstFs ?_) | (with_reducible refine w_tupF ?_) | (with_reducible refine w_R1 ?_) | ((with_reducible refine w_R1I ?_ ?_); (first | decide | omega)) | (with_reducible refine w_R2 ?_) | (with_reducible refine w_forM ?_) | (with_reducible refine w_brk ?_) | (with_reducible refine w_cnt ?_) | (with_reducible refine w_lc ?_) | (with_reducible refine w_lcnil ?_) | (with_reducible refine w_lccons ?_) | (with_reducible refine w_fld ?_) | ((with_reducible refine' w_fldO ?_ ?_); rotate_left; exact rfl) | (with_reducible refine w_meth ?_) | ((with_reducible refine w_objO ?_ ?_); exact rfl) | (with_reducible refine w_make ?_) | (with_reducible refine w_fldS ?_) | (with_reducible refine w_app ?_) | (with_reducible refine w_retF ?_) | (with_reducible refine w_retD ?_) | (with_reducible refine w_retFD ?_) | (with_reducible refine w_raise ?_) | ((with_reducible refine' w_aug ?_ ?_ ?_); rotate_left 2; exact rfl; (intro x; first | with_reducible exact set_h0 | with_reducible exact set_h1 | with_reducible exact set_h2 | with_reducible exact set_h3 | with_reducible exact set_h4 | with_reducible exact set_h5 | with_reducible exact set_h6 | with_reducible exact set_h7 | with_reducible exact set_h8 | with_reducible exact set_h9 | with_reducible exact set_h10 | with_reducible exact set_h11 | with_reducible exact set_h12 | with_reducible exact set_h13 | with_reducible exact set_h14 | with_reducible exact set_h15 | with_reducible exact set_h16 | with_reducible exact set_h17 | with_reducible exact set_h18 | with_reducible exact set_h19 | with_reducible exact set_h20 | with_reducible exact set_h21 | with_reducible exact set_h22 | with_reducible exact set_h23 | with_reducible exact set_h24 | with_reducible exact set_h25)) | (with_reducible refine w_try ?_) | (with_reducible refine w_fzE ?_) | (with_reducible refine w_lstRg ?_) | (with_reducible refine w_pop ?_) | (with_reducible refine w_rev ?_) | (with_reducible refine w_revL ?_) | (with_reducible refine w_forE ?_) | (with_reducible refine w_par ?_) | ((with_reducible refine' w_kpar ?_ ?_ ?_); rotate_left 2; (first | with_reducible exact set_h0 | with_reducible exact set_h1 | with_reducible exact set_h2 | with_reducible exact set_h3 | with_reducible exact set_h4 | with_reducible exact set_h5 | with_reducible exact set_h6 | with_reducible exact set_h7 | with_reducible exact set_h8 | with_reducible exact set_h9 | with_reducible exact set_h10 | with_reducible exact set_h11 | with_reducible exact set_h12 | with_reducible exact set_h13 | with_reducible exact set_h14 | with_reducible exact set_h15 | with_reducible exact set_h16 | with_reducible exact set_h17 | with_reducible exact set_h18 | with_reducible exact set_h19 | with_reducible exact set_h20 | with_reducible exact set_h21 | with_reducible exact set_h22 | with_reducible exact set_h23 | with_reducible exact set_h24 | with_reducible exact set_h25); (first | with_reducible exact set_h0 | with_reducible exact set_h1 | with_reducible exact set_h2 | with_reducible exact set_h3 | with_reducible exact set_h4 | with_reducible exact set_h5 | with_reducible exact set_h6 | with_reducible exact set_h7 | with_reducible exact set_h8 | with_reducible exact set_h9 | with_reducible exact set_h10 | with_reducible exact set_h11 | with_reducible exact set_h12 | with_reducible exact set_h13 | with_reducible exact set_h14 | with_reducible exact set_h15 | with_reducible exact set_h16 | with_reducible exact set_h17 | with_reducible exact set_h18 | with_reducible exact set_h19 | with_reducible exact set_h20 | with_reducible exact set_h21 | with_reducible exact set_h22 | with_reducible exact set_h23 | with_reducible exact set_h24 | with_reducible exact set_h25)) | ((with_reducible refine' w_isi_i ?_ ?_); rotate_left; (first | with_reducible exact kit_ib | with_reducible exact kit_ii | with_reducible exact kit_it | with_reducible exact kit_il | with_reducible exact kit_is)) | ((with_reducible refine' w_isi_b ?_ ?_); rotate_left; (first | with_reducible exact kit_bb | with_reducible exact kit_bi | with_reducible exact kit_bt | with_reducible exact kit_bl | with_reducible exact kit_bs)) | ((with_reducible refine' w_isi_t ?_ ?_); rotate_left; (first | with_reducible exact kit_tb | with_reducible exact kit_ti | with_reducible exact kit_tt | with_reducible exact kit_tl | with_reducible exact kit_ts)) | ((with_reducible refine' w_isi_l ?_ ?_); rotate_left; (first | with_reducible exact kit_lb | with_reducible exact kit_li | with_reducible exact kit_lt | with_reducible exact kit_ll | with_reducible exact kit_ls)) | ((with_reducible refine' w_isi_s ?_ ?_); rotate_left; (first | with_reducible exact kit_sb | with_reducible exact kit_si | with_reducible exact kit_st | with_reducible exact kit_sl | with_reducible exact kit_ss)) | ((with_reducible refine' w_isi_n ?_ ?_); rotate_left; (first | with_reducible exact kit_nb | with_reducible exact kit_ni | with_reducible exact kit_nt | with_reducible exact kit_nl | with_reducible exact kit_ns))))
local macro_rules | `(tactic| walk_at "st") => `(tactic| simp only [pstart, List.map_cons, List.map_nil, List.cons_append, List.nil_append, List.length_cons, List.length_nil, List.replicate, Nat.reduceSub, Nat.reduceAdd, Nat.zero_add])
/-! ### controls -/
theorem drop_at {α : Type} {ys : List α} {i : Nat} {y : α} (h : ys[i]? = some y) : ys.drop i = y :: ys.drop (i + 1) := by
  obtain ⟨h1, h2⟩ := List.getElem?_eq_some_iff.mp h
  rw [List.drop_eq_getElem_cons h1, h2]
theorem k_are_controls (Γ : Ctx) : Keeps (t_are_controls Γ) 2 4 (sp_are_controls Γ) := by
  rintro xs M Q E hl ⟨v, n, rfl, ok, q⟩
  walk_at "st"
  unfold t_are_controls
  walk_at "hd"
  cases v with
  | tup ys =>
    walk_at "hd"
    refine for_in (fun i σ M' => M' = M ∧ ∃ l x3, σ = [some (.tup ys), some (.int n), some (.int l), x3] ∧ ctl (-1) ys = ctl l (ys.drop i)) ⟨rfl, _, _, rfl, by rw [List.drop_zero]⟩ ?_ ?_
    · rintro i y σ M' K hy ⟨rfl, l, x3, rfl, e⟩ hK
      have oy := ok.2 y (List.mem_of_getElem? hy)
      rw [drop_at hy] at e
      unfold b_are_controls_1
      walk_at "hd"
      have no : ctl (-1) ys = none → Q (.bl false) M' := fun z => by
        have e2 : ctlB n (.tup ys) = false := by
          show (match ctl (-1) ys with | some l => decide (l < n) | none => false) = false
          rw [z]
        rw [e2] at q
        exact q
      cases y with
      | int k =>
        walk_at "hd"
        by_cases h : k ≤ l
        · rw [if_pos h]
          walk_at "hd"
          exact no (by rw [e]; exact if_pos h)
        · rw [if_neg h]
          walk_at "hd"
          exact hK _ _ ⟨rfl, k, _, rfl, e.trans (if_neg h)⟩
      | bl b => walk_at "hd"; exact no e
      | str b => walk_at "hd"; exact no e
      | non => walk_at "hd"; exact no e
      | tup b => walk_at "hd"; exact no e
      | lst b => walk_at "hd"; exact no e
      | _ => exact oy.elim
    · rintro σ M' ⟨rfl, l, x3, rfl, e⟩
      rw [List.drop_length] at e
      walk_at "hd"
      have e2 : ctlB n (.tup ys) = decide (l < n) := by
        show (match ctl (-1) ys with | some l => decide (l < n) | none => false) = _
        rw [e]
        rfl
      rw [e2] at q
      exact q
  | int b => walk_at "hd"; exact q
  | bl b => walk_at "hd"; exact q
  | str b => walk_at "hd"; exact q
  | non => walk_at "hd"; exact q
  | lst b => walk_at "hd"; exact q
  | _ => exact ok.elim
/-! ### what a gate is -/
theorem ctl_ints {l m : Int} : ∀ {xs : List PV}, ctl l xs = some m → ∃ cs : List Int, xs = cs.map .int ∧ (l :: cs).Pairwise (· < ·) ∧ (∀ c ∈ l :: cs, c ≤ m)
  | [], h => by
    cases h
    exact ⟨[], rfl, by simp, by simp⟩
  | .int i :: r, h => by
    have h' : (if i ≤ l then none else ctl i r) = some m := h
    by_cases hi : i ≤ l
    · rw [if_pos hi] at h'
      cases h'
    · rw [if_neg hi] at h'
      obtain ⟨cs, e, p, q⟩ := ctl_ints h'
      have qi := q i List.mem_cons_self
      refine ⟨i :: cs, by rw [e]; rfl, List.pairwise_cons.mpr ⟨fun c hc => ?_, p⟩, fun c hc => ?_⟩
      · rcases List.mem_cons.mp hc with h | h
        · rw [h]
          omega
        · have := (List.pairwise_cons.mp p).1 c h
          omega
      · rcases List.mem_cons.mp hc with h | h
        · rw [h]
          omega
        · exact q c h
  | .bl _ :: _, h => nomatch h
  | .str _ :: _, h => nomatch h
  | .non :: _, h => nomatch h
  | .tup _ :: _, h => nomatch h
  | .lst _ :: _, h => nomatch h
  | .ptr _ :: _, h => nomatch h
  | .scr _ :: _, h => nomatch h
  | .obj _ _ :: _, h => nomatch h
  | .ty _ :: _, h => nomatch h
theorem ctl_of : ∀ {cs : List Int} {l : Int}, (l :: cs).Pairwise (· < ·) → ∃ m, ctl l (cs.map .int) = some m ∧ (m = l ∨ m ∈ cs)
  | [], l, _ => ⟨l, rfl, .inl rfl⟩
  | c :: cs, l, h => by
    obtain ⟨h1, h2⟩ := List.pairwise_cons.mp h
    have lc := h1 c List.mem_cons_self
    obtain ⟨m, e, hm⟩ := ctl_of h2
    refine ⟨m, ?_, .inr ?_⟩
    · show (if c ≤ l then none else ctl c (cs.map .int)) = some m
      rw [if_neg (by omega)]
      exact e
    · rcases hm with h | h
      · rw [h]
        exact List.mem_cons_self
      · exact List.mem_cons_of_mem _ h
theorem ctlB_iff {n : Int} (hn : 0 ≤ n) {c : PV} : ctlB n c = true ↔ ∃ cs, CtlOk n cs ∧ c = tI cs := by
  constructor
  · intro h
    cases c with
    | tup xs =>
      have h' : (match ctl (-1) xs with | some l => decide (l < n) | none => false) = true := h
      cases e : ctl (-1) xs with
      | none => rw [e] at h'; cases h'
      | some m =>
        rw [e] at h'
        have hm : m < n := of_decide_eq_true h'
        obtain ⟨cs, rfl, p, q⟩ := ctl_ints e
        obtain ⟨p1, p2⟩ := List.pairwise_cons.mp p
        exact ⟨cs, ⟨p2, fun c hc => ⟨by have := p1 c hc; omega, by have := q c (List.mem_cons_of_mem _ hc); omega⟩⟩, rfl⟩
    | _ => cases h
  · rintro ⟨cs, ok, rfl⟩
    obtain ⟨m, e, hm⟩ := ctl_of (l := -1) (List.pairwise_cons.mpr ⟨fun c hc => by have := (ok.mm c hc).1; omega, ok.up⟩)
    show (match ctl (-1) (cs.map .int) with | some l => decide (l < n) | none => false) = true
    rw [e]
    refine decide_eq_true ?_
    rcases hm with h | h
    · omega
    · exact (ok.mm m h).2
theorem GV_tup {n : Int} {v : PV} (h : GV n v) : ∃ s c t, v = .tup (.str s :: c :: t) ∧ t ≠ [] := by
  obtain ⟨g, _, rfl⟩ := h
  cases g with
  | turn cs i => exact ⟨_, _, _, rfl, by simp⟩
  | swap cs i j => exact ⟨_, _, _, rfl, by simp⟩
abbrev sT : Str := PySem.Str.ofString "turn"
abbrev sS : Str := PySem.Str.ofString "swap"
theorem GV_iff {n : Int} {s : Str} {c : PV} {t : List PV} : GV n (.tup (.str s :: c :: t)) ↔ (s = sT ∧ ∃ i cs, t = [.int i] ∧ c = tI cs ∧ GtOk n (.turn cs i)) ∨ (s = sS ∧ ∃ i j cs, t = [.int i, .int j] ∧ c = tI cs ∧ GtOk n (.swap cs i j)) := by
  constructor
  · rintro ⟨g, ok, e⟩
    cases g with
    | turn cs i =>
      injection e with e
      injection e with e1 e
      injection e with e2 e3
      injection e1 with e1
      exact .inl ⟨e1, i, cs, e3, e2, ok⟩
    | swap cs i j =>
      injection e with e
      injection e with e1 e
      injection e with e2 e3
      injection e1 with e1
      exact .inr ⟨e1, i, j, cs, e3, e2, ok⟩
  · rintro (⟨rfl, i, cs, rfl, rfl, ok⟩ | ⟨rfl, i, j, cs, rfl, rfl, ok⟩)
    · exact ⟨.turn cs i, ok, rfl⟩
    · exact ⟨.swap cs i j, ok, rfl⟩

end My
set_option Elab.async false
set_option linter.all false
set_option maxRecDepth 100000
namespace My
open PySem PL TM
local macro_rules | `(tactic| walk_at "hd") => `(tactic| repeat (first | (with_reducible refine w_C ?_) | ((with_reducible refine' w_var ?_ ?_); rotate_left; exact rfl) | (with_reducible refine w_nil ?_) | (with_reducible refine w_join ?_) | (with_reducible refine w_kStr ?_) | (with_reducible refine w_rv ?_) | (with_reducible refine w_z ?_) | (with_reducible refine w_zL ?_) | (with_reducible refine w_zT ?_) | (with_reducible refine w_tupRg ?_) | ((with_reducible refine w_shr ?_ ?_); (first | decide | omega)) | (with_reducible refine w_cons ?_) | (with_reducible refine w_bin ?_) | (with_reducible refine w_test ?_) | (with_reducible refine w_kB ?_) | (with_reducible refine w_call ?_) | (with_reducible refine w_callB ?_) | (with_reducible refine w_on1 ?_) | (with_reducible refine w_on2 ?_) | (with_reducible refine w_tup ?_) | (with_reducible refine w_lst ?_) | (with_reducible refine w_lstM ?_) | (with_reducible refine w_seq ?_) | ((with_reducible refine' w_pset ?_ ?_); rotate_left; (intro x; first | with_reducible exact set_h0 | with_reducible exact set_h1 | with_reducible exact set_h2 | with_reducible exact set_h3 | with_reducible exact set_h4 | with_reducible exact set_h5 | with_reducible exact set_h6 | with_reducible exact set_h7 | with_reducible exact set_h8 | with_reducible exact set_h9 | with_reducible exact set_h10 | with_reducible exact set_h11 | with_reducible exact set_h12 | with_reducible exact set_h13 | with_reducible exact set_h14 | with_reducible exact set_h15 | with_reducible exact set_h16 | with_reducible exact set_h17 | with_reducible exact set_h18 | with_reducible exact set_h19 | with_reducible exact set_h20 | with_reducible exact set_h21 | with_reducible exact set_h22 | with_reducible exact set_h23 | with_reducible exact set_h24 | with_reducible exact set_h25)) | (with_reducible refine w_next ?_) | (with_reducible refine w_ret ?_) | (with_reducible refine w_retN ?_) | (with_reducible refine w_ifs ?_) | (with_reducible refine w_dnx ?_) | (with_reducible refine w_drt ?_) | (with_reducible refine w_dbk ?_) | (with_reducible refine w_dct ?_) | (with_reducible refine w_ifT ?_) | (with_reducible refine w_ifF ?_) | (with_reducible refine w_ifd ?_) | (with_reducible refine w_ifn ?_) | (with_reducible refine w_drop ?_) | (with_reducible refine w_asg ?_) | ((with_reducible refine' w_gname ?_ ?_); rotate_left; (first | with_reducible exact set_h0 | with_reducible exact set_h1 | with_reducible exact set_h2 | with_reducible exact set_h3 | with_reducible exact set_h4 | with_reducible exact set_h5 | with_reducible exact set_h6 | with_reducible exact set_h7 | with_reducible exact set_h8 | with_reducible exact set_h9 | with_reducible exact set_h10 | with_reducible exact set_h11 | with_reducible exact set_h12 | with_reducible exact set_h13 | with_reducible exact set_h14 | with_reducible exact set_h15 | with_reducible exact set_h16 | with_reducible exact set_h17 | with_reducible exact set_h18 | with_reducible exact set_h19 | with_reducible exact set_h20 | with_reducible exact set_h21 | with_reducible exact set_h22 | with_reducible exact set_h23 | with_reducible exact set_h24 | with_reducible exact set_h25)) | ((with_reducible refine w_gtup ?_ ?_); exact rfl) | (with_reducible refine w_gcons ?_) | (with_reducible refine w_gnil ?_) | (with_reducible refine w_gsub ?_) | (with_reducible refine w_I0 ?_) | ((with_reducible refine w_mod ?_ ?_); (first | decide | omega)) | ((with_reducible refine w_div ?_ ?_); (first | decide | omega)) | (with_reducible refine w_add ?_) | (with_reducible refine w_neg ?_) | (with_reducible refine w_negI ?_) | (with_reducible refine w_eqInt ?_) | (with_reducible refine w_neInt ?_) | (with_reducible refine w_eqBl ?_) | (with_reducible refine w_neBl ?_) | (with_reducible refine w_eqStr ?_) | (with_reducible refine w_neStr ?_) | (with_reducible refine w_ixtup0 ?_) | (with_reducible refine w_ixlst0 ?_) | (with_reducible refine w_ixtup1 ?_) | (with_reducible refine w_ixlst1 ?_) | (with_reducible refine w_ixtup2 ?_) | (with_reducible refine w_ixlst2 ?_) | (with_reducible refine w_ixtup3 ?_) | (with_reducible refine w_ixlst3 ?_) | (with_reducible refine w_ixtup4 ?_) | (with_reducible refine w_ixlst4 ?_) | (with_reducible refine w_ixtup5 ?_) | (with_reducible refine w_ixlst5 ?_) | (with_reducible refine w_need ?_) | (with_reducible refine w_lentup ?_) | (with_reducible refine w_lenlst ?_) | (with_reducible refine w_lenscr ?_) | (with_reducible refine w_sl ?_) | (with_reducible refine w_nop ?_) | (with_reducible refine w_part ?_) | (with_reducible refine w_partI ?_) | (with_reducible refine w_slT ?_) | (with_reducible refine w_slL ?_) | (with_reducible refine w_slS ?_) | (with_reducible refine w_abs ?_) | (with_reducible refine w_int ?_) | (with_reducible refine w_listL ?_) | (with_reducible refine w_listT ?_) | (with_reducible refine w_listS ?_) | (with_reducible refine w_tupL ?_) | (with_reducible refine w_tupT ?_) | (with_reducible refine w_listML ?_) | (with_reducible refine w_listMT ?_) | (with_reducible refine w_and ?_) | (with_reducible refine w_or ?_) | (with_reducible refine w_not ?_) | (with_reducible refine w_andV ?_) | (with_reducible refine w_orV ?_) | (with_reducible refine w_notV ?_) | (with_reducible refine w_if ?_) | (with_reducible refine w_isN ?_) | (with_reducible refine w_notN ?_) | (with_reducible refine w_tisN ?_) | (with_reducible refine w_tnotN ?_) | (with_reducible refine w_in_non ?_) | (with_reducible refine w_in_int ?_) | (with_reducible refine w_in_tup ?_) | (with_reducible refine w_in_lst ?_) | (with_reducible refine w_in_ptr ?_) | (with_reducible refine w_in_str ?_) | (with_reducible refine w_in_bl ?_) | (with_reducible refine w_isB ?_) | (with_reducible refine w_notB ?_) | (with_reducible refine w_for ?_) | (with_reducible refine w_iL ?_) | (with_reducible refine w_iT ?_) | (with_reducible refine w_lstF ?_) | (with_reducible refine w_lstFs ?_) | (with_reducible refine w_tupF ?_) | (with_reducible refine w_R1 ?_) | ((with_reducible refine w_R1I ?_ ?_); (first | decide | omega)) | (with_reducible refine w_R2 ?_) | (with_reducible refine w_forM ?_) | (with_reducible refine w_brk ?_) | (with_reducible refine w_cnt ?_) | (with_reducible refine w_lc ?_) | (with_reducible refine w_lcnil ?_) | (with_reducible refine w_lccons ?_) | (with_reducible refine w_fld ?_) | ((with_reducible refine' w_fldO ?_ ?_); rotate_left; exact rfl) | (with_reducible refine w_meth ?_) | ((with_reducible refine w_objO ?_ ?_); exact rfl) | (with_reducible refine w_make ?_) | (with_reducible refine w_fldS ?_) | (with_reducible refine w_app ?_) | (with_reducible refine w_retF ?_) | (with_reducible refine w_retD ?_) | (with_reducible refine w_retFD ?_) | (with_reducible refine w_raise ?_) | ((with_reducible refine' w_aug ?_ ?_ ?_); rotate_left 2; exact rfl; (intro x; first | with_reducible exact set_h0 | with_reducible exact set_h1 | with_reducible exact set_h2 | with_reducible exact set_h3 | with_reducible exact set_h4 | with_reducible exact set_h5 | with_reducible exact set_h6 | with_reducible exact set_h7 | with_reducible exact set_h8 | with_reducible exact set_h9 | with_reducible exact set_h10 | with_reducible exact set_h11 | with_reducible exact set_h12 | with_reducible exact set_h13 | with_reducible exact set_h14 | with_reducible exact set_h15 | with_reducible exact set_h16 | with_reducible exact set_h17 | with_reducible exact set_h18 | with_reducible exact set_h19 | with_reducible exact set_h20 | with_reducible exact set_h21 | with_reducible exact set_h22 | with_reducible exact set_h23 | with_reducible exact set_h24 | with_reducible exact set_h25)) | (with_reducible refine w_try ?_) | (with_reducible refine w_fzE ?_) | (with_reducible refine w_lstRg ?_) | (with_reducible refine w_pop ?_) | (with_reducible refine w_rev ?_) | (with_reducible refine w_revL ?_) | (with_reducible refine w_forE ?_) | (with_reducible refine w_par ?_) | ((with_reducible refine' w_kpar ?_ ?_ ?_); rotate_left 2; (first | with_reducible exact set_h0 | with_reducible exact set_h1 | with_reducible exact set_h2 | with_reducible exact set_h3 | with_reducible exact set_h4 | with_reducible exact set_h5 | with_reducible exact set_h6 | with_reducible exact set_h7 | with_reducible exact set_h8 | with_reducible exact set_h9 | with_reducible exact set_h10 | with_reducible exact set_h11 | with_reducible exact set_h12 | with_reducible exact set_h13 | with_reducible exact set_h14 | with_reducible exact set_h15 | with_reducible exact set_h16 | with_reducible exact set_h17 | with_reducible exact set_h18 | with_reducible exact set_h19 | with_reducible exact set_h20 | with_reducible exact set_h21 | with_reducible exact set_h22 | with_reducible exact set_h23 | with_reducible exact set_h24 | with_reducible exact set_h25); (first | with_reducible exact set_h0 | with_reducible exact set_h1 | with_reducible exact set_h2 | with_reducible exact set_h3 | with_reducible exact set_h4 | with_reducible exact set_h5 | with_reducible exact set_h6 | with_reducible exact set_h7 | with_reducible exact set_h8 | with_reducible exact set_h9 | with_reducible exact set_h10 | with_reducible exact set_h11 | with_reducible exact set_h12 | with_reducible exact set_h13 | with_reducible exact set_h14 | with_reducible exact set_h15 | with_reducible exact set_h16 | with_reducible exact set_h17 | with_reducible exact set_h18 | with_reducible exact set_h19 | with_reducible exact set_h20 | with_reducible exact set_h21 | with_reducible exact set_h22 | with_reducible exact set_h23 | with_reducible exact set_h24 | with_reducible exact set_h25)) | ((with_reducible refine' w_isi_i ?_ ?_); rotate_left; (first | with_reducible exact kit_ib | with_reducible exact kit_ii | with_reducible exact kit_it | with_reducible exact kit_il | with_reducible exact kit_is)) | ((with_reducible refine' w_isi_b ?_ ?_); rotate_left; (first | with_reducible exact kit_bb | with_reducible exact kit_bi | with_reducible exact kit_bt | with_reducible exact kit_bl | with_reducible exact kit_bs)) | ((with_reducible refine' w_isi_t ?_ ?_); rotate_left; (first | with_reducible exact kit_tb | with_reducible exact kit_ti | with_reducible exact kit_tt | with_reducible exact kit_tl | with_reducible exact kit_ts)) | ((with_reducible refine' w_isi_l ?_ ?_); rotate_left; (first | with_reducible exact kit_lb | with_reducible exact kit_li | with_reducible exact kit_lt | with_reducible exact kit_ll | with_reducible exact kit_ls)) | ((with_reducible refine' w_isi_s ?_ ?_); rotate_left; (first | with_reducible exact kit_sb | with_reducible exact kit_si | with_reducible exact kit_st | with_reducible exact kit_sl | with_reducible exact kit_ss)) | ((with_reducible refine' w_isi_n ?_ ?_); rotate_left; (first | with_reducible exact kit_nb | with_reducible exact kit_ni | with_reducible exact kit_nt | with_reducible exact kit_nl | with_reducible exact kit_ns))))
local macro_rules | `(tactic| walk_at "st") => `(tactic| simp only [pstart, List.map_cons, List.map_nil, List.cons_append, List.nil_append, List.length_cons, List.length_nil, List.replicate, Nat.reduceSub, Nat.reduceAdd, Nat.zero_add])
theorem in_two {s : Str} {k : Int} : ([PyData.tuple [.str sT, .int 1], PyData.tuple [.str sS, .int 2]].any fun z => PyData.eqv z (.tuple [.str s, .int k])) = true ↔ (s = sT ∧ k = 1) ∨ (s = sS ∧ k = 2) := by
  show ((((sT == s) && (((1 : Int) == k) && true)) || ((((sS == s) && (((2 : Int) == k) && true))) || false)) = true) ↔ _
  simp only [Bool.and_true, Bool.or_false, Bool.or_eq_true, Bool.and_eq_true, beq_iff_eq]
  constructor
  · rintro (⟨rfl, rfl⟩ | ⟨rfl, rfl⟩)
    · exact .inl ⟨rfl, rfl⟩
    · exact .inr ⟨rfl, rfl⟩
  · rintro (⟨rfl, rfl⟩ | ⟨rfl, rfl⟩)
    · exact .inl ⟨rfl, rfl⟩
    · exact .inr ⟨rfl, rfl⟩
theorem pair_D {s : Str} (k : Int) (h : (PyData.str s).canLay0 = true) : toD (.tup [.str s, .int k]) = some (.tuple [.str s, .int k]) := by
  have e : toD (.str s) = some (.str s) := if_pos h
  show (match toD (.str s), toDs [.int k] with | some d, some ds => some (d :: ds) | _, _ => none).map PyData.tuple = _
  rw [e]
  rfl
theorem lT : (PyData.str sT).canLay0 = true := by decide +kernel
theorem lS : (PyData.str sS).canLay0 = true := by decide +kernel
theorem two_D : toDs [.tup [.str sT, .int 1], .tup [.str sS, .int 2]] = some [.tuple [.str sT, .int 1], .tuple [.str sS, .int 2]] := by
  show (match toD (.tup [.str sT, .int 1]), toDs [.tup [.str sS, .int 2]] with | some d, some ds => some (d :: ds) | _, _ => none) = _
  rw [pair_D _ lT]
  show (match some (PyData.tuple [.str sT, .int 1]), (match toD (.tup [.str sS, .int 2]), toDs [] with | some d, some ds => some (d :: ds) | _, _ => none) with | some d, some ds => some (d :: ds) | _, _ => none) = _
  rw [pair_D _ lS]
  rfl
theorem sTS : sT ≠ sS := by decide
theorem any_in {cs : List Int} {k : Int} : ((cs.map PyData.int).any fun z => PyData.eqv z (.int k)) = decide (k ∈ cs) := by
  rw [List.any_map]
  show cs.any (fun z => z == k) = _
  by_cases h : k ∈ cs
  · rw [decide_eq_true h, List.any_eq_true]
    exact ⟨k, h, by simp⟩
  · rw [decide_eq_false h, List.any_eq_false]
    intro x hx
    simp only [beq_iff_eq]
    exact fun e => h (e ▸ hx)
theorem map_int_inj : ∀ {a b : List Int}, a.map PV.int = b.map PV.int → a = b
  | [], [], _ => rfl
  | [], _ :: _, h => nomatch h
  | _ :: _, [], h => nomatch h
  | x :: a, y :: b, h => by
    rw [List.map_cons, List.map_cons] at h
    injection h with h1 h2
    injection h1 with h1
    rw [h1, map_int_inj h2]
theorem tI_inj {a b : List Int} (h : tI a = tI b) : a = b := by
  unfold tI at h
  injection h with h
  exact map_int_inj h
theorem k_is_gate (Γ : Ctx) : Keeps (t_is_gate Γ) 2 6 (sp_is_gate Γ) := by
  rintro xs M Q E hl ⟨v, n, rfl, ⟨ok, hs⟩, q⟩
  walk_at "st"
  unfold t_is_gate
  walk_at "hd"
  have no : ¬ GV n v → Q (.bl false) M := fun h => q false ⟨(fun z => nomatch z), fun z => absurd z h⟩
  cases v with
  | tup ys =>
    walk_at "hd"
    by_cases h3 : ((ys.length : Nat) : Int) < 3
    · rw [if_pos h3]
      walk_at "hd"
      refine no fun z => ?_
      obtain ⟨s, c, t, e, ht⟩ := GV_tup z
      cases e
      cases t with
      | nil => exact ht rfl
      | cons a t => simp only [List.length_cons] at h3; omega
    rw [if_neg h3]
    walk_at "hd"
    obtain ⟨w, c, t, rfl, ht⟩ : ∃ w c t, ys = w :: c :: t ∧ t ≠ [] := by
      cases ys with
      | nil => exact absurd (show (0 : Int) < 3 from by decide) h3
      | cons w ys =>
        cases ys with
        | nil => exact absurd (show (1 : Int) < 3 from by decide) h3
        | cons c t =>
          cases t with
          | nil => exact absurd (show (2 : Int) < 3 from by decide) h3
          | cons a t => exact ⟨w, c, _, rfl, by simp⟩
    obtain ⟨s, rfl, ls⟩ := hs w c t rfl ht
    have c2 : cutA (PV.str s :: c :: t) none (some 2) = [.str s, c] := by rw [cutA_to _ (by decide)]; rfl
    have c3 : cutA (PV.str s :: c :: t) (some 2) none = t := by rw [cutA_from _ (by decide)]; rfl
    rw [c2]
    walk_at "hd"
    rw [c3]
    obtain ⟨ok1, ok2⟩ := ok
    have okt : ∀ x ∈ t, okV 2 x := fun x hx => ok2 x (List.mem_cons_of_mem _ (List.mem_cons_of_mem _ hx))
    have okc : okV 2 c := ok2 c (List.mem_cons_of_mem _ List.mem_cons_self)
    have lt : t.length ≤ 1000 := by simp only [List.length_cons] at ok1; omega
    refine w_ninT (d := .tuple [.str s, .int t.length]) (ds := [.tuple [.str sT, .int 1], .tuple [.str sS, .int 2]]) (pair_D _ ls) two_D (Nat.le_of_ble_eq_true rfl) ?_
    walk_at "hd"
    by_cases h2 : (s = sT ∧ (t.length : Int) = 1) ∨ (s = sS ∧ (t.length : Int) = 2)
    case neg =>
      rw [if_neg (fun z => h2 (in_two.mp z))]
      walk_at "hd"
      refine no fun z => h2 ?_
      rcases GV_iff.mp z with ⟨e, i, cs, rfl, _⟩ | ⟨e, i, j, cs, rfl, _⟩
      · exact .inl ⟨e, rfl⟩
      · exact .inr ⟨e, rfl⟩
    rw [if_pos (in_two.mpr h2)]
    walk_at "hd"
    refine ⟨.tup t, 0, n - 1, rfl, (fun z => nomatch z), fun ys e => ?_, ?_⟩
    · cases e
      exact ⟨line_lt (by omega), fun y hy => known_ok (okt y hy)⟩
    cases ha : areNum 0 (n - 1) (.tup t) with
    | false =>
      walk_at "hd"
      refine no fun z => ?_
      have ha' : t.all (isNum 0 (n - 1)) = false := ha
      rcases GV_iff.mp z with ⟨e, i, cs, rfl, _, ok⟩ | ⟨e, i, j, cs, rfl, _, ok⟩
      · have := int_num ok.2.1.1 (show i ≤ n - 1 by have := ok.2.1.2; omega)
        simp [this] at ha'
      · have h1 := int_num ok.2.1.1 (show i ≤ n - 1 by have := ok.2.1.2; omega)
        have h2 := int_num ok.2.2.1.1 (show j ≤ n - 1 by have := ok.2.2.1.2; omega)
        simp [h1, h2] at ha'
    | true =>
      obtain ⟨ms, rfl, hms⟩ := all_ints (xs := t) ha
      have hn0 : 0 ≤ n := by
        cases ms with
        | nil => exact absurd rfl ht
        | cons m ms => have := hms m List.mem_cons_self; omega
      walk_at "hd"
      refine ⟨c, n, rfl, okc, ?_⟩
      cases hc : ctlB n c with
      | false =>
        walk_at "hd"
        refine no fun z => ?_
        have hc' : ¬ ∃ cs, CtlOk n cs ∧ c = tI cs := fun z => by rw [(ctlB_iff hn0).mpr z] at hc; cases hc
        rcases GV_iff.mp z with ⟨e, i, cs, _, e2, ok⟩ | ⟨e, i, j, cs, _, e2, ok⟩
        · exact hc' ⟨cs, ok.1, e2⟩
        · exact hc' ⟨cs, ok.1, e2⟩
      | true =>
        obtain ⟨cs, hcs, rfl⟩ := (ctlB_iff hn0).mp hc
        walk_at "hd"
        rcases h2 with ⟨rfl, h2⟩ | ⟨rfl, h2⟩
        · rw [if_neg sTS]
          rw [List.length_map] at h2
          obtain ⟨i, rfl⟩ : ∃ i, ms = [i] := by
            match ms, h2 with
            | [i], _ => exact ⟨i, rfl⟩
            | [], h => exact absurd h (by decide)
            | _ :: _ :: _, h => simp only [List.length_cons] at h; omega
          simp only [List.map_cons, List.map_nil]
          walk_at "hd"
          refine ⟨line_lt (show 1 < 10000000 by decide), ?_⟩
          walk_at "hd"
          refine w_inT (d := .int i) (ds := cs.map .int) rfl (toDs_ints cs) (Nat.zero_le 64) ?_
          rw [any_in]
          walk_at "hd"
          unfold kAny
          refine need_by (a := [.bl (decide (i ∈ cs))]) rfl (need_by (a := [decide (i ∈ cs)]) rfl ?_)
          walk_at "hd"
          have hi := hms i List.mem_cons_self
          refine q _ (Iff.trans ?_ GV_iff.symm)
          constructor
          · intro h
            refine .inl ⟨rfl, i, cs, rfl, rfl, hcs, ⟨hi.1, by omega⟩, fun z => ?_⟩
            rw [decide_eq_true z] at h
            cases h
          · rintro (⟨_, i', cs', e1, e2, ok⟩ | ⟨e, _⟩)
            · cases e1
              cases tI_inj e2
              rw [decide_eq_false ok.2.2]
              rfl
            · exact absurd e sTS
        · rw [if_pos rfl]
          rw [List.length_map] at h2
          obtain ⟨i, j, rfl⟩ : ∃ i j, ms = [i, j] := by
            match ms, h2 with
            | [i, j], _ => exact ⟨i, j, rfl⟩
            | [], h => exact absurd h (by decide)
            | [_], h => exact absurd h (show ¬ ((1 : Int) = 2) by decide)
            | _ :: _ :: _ :: _, h => simp only [List.length_cons] at h; omega
          simp only [List.map_cons, List.map_nil]
          have hi := hms i List.mem_cons_self
          have hj := hms j (List.mem_cons_of_mem _ List.mem_cons_self)
          walk_at "hd"
          by_cases hij : i = j
          · rw [if_pos hij]
            walk_at "hd"
            refine no fun z => ?_
            rcases GV_iff.mp z with ⟨e, _⟩ | ⟨_, i', j', cs', e1, _, ok⟩
            · exact sTS e.symm
            · cases e1
              exact ok.2.2.2.2.2 hij
          rw [if_neg hij]
          walk_at "hd"
          refine ⟨line_lt (show 2 < 10000000 by decide), ?_⟩
          walk_at "hd"
          refine w_inT (d := .int i) (ds := cs.map .int) rfl (toDs_ints cs) (Nat.zero_le 64) ?_
          rw [any_in]
          walk_at "hd"
          refine w_inT (d := .int j) (ds := cs.map .int) rfl (toDs_ints cs) (Nat.zero_le 64) ?_
          rw [any_in]
          walk_at "hd"
          unfold kAny
          refine need_by (a := [.bl (decide (i ∈ cs)), .bl (decide (j ∈ cs))]) rfl (need_by (a := [decide (i ∈ cs), decide (j ∈ cs)]) rfl ?_)
          walk_at "hd"
          refine q _ (Iff.trans ?_ GV_iff.symm)
          constructor
          · intro h
            refine .inr ⟨rfl, i, j, cs, rfl, rfl, hcs, ⟨hi.1, by omega⟩, ⟨hj.1, by omega⟩, fun z => ?_, fun z => ?_, hij⟩
            · rw [decide_eq_true z] at h
              cases h
            · rw [decide_eq_true z] at h
              simp at h
          · rintro (⟨e, _⟩ | ⟨_, i', j', cs', e1, e2, ok⟩)
            · exact absurd e.symm sTS
            · cases e1
              cases tI_inj e2
              rw [decide_eq_false ok.2.2.2.1, decide_eq_false ok.2.2.2.2.1]
              rfl
  | int b => walk_at "hd"; exact no fun z => by obtain ⟨s, c, t, e, ht⟩ := GV_tup z; cases e
  | bl b => walk_at "hd"; exact no fun z => by obtain ⟨s, c, t, e, ht⟩ := GV_tup z; cases e
  | str b => walk_at "hd"; exact no fun z => by obtain ⟨s, c, t, e, ht⟩ := GV_tup z; cases e
  | non => walk_at "hd"; exact no fun z => by obtain ⟨s, c, t, e, ht⟩ := GV_tup z; cases e
  | lst b => walk_at "hd"; exact no fun z => by obtain ⟨s, c, t, e, ht⟩ := GV_tup z; cases e
  | _ => exact ok.elim

end My
set_option Elab.async false
set_option linter.all false
set_option maxRecDepth 100000
namespace My
open PySem PL TM
local macro_rules | `(tactic| walk_at "hd") => `(tactic| repeat (first | (with_reducible refine w_C ?_) | ((with_reducible refine' w_var ?_ ?_); rotate_left; exact rfl) | (with_reducible refine w_nil ?_) | (with_reducible refine w_join ?_) | (with_reducible refine w_kStr ?_) | (with_reducible refine w_rv ?_) | (with_reducible refine w_z ?_) | (with_reducible refine w_zL ?_) | (with_reducible refine w_zT ?_) | (with_reducible refine w_tupRg ?_) | ((with_reducible refine w_shr ?_ ?_); (first | decide | omega)) | (with_reducible refine w_cons ?_) | (with_reducible refine w_bin ?_) | (with_reducible refine w_test ?_) | (with_reducible refine w_kB ?_) | (with_reducible refine w_call ?_) | (with_reducible refine w_callB ?_) | (with_reducible refine w_on1 ?_) | (with_reducible refine w_on2 ?_) | (with_reducible refine w_tup ?_) | (with_reducible refine w_lst ?_) | (with_reducible refine w_lstM ?_) | (with_reducible refine w_seq ?_) | ((with_reducible refine' w_pset ?_ ?_); rotate_left; (intro x; first | with_reducible exact set_h0 | with_reducible exact set_h1 | with_reducible exact set_h2 | with_reducible exact set_h3 | with_reducible exact set_h4 | with_reducible exact set_h5 | with_reducible exact set_h6 | with_reducible exact set_h7 | with_reducible exact set_h8 | with_reducible exact set_h9 | with_reducible exact set_h10 | with_reducible exact set_h11 | with_reducible exact set_h12 | with_reducible exact set_h13 | with_reducible exact set_h14 | with_reducible exact set_h15 | with_reducible exact set_h16 | with_reducible exact set_h17 | with_reducible exact set_h18 | with_reducible exact set_h19 | with_reducible exact set_h20 | with_reducible exact set_h21 | with_reducible exact set_h22 | with_reducible exact set_h23 | with_reducible exact set_h24 | with_reducible exact set_h25)) | (with_reducible refine w_next ?_) | (with_reducible refine w_ret ?_) | (with_reducible refine w_retN ?_) | (with_reducible refine w_ifs ?_) | (with_reducible refine w_dnx ?_) | (with_reducible refine w_drt ?_) | (with_reducible refine w_dbk ?_) | (with_reducible refine w_dct ?_) | (with_reducible refine w_ifT ?_) | (with_reducible refine w_ifF ?_) | (with_reducible refine w_ifd ?_) | (with_reducible refine w_ifn ?_) | (with_reducible refine w_drop ?_) | (with_reducible refine w_asg ?_) | ((with_reducible refine' w_gname ?_ ?_); rotate_left; (first | with_reducible exact set_h0 | with_reducible exact set_h1 | with_reducible exact set_h2 | with_reducible exact set_h3 | with_reducible exact set_h4 | with_reducible exact set_h5 | with_reducible exact set_h6 | with_reducible exact set_h7 | with_reducible exact set_h8 | with_reducible exact set_h9 | with_reducible exact set_h10 | with_reducible exact set_h11 | with_reducible exact set_h12 | with_reducible exact set_h13 | with_reducible exact set_h14 | with_reducible exact set_h15 | with_reducible exact set_h16 | with_reducible exact set_h17 | with_reducible exact set_h18 | with_reducible exact set_h19 | with_reducible exact set_h20 | with_reducible exact set_h21 | with_reducible exact set_h22 | with_reducible exact set_h23 | with_reducible exact set_h24 | with_reducible exact set_h25)) | ((with_reducible refine w_gtup ?_ ?_); exact rfl) | (with_reducible refine w_gcons ?_) | (with_reducible refine w_gnil ?_) | (with_reducible refine w_gsub ?_) | (with_reducible refine w_I0 ?_) | ((with_reducible refine w_mod ?_ ?_); (first | decide | omega)) | ((with_reducible refine w_div ?_ ?_); (first | decide | omega)) | (with_reducible refine w_add ?_) | (with_reducible refine w_neg ?_) | (with_reducible refine w_negI ?_) | (with_reducible refine w_eqInt ?_) | (with_reducible refine w_neInt ?_) | (with_reducible refine w_eqBl ?_) | (with_reducible refine w_neBl ?_) | (with_reducible refine w_eqStr ?_) | (with_reducible refine w_neStr ?_) | (with_reducible refine w_ixtup0 ?_) | (with_reducible refine w_ixlst0 ?_) | (with_reducible refine w_ixtup1 ?_) | (with_reducible refine w_ixlst1 ?_) | (with_reducible refine w_ixtup2 ?_) | (with_reducible refine w_ixlst2 ?_) | (with_reducible refine w_ixtup3 ?_) | (with_reducible refine w_ixlst3 ?_) | (with_reducible refine w_ixtup4 ?_) | (with_reducible refine w_ixlst4 ?_) | (with_reducible refine w_ixtup5 ?_) | (with_reducible refine w_ixlst5 ?_) | (with_reducible refine w_need ?_) | (with_reducible refine w_lentup ?_) | (with_reducible refine w_lenlst ?_) | (with_reducible refine w_lenscr ?_) | (with_reducible refine w_sl ?_) | (with_reducible refine w_nop ?_) | (with_reducible refine w_part ?_) | (with_reducible refine w_partI ?_) | (with_reducible refine w_slT ?_) | (with_reducible refine w_slL ?_) | (with_reducible refine w_slS ?_) | (with_reducible refine w_abs ?_) | (with_reducible refine w_int ?_) | (with_reducible refine w_listL ?_) | (with_reducible refine w_listT ?_) | (with_reducible refine w_listS ?_) | (with_reducible refine w_tupL ?_) | (with_reducible refine w_tupT ?_) | (with_reducible refine w_listML ?_) | (with_reducible refine w_listMT ?_) | (with_reducible refine w_and ?_) | (with_reducible refine w_or ?_) | (with_reducible refine w_not ?_) | (with_reducible refine w_andV ?_) | (with_reducible refine w_orV ?_) | (with_reducible refine w_notV ?_) | (with_reducible refine w_if ?_) | (with_reducible refine w_isN ?_) | (with_reducible refine w_notN ?_) | (with_reducible refine w_tisN ?_) | (with_reducible refine w_tnotN ?_) | (with_reducible refine w_in_non ?_) | (with_reducible refine w_in_int ?_) | (with_reducible refine w_in_tup ?_) | (with_reducible refine w_in_lst ?_) | (with_reducible refine w_in_ptr ?_) | (with_reducible refine w_in_str ?_) | (with_reducible refine w_in_bl ?_) | (with_reducible refine w_isB ?_) | (with_reducible refine w_notB ?_) | (with_reducible refine w_for ?_) | (with_reducible refine w_iL ?_) | (with_reducible refine w_iT ?_) | (with_reducible refine w_lstF ?_) | (with_reducible refine w_lstFs ?_) | (with_reducible refine w_tupF ?_) | (with_reducible refine w_R1 ?_) | ((with_reducible refine w_R1I ?_ ?_); (first | decide | omega)) | (with_reducible refine w_R2 ?_) | (with_reducible refine w_forM ?_) | (with_reducible refine w_brk ?_) | (with_reducible refine w_cnt ?_) | (with_reducible refine w_lc ?_) | (with_reducible refine w_lcnil ?_) | (with_reducible refine w_lccons ?_) | (with_reducible refine w_fld ?_) | ((with_reducible refine' w_fldO ?_ ?_); rotate_left; exact rfl) | (with_reducible refine w_meth ?_) | ((with_reducible refine w_objO ?_ ?_); exact rfl) | (with_reducible refine w_make ?_) | (with_reducible refine w_fldS ?_) | (with_reducible refine w_app ?_) | (with_reducible refine w_retF ?_) | (with_reducible refine w_retD ?_) | (with_reducible refine w_retFD ?_) | (with_reducible refine w_raise ?_) | ((with_reducible refine' w_aug ?_ ?_ ?_); rotate_left 2; exact rfl; (intro x; first | with_reducible exact set_h0 | with_reducible exact set_h1 | with_reducible exact set_h2 | with_reducible exact set_h3 | with_reducible exact set_h4 | with_reducible exact set_h5 | with_reducible exact set_h6 | with_reducible exact set_h7 | with_reducible exact set_h8 | with_reducible exact set_h9 | with_reducible exact set_h10 | with_reducible exact set_h11 | with_reducible exact set_h12 | with_reducible exact set_h13 | with_reducible exact set_h14 | with_reducible exact set_h15 | with_reducible exact set_h16 | with_reducible exact set_h17 | with_reducible exact set_h18 | with_reducible exact set_h19 | with_reducible exact set_h20 | with_reducible exact set_h21 | with_reducible exact set_h22 | with_reducible exact set_h23 | with_reducible exact set_h24 | with_reducible exact set_h25)) | (with_reducible refine w_try ?_) | (with_reducible refine w_fzE ?_) | (with_reducible refine w_lstRg ?_) | (with_reducible refine w_pop ?_) | (with_reducible refine w_rev ?_) | (with_reducible refine w_revL ?_) | (with_reducible refine w_forE ?_) | (with_reducible refine w_par ?_) | ((with_reducible refine' w_kpar ?_ ?_ ?_); rotate_left 2; (first | with_reducible exact set_h0 | with_reducible exact set_h1 | with_reducible exact set_h2 | with_reducible exact set_h3 | with_reducible exact set_h4 | with_reducible exact set_h5 | with_reducible exact set_h6 | with_reducible exact set_h7 | with_reducible exact set_h8 | with_reducible exact set_h9 | with_reducible exact set_h10 | with_reducible exact set_h11 | with_reducible exact set_h12 | with_reducible exact set_h13 | with_reducible exact set_h14 | with_reducible exact set_h15 | with_reducible exact set_h16 | with_reducible exact set_h17 | with_reducible exact set_h18 | with_reducible exact set_h19 | with_reducible exact set_h20 | with_reducible exact set_h21 | with_reducible exact set_h22 | with_reducible exact set_h23 | with_reducible exact set_h24 | with_reducible exact set_h25); (first | with_reducible exact set_h0 | with_reducible exact set_h1 | with_reducible exact set_h2 | with_reducible exact set_h3 | with_reducible exact set_h4 | with_reducible exact set_h5 | with_reducible exact set_h6 | with_reducible exact set_h7 | with_reducible exact set_h8 | with_reducible exact set_h9 | with_reducible exact set_h10 | with_reducible exact set_h11 | with_reducible exact set_h12 | with_reducible exact set_h13 | with_reducible exact set_h14 | with_reducible exact set_h15 | with_reducible exact set_h16 | with_reducible exact set_h17 | with_reducible exact set_h18 | with_reducible exact set_h19 | with_reducible exact set_h20 | with_reducible exact set_h21 | with_reducible exact set_h22 | with_reducible exact set_h23 | with_reducible exact set_h24 | with_reducible exact set_h25)) | ((with_reducible refine' w_isi_i ?_ ?_); rotate_left; (first | with_reducible exact kit_ib | with_reducible exact kit_ii | with_reducible exact kit_it | with_reducible exact kit_il | with_reducible exact kit_is)) | ((with_reducible refine' w_isi_b ?_ ?_); rotate_left; (first | with_reducible exact kit_bb | with_reducible exact kit_bi | with_reducible exact kit_bt | with_reducible exact kit_bl | with_reducible exact kit_bs)) | ((with_reducible refine' w_isi_t ?_ ?_); rotate_left; (first | with_reducible exact kit_tb | with_reducible exact kit_ti | with_reducible exact kit_tt | with_reducible exact kit_tl | with_reducible exact kit_ts)) | ((with_reducible refine' w_isi_l ?_ ?_); rotate_left; (first | with_reducible exact kit_lb | with_reducible exact kit_li | with_reducible exact kit_lt | with_reducible exact kit_ll | with_reducible exact kit_ls)) | ((with_reducible refine' w_isi_s ?_ ?_); rotate_left; (first | with_reducible exact kit_sb | with_reducible exact kit_si | with_reducible exact kit_st | with_reducible exact kit_sl | with_reducible exact kit_ss)) | ((with_reducible refine' w_isi_n ?_ ?_); rotate_left; (first | with_reducible exact kit_nb | with_reducible exact kit_ni | with_reducible exact kit_nt | with_reducible exact kit_nl | with_reducible exact kit_ns))))
local macro_rules | `(tactic| walk_at "st") => `(tactic| simp only [pstart, List.map_cons, List.map_nil, List.cons_append, List.nil_append, List.length_cons, List.length_nil, List.replicate, Nat.reduceSub, Nat.reduceAdd, Nat.zero_add])
/-! ### bits, gates -/
theorem for_inE {g : PTG} {tb u : PTS} {D : PEnds} (I : Nat → PNx) {xs : List PV} {σ : PSt} {M : Mem} (h0 : I 0 σ M)
    (hs : ∀ i x σ M K, xs[i]? = some x → I i σ M → (∀ σ' M', I (i + 1) σ' M' → K σ' M') → g x σ M fun σ1 M1 => tb { D with nx := K, bk := D.nx, ct := K } σ1 M1)
    (hd : ∀ σ M, I xs.length σ M → u D σ M) : pForEL g tb u xs D σ M :=
  forE_in I xs 0 (fun i x σ M K e hi hk => by rw [Nat.zero_add] at hi hk; exact hs i x σ M K e hi hk) (fun σ M h => hd σ M (by rw [Nat.zero_add] at h; exact h)) σ M h0
theorem gB_bit {n i : Int} {bs : List Int} (h : Bits n bs) : gB bs i = 0 ∨ gB bs i = 1 := by
  unfold gB
  cases e : bs[i.toNat]? with
  | none => exact .inl rfl
  | some b => exact h.b b (List.mem_of_getElem? e)
theorem at_bits {n i : Int} {bs : List Int} (h : Bits n bs) (h0 : 0 ≤ i) (h1 : i < n) : L2.atI (bs.map PV.int) i = some (.int (gB bs i)) := by
  have hl := h.len
  have h2 : i.toNat < bs.length := by omega
  rw [at_pos _ h0, List.getElem?_map, List.getElem?_eq_getElem h2]
  unfold gB
  rw [List.getElem?_eq_getElem h2]
  rfl
theorem Bits.set {n i x : Int} {bs : List Int} (h : Bits n bs) (hx : x = 0 ∨ x = 1) : Bits n (bs.set i.toNat x) :=
  ⟨by rw [List.length_set]; exact h.len, fun b hb => by
    rcases List.mem_or_eq_of_mem_set hb with z | z
    · exact h.b b z
    · rw [z]; exact hx⟩
theorem Bits.ap {n : Int} {g : Gt} {bs : List Int} (h : Bits n bs) : Bits n (apG g bs) := by
  cases g with
  | turn cs i =>
    show Bits n (if onG cs bs = true then _ else bs)
    split
    · refine h.set ?_
      rcases gB_bit (i := i) h with z | z <;> rw [z]
      · exact .inr rfl
      · exact .inl rfl
    · exact h
  | swap cs i j =>
    show Bits n (if onG cs bs = true then _ else bs)
    split
    · exact (h.set (gB_bit h)).set (gB_bit h)
    · exact h
theorem onG_true {cs bs : List Int} (h : ∀ c ∈ cs, gB bs c = 1) : onG cs bs = true := by
  unfold onG
  rw [List.all_eq_true]
  exact fun c hc => decide_eq_true (h c hc)
theorem onG_false {cs bs : List Int} {c : Int} (hc : c ∈ cs) (h : gB bs c = 0) : onG cs bs = false := by
  cases e : onG cs bs with
  | false => rfl
  | true =>
    unfold onG at e
    rw [List.all_eq_true] at e
    have := of_decide_eq_true (e c hc)
    omega
theorem runG_cons (g : Gt) (gs : List Gt) (bs : List Int) : runG (g :: gs) bs = runG gs (apG g bs) := rfl
theorem Bits.run {n : Int} : ∀ {gs : List Gt} {bs : List Int}, Bits n bs → Bits n (runG gs bs)
  | [], _, h => h
  | g :: gs, _, h => Bits.run (gs := gs) (h.ap (g := g))
theorem map_at {α β : Type} {f : α → β} {xs : List α} {i : Nat} {y : β} (h : (xs.map f)[i]? = some y) : ∃ x, xs[i]? = some x ∧ y = f x := by
  rw [List.getElem?_map] at h
  cases e : xs[i]? with
  | none => rw [e] at h; cases h
  | some x => rw [e] at h; cases h; exact ⟨x, rfl, rfl⟩
theorem GtOk.cs {n : Int} : ∀ {g : Gt}, GtOk n g → CtlOk n (match g with | .turn cs _ => cs | .swap cs _ _ => cs)
  | .turn _ _, h => h.1
  | .swap _ _ _, h => h.1
theorem CtlOk.len {n : Int} {cs : List Int} (h : CtlOk n cs) (hn : n ≤ 400) : cs.length ≤ 400 := by
  have aux : ∀ (cs : List Int) (a : Int), a ≤ n → cs.Pairwise (· < ·) → (∀ c ∈ cs, a ≤ c ∧ c < n) → (cs.length : Int) ≤ n - a := by
    intro cs
    induction cs with
    | nil => intro a ha _ _; show (0 : Int) ≤ _; omega
    | cons c cs ih =>
      intro a ha p m
      obtain ⟨p1, p2⟩ := List.pairwise_cons.mp p
      have mc := m c List.mem_cons_self
      have := ih (c + 1) (by omega) p2 fun d hd => ⟨by have := p1 d hd; omega, (m d (List.mem_cons_of_mem _ hd)).2⟩
      rw [List.length_cons]
      omega
  by_cases h0 : 0 ≤ n
  · have := aux cs 0 h0 h.up h.mm
    omega
  · cases cs with
    | nil => exact Nat.zero_le _
    | cons c cs => have := h.mm c List.mem_cons_self; omega
theorem gtP_T {cs : List Int} {i : Int} : gtP (.turn cs i) = .tup [.str sT, tI cs, .int i] := rfl
theorem gtP_S {cs : List Int} {i j : Int} : gtP (.swap cs i j) = .tup [.str sS, tI cs, .int i, .int j] := rfl
/-- what a gate writes, as a loop's turn ends -/
theorem k_passed (Γ : Ctx) : Keeps (t_passed Γ) 2 4 (sp_passed Γ) := by
  rintro xs M Q E hl ⟨n, gs, bs, rfl, hg, hb, q⟩
  walk_at "st"
  unfold t_passed tI
  walk_at "hd"
  intro p hp
  walk_at "hd"
  refine for_in (fun i σ M' => ∃ x2 x3 bs', σ = [some (.lst (gs.map gtP)), some (.ptr p), x2, x3] ∧ M' = M.put p (.lst (bs'.map .int)) ∧ Bits n bs' ∧ runG (gs.drop i) bs' = runG gs bs) ⟨_, _, bs, rfl, rfl, hb, rfl⟩ ?_ ?_
  · rintro i y σ M' K hy ⟨x2, x3, bs', rfl, rfl, hb', e⟩ hK
    obtain ⟨g, e1, rfl⟩ := map_at hy
    have og := hg g (List.mem_of_getElem? e1)
    rw [drop_at e1, runG_cons] at e
    unfold b_passed_1
    cases g with
    | turn cs k =>
      obtain ⟨hc, hk, nk⟩ := og
      rw [gtP_T]
      walk_at "hd"
      refine w_tupF (xs := cs.map .int) ?_
      refine for_inE (fun j σ M' => M' = M.put p (.lst (bs'.map .int)) ∧ ∃ x3, σ = [some (.lst (gs.map gtP)), some (.ptr p), some (.tup [.str sT, tI cs, .int k]), x3] ∧ ∀ c ∈ cs.take j, gB bs' c = 1) ⟨rfl, _, rfl, fun c hc => by simp at hc⟩ ?_ ?_
      · rintro j y σ M' K' hy ⟨rfl, x3, rfl, ih⟩ hK'
        obtain ⟨c, e2, rfl⟩ := map_at hy
        have mc := hc.mm c (List.mem_of_getElem? e2)
        unfold b_passed_2
        walk_at "hd"
        refine w_ixP put_same (at_bits hb' mc.1 mc.2) ?_
        walk_at "hd"
        by_cases z : gB bs' c = 0
        · rw [if_pos z]
          walk_at "hd"
          refine hK _ _ ⟨_, _, bs', rfl, rfl, hb', ?_⟩
          rw [← e]
          show _ = runG _ (if onG cs bs' = true then _ else bs')
          rw [onG_false (List.mem_of_getElem? e2) z, if_neg Bool.false_ne_true]
        · rw [if_neg z]
          walk_at "hd"
          refine hK' _ _ ⟨rfl, _, rfl, fun d hd => ?_⟩
          rw [List.take_succ, e2] at hd
          rcases List.mem_append.mp hd with h | h
          · exact ih d h
          · rw [List.mem_singleton.mp h]
            exact (gB_bit hb').resolve_left z
      · rintro σ M' ⟨rfl, x3, rfl, ih⟩
        rw [List.length_map, List.take_length] at ih
        unfold u_passed_2
        walk_at "hd"
        rw [if_pos rfl]
        walk_at "hd"
        refine w_ixP put_same (at_bits hb' hk.1 hk.2) ?_
        walk_at "hd"
        rw [set_ptr put_same hk.1 (by rw [List.length_map, hb'.len]; exact hk.2), put_put]
        refine hK _ _ ⟨_, _, bs'.set k.toNat (1 - gB bs' k), rfl, by rw [List.map_set], ?_, ?_⟩
        · have this : Bits n (if onG cs bs' = true then _ else bs') := hb'.ap (g := .turn cs k)
          rw [if_pos (onG_true ih)] at this
          exact this
        · rw [← e]
          show _ = runG _ (if onG cs bs' = true then _ else bs')
          rw [if_pos (onG_true ih)]
    | swap cs k l =>
      obtain ⟨hc, hk, hl, nk, nl, nkl⟩ := og
      rw [gtP_S]
      walk_at "hd"
      refine w_tupF (xs := cs.map .int) ?_
      refine for_inE (fun j σ M' => M' = M.put p (.lst (bs'.map .int)) ∧ ∃ x3, σ = [some (.lst (gs.map gtP)), some (.ptr p), some (.tup [.str sS, tI cs, .int k, .int l]), x3] ∧ ∀ c ∈ cs.take j, gB bs' c = 1) ⟨rfl, _, rfl, fun c hc => by simp at hc⟩ ?_ ?_
      · rintro j y σ M' K' hy ⟨rfl, x3, rfl, ih⟩ hK'
        obtain ⟨c, e2, rfl⟩ := map_at hy
        have mc := hc.mm c (List.mem_of_getElem? e2)
        unfold b_passed_2
        walk_at "hd"
        refine w_ixP put_same (at_bits hb' mc.1 mc.2) ?_
        walk_at "hd"
        by_cases z : gB bs' c = 0
        · rw [if_pos z]
          walk_at "hd"
          refine hK _ _ ⟨_, _, bs', rfl, rfl, hb', ?_⟩
          rw [← e]
          show _ = runG _ (if onG cs bs' = true then _ else bs')
          rw [onG_false (List.mem_of_getElem? e2) z, if_neg Bool.false_ne_true]
        · rw [if_neg z]
          walk_at "hd"
          refine hK' _ _ ⟨rfl, _, rfl, fun d hd => ?_⟩
          rw [List.take_succ, e2] at hd
          rcases List.mem_append.mp hd with h | h
          · exact ih d h
          · rw [List.mem_singleton.mp h]
            exact (gB_bit hb').resolve_left z
      · rintro σ M' ⟨rfl, x3, rfl, ih⟩
        rw [List.length_map, List.take_length] at ih
        unfold u_passed_2
        walk_at "hd"
        rw [if_neg (Ne.symm sTS)]
        walk_at "hd"
        refine w_ixP put_same (at_bits hb' hl.1 hl.2) ?_
        walk_at "hd"
        refine w_ixP put_same (at_bits hb' hk.1 hk.2) ?_
        walk_at "hd"
        rw [set_ptr put_same hk.1 (by rw [List.length_map, hb'.len]; exact hk.2), put_put]
        walk_at "hd"
        rw [set_ptr put_same hl.1 (by rw [List.length_set, List.length_map, hb'.len]; exact hl.2), put_put]
        walk_at "hd"
        refine hK _ _ ⟨_, _, (bs'.set k.toNat (gB bs' l)).set l.toNat (gB bs' k), rfl, by rw [List.map_set, List.map_set], ?_, ?_⟩
        · exact (hb'.set (gB_bit hb')).set (gB_bit hb')
        · rw [← e]
          show _ = runG _ (if onG cs bs' = true then _ else bs')
          rw [if_pos (onG_true ih)]
  · rintro σ M' ⟨x2, x3, bs', rfl, rfl, hb', e⟩
    rw [List.length_map, List.drop_length] at e
    have e' : bs' = runG gs bs := e
    walk_at "hd"
    refine w_tupP put_same ?_
    walk_at "hd"
    show Q (.tup (bs'.map .int)) ((M.put p (.lst (bs'.map .int))).drop p)
    rw [put_drop hp, e']
    exact q

end My
set_option Elab.async false
set_option linter.all false
set_option maxRecDepth 100000
namespace My
open PySem PL TM
local macro_rules | `(tactic| walk_at "hd") => `(tactic| repeat (first | (with_reducible refine w_C ?_) | ((with_reducible refine' w_var ?_ ?_); rotate_left; exact rfl) | (with_reducible refine w_nil ?_) | (with_reducible refine w_join ?_) | (with_reducible refine w_kStr ?_) | (with_reducible refine w_rv ?_) | (with_reducible refine w_z ?_) | (with_reducible refine w_zL ?_) | (with_reducible refine w_zT ?_) | (with_reducible refine w_tupRg ?_) | ((with_reducible refine w_shr ?_ ?_); (first | decide | omega)) | (with_reducible refine w_cons ?_) | (with_reducible refine w_bin ?_) | (with_reducible refine w_test ?_) | (with_reducible refine w_kB ?_) | (with_reducible refine w_call ?_) | (with_reducible refine w_callB ?_) | (with_reducible refine w_on1 ?_) | (with_reducible refine w_on2 ?_) | (with_reducible refine w_tup ?_) | (with_reducible refine w_lst ?_) | (with_reducible refine w_lstM ?_) | (with_reducible refine w_seq ?_) | ((with_reducible refine' w_pset ?_ ?_); rotate_left; (intro x; first | with_reducible exact set_h0 | with_reducible exact set_h1 | with_reducible exact set_h2 | with_reducible exact set_h3 | with_reducible exact set_h4 | with_reducible exact set_h5 | with_reducible exact set_h6 | with_reducible exact set_h7 | with_reducible exact set_h8 | with_reducible exact set_h9 | with_reducible exact set_h10 | with_reducible exact set_h11 | with_reducible exact set_h12 | with_reducible exact set_h13 | with_reducible exact set_h14 | with_reducible exact set_h15 | with_reducible exact set_h16 | with_reducible exact set_h17 | with_reducible exact set_h18 | with_reducible exact set_h19 | with_reducible exact set_h20 | with_reducible exact set_h21 | with_reducible exact set_h22 | with_reducible exact set_h23 | with_reducible exact set_h24 | with_reducible exact set_h25)) | (with_reducible refine w_next ?_) | (with_reducible refine w_ret ?_) | (with_reducible refine w_retN ?_) | (with_reducible refine w_ifs ?_) | (with_reducible refine w_dnx ?_) | (with_reducible refine w_drt ?_) | (with_reducible refine w_dbk ?_) | (with_reducible refine w_dct ?_) | (with_reducible refine w_ifT ?_) | (with_reducible refine w_ifF ?_) | (with_reducible refine w_ifd ?_) | (with_reducible refine w_ifn ?_) | (with_reducible refine w_drop ?_) | (with_reducible refine w_asg ?_) | ((with_reducible refine' w_gname ?_ ?_); rotate_left; (first | with_reducible exact set_h0 | with_reducible exact set_h1 | with_reducible exact set_h2 | with_reducible exact set_h3 | with_reducible exact set_h4 | with_reducible exact set_h5 | with_reducible exact set_h6 | with_reducible exact set_h7 | with_reducible exact set_h8 | with_reducible exact set_h9 | with_reducible exact set_h10 | with_reducible exact set_h11 | with_reducible exact set_h12 | with_reducible exact set_h13 | with_reducible exact set_h14 | with_reducible exact set_h15 | with_reducible exact set_h16 | with_reducible exact set_h17 | with_reducible exact set_h18 | with_reducible exact set_h19 | with_reducible exact set_h20 | with_reducible exact set_h21 | with_reducible exact set_h22 | with_reducible exact set_h23 | with_reducible exact set_h24 | with_reducible exact set_h25)) | ((with_reducible refine w_gtup ?_ ?_); exact rfl) | (with_reducible refine w_gcons ?_) | (with_reducible refine w_gnil ?_) | (with_reducible refine w_gsub ?_) | (with_reducible refine w_I0 ?_) | ((with_reducible refine w_mod ?_ ?_); (first | decide | omega)) | ((with_reducible refine w_div ?_ ?_); (first | decide | omega)) | (with_reducible refine w_add ?_) | (with_reducible refine w_neg ?_) | (with_reducible refine w_negI ?_) | (with_reducible refine w_eqInt ?_) | (with_reducible refine w_neInt ?_) | (with_reducible refine w_eqBl ?_) | (with_reducible refine w_neBl ?_) | (with_reducible refine w_eqStr ?_) | (with_reducible refine w_neStr ?_) | (with_reducible refine w_ixtup0 ?_) | (with_reducible refine w_ixlst0 ?_) | (with_reducible refine w_ixtup1 ?_) | (with_reducible refine w_ixlst1 ?_) | (with_reducible refine w_ixtup2 ?_) | (with_reducible refine w_ixlst2 ?_) | (with_reducible refine w_ixtup3 ?_) | (with_reducible refine w_ixlst3 ?_) | (with_reducible refine w_ixtup4 ?_) | (with_reducible refine w_ixlst4 ?_) | (with_reducible refine w_ixtup5 ?_) | (with_reducible refine w_ixlst5 ?_) | (with_reducible refine w_need ?_) | (with_reducible refine w_lentup ?_) | (with_reducible refine w_lenlst ?_) | (with_reducible refine w_lenscr ?_) | (with_reducible refine w_sl ?_) | (with_reducible refine w_nop ?_) | (with_reducible refine w_part ?_) | (with_reducible refine w_partI ?_) | (with_reducible refine w_slT ?_) | (with_reducible refine w_slL ?_) | (with_reducible refine w_slS ?_) | (with_reducible refine w_abs ?_) | (with_reducible refine w_int ?_) | (with_reducible refine w_listL ?_) | (with_reducible refine w_listT ?_) | (with_reducible refine w_listS ?_) | (with_reducible refine w_tupL ?_) | (with_reducible refine w_tupT ?_) | (with_reducible refine w_listML ?_) | (with_reducible refine w_listMT ?_) | (with_reducible refine w_and ?_) | (with_reducible refine w_or ?_) | (with_reducible refine w_not ?_) | (with_reducible refine w_andV ?_) | (with_reducible refine w_orV ?_) | (with_reducible refine w_notV ?_) | (with_reducible refine w_if ?_) | (with_reducible refine w_isN ?_) | (with_reducible refine w_notN ?_) | (with_reducible refine w_tisN ?_) | (with_reducible refine w_tnotN ?_) | (with_reducible refine w_in_non ?_) | (with_reducible refine w_in_int ?_) | (with_reducible refine w_in_tup ?_) | (with_reducible refine w_in_lst ?_) | (with_reducible refine w_in_ptr ?_) | (with_reducible refine w_in_str ?_) | (with_reducible refine w_in_bl ?_) | (with_reducible refine w_isB ?_) | (with_reducible refine w_notB ?_) | (with_reducible refine w_for ?_) | (with_reducible refine w_iL ?_) | (with_reducible refine w_iT ?_) | (with_reducible refine w_lstF ?_) | (with_reducible refine w_lstFs ?_) | (with_reducible refine w_tupF ?_) | (with_reducible refine w_R1 ?_) | ((with_reducible refine w_R1I ?_ ?_); (first | decide | omega)) | (with_reducible refine w_R2 ?_) | (with_reducible refine w_forM ?_) | (with_reducible refine w_brk ?_) | (with_reducible refine w_cnt ?_) | (with_reducible refine w_lc ?_) | (with_reducible refine w_lcnil ?_) | (with_reducible refine w_lccons ?_) | (with_reducible refine w_fld ?_) | ((with_reducible refine' w_fldO ?_ ?_); rotate_left; exact rfl) | (with_reducible refine w_meth ?_) | ((with_reducible refine w_objO ?_ ?_); exact rfl) | (with_reducible refine w_make ?_) | (with_reducible refine w_fldS ?_) | (with_reducible refine w_app ?_) | (with_reducible refine w_retF ?_) | (with_reducible refine w_retD ?_) | (with_reducible refine w_retFD ?_) | (with_reducible refine w_raise ?_) | ((with_reducible refine' w_aug ?_ ?_ ?_); rotate_left 2; exact rfl; (intro x; first | with_reducible exact set_h0 | with_reducible exact set_h1 | with_reducible exact set_h2 | with_reducible exact set_h3 | with_reducible exact set_h4 | with_reducible exact set_h5 | with_reducible exact set_h6 | with_reducible exact set_h7 | with_reducible exact set_h8 | with_reducible exact set_h9 | with_reducible exact set_h10 | with_reducible exact set_h11 | with_reducible exact set_h12 | with_reducible exact set_h13 | with_reducible exact set_h14 | with_reducible exact set_h15 | with_reducible exact set_h16 | with_reducible exact set_h17 | with_reducible exact set_h18 | with_reducible exact set_h19 | with_reducible exact set_h20 | with_reducible exact set_h21 | with_reducible exact set_h22 | with_reducible exact set_h23 | with_reducible exact set_h24 | with_reducible exact set_h25)) | (with_reducible refine w_try ?_) | (with_reducible refine w_fzE ?_) | (with_reducible refine w_lstRg ?_) | (with_reducible refine w_pop ?_) | (with_reducible refine w_rev ?_) | (with_reducible refine w_revL ?_) | (with_reducible refine w_forE ?_) | (with_reducible refine w_par ?_) | ((with_reducible refine' w_kpar ?_ ?_ ?_); rotate_left 2; (first | with_reducible exact set_h0 | with_reducible exact set_h1 | with_reducible exact set_h2 | with_reducible exact set_h3 | with_reducible exact set_h4 | with_reducible exact set_h5 | with_reducible exact set_h6 | with_reducible exact set_h7 | with_reducible exact set_h8 | with_reducible exact set_h9 | with_reducible exact set_h10 | with_reducible exact set_h11 | with_reducible exact set_h12 | with_reducible exact set_h13 | with_reducible exact set_h14 | with_reducible exact set_h15 | with_reducible exact set_h16 | with_reducible exact set_h17 | with_reducible exact set_h18 | with_reducible exact set_h19 | with_reducible exact set_h20 | with_reducible exact set_h21 | with_reducible exact set_h22 | with_reducible exact set_h23 | with_reducible exact set_h24 | with_reducible exact set_h25); (first | with_reducible exact set_h0 | with_reducible exact set_h1 | with_reducible exact set_h2 | with_reducible exact set_h3 | with_reducible exact set_h4 | with_reducible exact set_h5 | with_reducible exact set_h6 | with_reducible exact set_h7 | with_reducible exact set_h8 | with_reducible exact set_h9 | with_reducible exact set_h10 | with_reducible exact set_h11 | with_reducible exact set_h12 | with_reducible exact set_h13 | with_reducible exact set_h14 | with_reducible exact set_h15 | with_reducible exact set_h16 | with_reducible exact set_h17 | with_reducible exact set_h18 | with_reducible exact set_h19 | with_reducible exact set_h20 | with_reducible exact set_h21 | with_reducible exact set_h22 | with_reducible exact set_h23 | with_reducible exact set_h24 | with_reducible exact set_h25)) | ((with_reducible refine' w_isi_i ?_ ?_); rotate_left; (first | with_reducible exact kit_ib | with_reducible exact kit_ii | with_reducible exact kit_it | with_reducible exact kit_il | with_reducible exact kit_is)) | ((with_reducible refine' w_isi_b ?_ ?_); rotate_left; (first | with_reducible exact kit_bb | with_reducible exact kit_bi | with_reducible exact kit_bt | with_reducible exact kit_bl | with_reducible exact kit_bs)) | ((with_reducible refine' w_isi_t ?_ ?_); rotate_left; (first | with_reducible exact kit_tb | with_reducible exact kit_ti | with_reducible exact kit_tt | with_reducible exact kit_tl | with_reducible exact kit_ts)) | ((with_reducible refine' w_isi_l ?_ ?_); rotate_left; (first | with_reducible exact kit_lb | with_reducible exact kit_li | with_reducible exact kit_lt | with_reducible exact kit_ll | with_reducible exact kit_ls)) | ((with_reducible refine' w_isi_s ?_ ?_); rotate_left; (first | with_reducible exact kit_sb | with_reducible exact kit_si | with_reducible exact kit_st | with_reducible exact kit_sl | with_reducible exact kit_ss)) | ((with_reducible refine' w_isi_n ?_ ?_); rotate_left; (first | with_reducible exact kit_nb | with_reducible exact kit_ni | with_reducible exact kit_nt | with_reducible exact kit_nl | with_reducible exact kit_ns))))
local macro_rules | `(tactic| walk_at "st") => `(tactic| simp only [pstart, List.map_cons, List.map_nil, List.cons_append, List.nil_append, List.length_cons, List.length_nil, List.replicate, Nat.reduceSub, Nat.reduceAdd, Nat.zero_add])
theorem w_isiV {v : PV} {n T : String} {b : Bool} {M : Mem} {Q : PQ} (ht : tyOf M v = some n) (e : L2.kitB n T = some b) (h : Q (.bl b) M) : kIsi T v M Q := by rw [isi_of ht, e]; exact h
theorem okV_gt {n : Int} {g : Gt} (h : GtOk n g) (hn : n ≤ 400) : okV 3 (gtP g) := by
  cases g with
  | turn cs i =>
    have hl := CtlOk.len h.1 hn
    refine ⟨by simp, fun x hx => ?_⟩
    simp only [List.mem_cons, List.not_mem_nil, or_false] at hx
    rcases hx with rfl | rfl | rfl
    · exact trivial
    · exact okV_tI (by omega)
    · exact trivial
  | swap cs i j =>
    have hl := CtlOk.len h.1 hn
    refine ⟨by simp, fun x hx => ?_⟩
    simp only [List.mem_cons, List.not_mem_nil, or_false] at hx
    rcases hx with rfl | rfl | rfl | rfl
    · exact trivial
    · exact okV_tI (by omega)
    · exact trivial
    · exact trivial
theorem gArg_P {n : Int} {g : Gt} (h : GtOk n g) (hn : n ≤ 400) : gArg (gtP g) := by
  refine ⟨okV_gt h hn, fun w c t e _ => ?_⟩
  cases g with
  | turn cs i => cases e; exact ⟨_, rfl, lT⟩
  | swap cs i j => cases e; exact ⟨_, rfl, lS⟩
theorem k_law_taken (Γ : Ctx) : Keeps (t_law_taken Γ) 2 7 (sp_law_taken Γ) := by
  rintro xs M Q E hl ⟨n, gs, bs, rfl, hn, hg, hb, q⟩
  walk_at "st"
  unfold t_law_taken tI
  walk_at "hd"
  intro p hp
  walk_at "hd"
  have key : ∀ (bs' : List Int) (σ : PSt) (cs : List Int) (R : PQ), Bits n bs' → CtlOk n cs → σ[2]? = some (some (.ptr p)) → σ.length = 7 → R (.lst ((cs.map fun c => decide (gB bs' c = 1)).map .bl)) (M.put p (.lst (bs'.map .int))) →
      pLcL 6 pYes (pBin oEq (pBin oIx (pVar 2) (pVar 6)) (pC (.int 1))) (cs.map .int) [] σ (M.put p (.lst (bs'.map .int))) R := by
    intro bs' σ cs R hb' hc h2 h7 hR
    refine lc_map (fun y => match y with | .int c => .bl (decide (gB bs' c = 1)) | _ => .non) (fun y hy R' hR' => ?_) ?_
    · obtain ⟨c, hc1, rfl⟩ := List.mem_map.mp hy
      have mc := hc.mm c hc1
      walk_at "hd"
      refine w_var (x := .ptr p) (by rw [List.getElem?_set_ne (by decide)]; exact h2) ?_
      walk_at "hd"
      refine w_var (x := .int c) (by rw [List.getElem?_set_self (by omega)]) ?_
      refine w_ixP put_same (at_bits hb' mc.1 mc.2) ?_
      walk_at "hd"
      exact hR'
    · rw [List.map_map] at hR ⊢
      exact hR
  refine for_in (fun i σ M' => ∃ x3 x4 x5 bs', σ = [some (.lst (gs.map gtP)), some (.tup (bs.map .int)), some (.ptr p), x3, x4, x5, none] ∧ M' = M.put p (.lst (bs'.map .int)) ∧ Bits n bs' ∧ runG (gs.drop i) bs' = runG gs bs) ⟨_, _, _, bs, rfl, rfl, hb, rfl⟩ ?_ ?_
  · rintro i y σ M' K hy ⟨x3, x4, x5, bs', rfl, rfl, hb', e⟩ hK
    obtain ⟨g, e1, rfl⟩ := map_at hy
    have og := hg g (List.mem_of_getElem? e1)
    rw [drop_at e1, runG_cons] at e
    unfold b_law_taken_1
    cases g with
    | turn cs k =>
      obtain ⟨hc, hk, nk⟩ := og
      rw [gtP_T]
      walk_at "hd"
      refine w_tupF (xs := cs.map .int) ?_
      refine ⟨by rw [List.length_map]; exact line_lt (by have := CtlOk.len hc hn; omega), key bs' _ cs _ hb' hc rfl rfl ?_⟩
      walk_at "hd"
      unfold kAll
      refine need_by rfl (need_by (blsOf_map _) ?_)
      rw [List.all_map]
      walk_at "hd"
      show if onG cs bs' = true then _ else _
      by_cases ho : onG cs bs' = true
      · rw [if_pos ho]
        walk_at "hd"
        rw [if_pos rfl]
        walk_at "hd"
        refine w_ixP put_same (at_bits hb' hk.1 hk.2) ?_
        walk_at "hd"
        rw [set_ptr put_same hk.1 (by rw [List.length_map, hb'.len]; exact hk.2), put_put]
        refine hK _ _ ⟨_, _, _, bs'.set k.toNat (1 - gB bs' k), rfl, by rw [List.map_set], ?_, ?_⟩
        · have this : Bits n (if onG cs bs' = true then _ else bs') := hb'.ap (g := .turn cs k)
          rw [if_pos ho] at this
          exact this
        · rw [← e]
          show _ = runG _ (if onG cs bs' = true then _ else bs')
          rw [if_pos ho]
      · rw [if_neg ho]
        walk_at "hd"
        refine hK _ _ ⟨_, _, _, bs', rfl, rfl, hb', ?_⟩
        rw [← e]
        show _ = runG _ (if onG cs bs' = true then _ else bs')
        rw [if_neg ho]
    | swap cs k l =>
      obtain ⟨hc, hk, hl, nk, nl, nkl⟩ := og
      rw [gtP_S]
      walk_at "hd"
      refine w_tupF (xs := cs.map .int) ?_
      refine ⟨by rw [List.length_map]; exact line_lt (by have := CtlOk.len hc hn; omega), key bs' _ cs _ hb' hc rfl rfl ?_⟩
      walk_at "hd"
      unfold kAll
      refine need_by rfl (need_by (blsOf_map _) ?_)
      rw [List.all_map]
      walk_at "hd"
      show if onG cs bs' = true then _ else _
      by_cases ho : onG cs bs' = true
      · rw [if_pos ho]
        walk_at "hd"
        rw [if_neg (Ne.symm sTS)]
        walk_at "hd"
        refine w_ixP put_same (at_bits hb' hk.1 hk.2) ?_
        walk_at "hd"
        refine w_ixP put_same (at_bits hb' hl.1 hl.2) ?_
        walk_at "hd"
        rw [set_ptr put_same hk.1 (by rw [List.length_map, hb'.len]; exact hk.2), put_put]
        walk_at "hd"
        rw [set_ptr put_same hl.1 (by rw [List.length_set, List.length_map, hb'.len]; exact hl.2), put_put]
        refine hK _ _ ⟨_, _, _, (bs'.set k.toNat (gB bs' l)).set l.toNat (gB bs' k), rfl, by rw [List.map_set, List.map_set], ?_, ?_⟩
        · exact (hb'.set (gB_bit hb')).set (gB_bit hb')
        · rw [← e]
          show _ = runG _ (if onG cs bs' = true then _ else bs')
          rw [if_pos ho]
      · rw [if_neg ho]
        walk_at "hd"
        refine hK _ _ ⟨_, _, _, bs', rfl, rfl, hb', ?_⟩
        rw [← e]
        show _ = runG _ (if onG cs bs' = true then _ else bs')
        rw [if_neg ho]
  · rintro σ M' ⟨x3, x4, x5, bs', rfl, rfl, hb', e⟩
    rw [List.length_map, List.drop_length] at e
    have e' : bs' = runG gs bs := e
    walk_at "hd"
    refine w_tupP put_same ?_
    walk_at "hd"
    show Q (.tup (bs'.map .int)) ((M.put p (.lst (bs'.map .int))).drop p)
    rw [put_drop hp, e']
    exact q

end My
set_option Elab.async false
set_option linter.all false
set_option maxRecDepth 100000
namespace My
open PySem PL TM
local macro_rules | `(tactic| walk_at "hd") => `(tactic| repeat (first | (with_reducible refine w_C ?_) | ((with_reducible refine' w_var ?_ ?_); rotate_left; exact rfl) | (with_reducible refine w_nil ?_) | (with_reducible refine w_join ?_) | (with_reducible refine w_kStr ?_) | (with_reducible refine w_rv ?_) | (with_reducible refine w_z ?_) | (with_reducible refine w_zL ?_) | (with_reducible refine w_zT ?_) | (with_reducible refine w_tupRg ?_) | ((with_reducible refine w_shr ?_ ?_); (first | decide | omega)) | (with_reducible refine w_cons ?_) | (with_reducible refine w_bin ?_) | (with_reducible refine w_test ?_) | (with_reducible refine w_kB ?_) | (with_reducible refine w_call ?_) | (with_reducible refine w_callB ?_) | (with_reducible refine w_on1 ?_) | (with_reducible refine w_on2 ?_) | (with_reducible refine w_tup ?_) | (with_reducible refine w_lst ?_) | (with_reducible refine w_lstM ?_) | (with_reducible refine w_seq ?_) | ((with_reducible refine' w_pset ?_ ?_); rotate_left; (intro x; first | with_reducible exact set_h0 | with_reducible exact set_h1 | with_reducible exact set_h2 | with_reducible exact set_h3 | with_reducible exact set_h4 | with_reducible exact set_h5 | with_reducible exact set_h6 | with_reducible exact set_h7 | with_reducible exact set_h8 | with_reducible exact set_h9 | with_reducible exact set_h10 | with_reducible exact set_h11 | with_reducible exact set_h12 | with_reducible exact set_h13 | with_reducible exact set_h14 | with_reducible exact set_h15 | with_reducible exact set_h16 | with_reducible exact set_h17 | with_reducible exact set_h18 | with_reducible exact set_h19 | with_reducible exact set_h20 | with_reducible exact set_h21 | with_reducible exact set_h22 | with_reducible exact set_h23 | with_reducible exact set_h24 | with_reducible exact set_h25)) | (with_reducible refine w_next ?_) | (with_reducible refine w_ret ?_) | (with_reducible refine w_retN ?_) | (with_reducible refine w_ifs ?_) | (with_reducible refine w_dnx ?_) | (with_reducible refine w_drt ?_) | (with_reducible refine w_dbk ?_) | (with_reducible refine w_dct ?_) | (with_reducible refine w_ifT ?_) | (with_reducible refine w_ifF ?_) | (with_reducible refine w_ifd ?_) | (with_reducible refine w_ifn ?_) | (with_reducible refine w_drop ?_) | (with_reducible refine w_asg ?_) | ((with_reducible refine' w_gname ?_ ?_); rotate_left; (first | with_reducible exact set_h0 | with_reducible exact set_h1 | with_reducible exact set_h2 | with_reducible exact set_h3 | with_reducible exact set_h4 | with_reducible exact set_h5 | with_reducible exact set_h6 | with_reducible exact set_h7 | with_reducible exact set_h8 | with_reducible exact set_h9 | with_reducible exact set_h10 | with_reducible exact set_h11 | with_reducible exact set_h12 | with_reducible exact set_h13 | with_reducible exact set_h14 | with_reducible exact set_h15 | with_reducible exact set_h16 | with_reducible exact set_h17 | with_reducible exact set_h18 | with_reducible exact set_h19 | with_reducible exact set_h20 | with_reducible exact set_h21 | with_reducible exact set_h22 | with_reducible exact set_h23 | with_reducible exact set_h24 | with_reducible exact set_h25)) | ((with_reducible refine w_gtup ?_ ?_); exact rfl) | (with_reducible refine w_gcons ?_) | (with_reducible refine w_gnil ?_) | (with_reducible refine w_gsub ?_) | (with_reducible refine w_I0 ?_) | ((with_reducible refine w_mod ?_ ?_); (first | decide | omega)) | ((with_reducible refine w_div ?_ ?_); (first | decide | omega)) | (with_reducible refine w_add ?_) | (with_reducible refine w_neg ?_) | (with_reducible refine w_negI ?_) | (with_reducible refine w_eqInt ?_) | (with_reducible refine w_neInt ?_) | (with_reducible refine w_eqBl ?_) | (with_reducible refine w_neBl ?_) | (with_reducible refine w_eqStr ?_) | (with_reducible refine w_neStr ?_) | (with_reducible refine w_ixtup0 ?_) | (with_reducible refine w_ixlst0 ?_) | (with_reducible refine w_ixtup1 ?_) | (with_reducible refine w_ixlst1 ?_) | (with_reducible refine w_ixtup2 ?_) | (with_reducible refine w_ixlst2 ?_) | (with_reducible refine w_ixtup3 ?_) | (with_reducible refine w_ixlst3 ?_) | (with_reducible refine w_ixtup4 ?_) | (with_reducible refine w_ixlst4 ?_) | (with_reducible refine w_ixtup5 ?_) | (with_reducible refine w_ixlst5 ?_) | (with_reducible refine w_need ?_) | (with_reducible refine w_lentup ?_) | (with_reducible refine w_lenlst ?_) | (with_reducible refine w_lenscr ?_) | (with_reducible refine w_sl ?_) | (with_reducible refine w_nop ?_) | (with_reducible refine w_part ?_) | (with_reducible refine w_partI ?_) | (with_reducible refine w_slT ?_) | (with_reducible refine w_slL ?_) | (with_reducible refine w_slS ?_) | (with_reducible refine w_abs ?_) | (with_reducible refine w_int ?_) | (with_reducible refine w_listL ?_) | (with_reducible refine w_listT ?_) | (with_reducible refine w_listS ?_) | (with_reducible refine w_tupL ?_) | (with_reducible refine w_tupT ?_) | (with_reducible refine w_listML ?_) | (with_reducible refine w_listMT ?_) | (with_reducible refine w_and ?_) | (with_reducible refine w_or ?_) | (with_reducible refine w_not ?_) | (with_reducible refine w_andV ?_) | (with_reducible refine w_orV ?_) | (with_reducible refine w_notV ?_) | (with_reducible refine w_if ?_) | (with_reducible refine w_isN ?_) | (with_reducible refine w_notN ?_) | (with_reducible refine w_tisN ?_) | (with_reducible refine w_tnotN ?_) | (with_reducible refine w_in_non ?_) | (with_reducible refine w_in_int ?_) | (with_reducible refine w_in_tup ?_) | (with_reducible refine w_in_lst ?_) | (with_reducible refine w_in_ptr ?_) | (with_reducible refine w_in_str ?_) | (with_reducible refine w_in_bl ?_) | (with_reducible refine w_isB ?_) | (with_reducible refine w_notB ?_) | (with_reducible refine w_for ?_) | (with_reducible refine w_iL ?_) | (with_reducible refine w_iT ?_) | (with_reducible refine w_lstF ?_) | (with_reducible refine w_lstFs ?_) | (with_reducible refine w_tupF ?_) | (with_reducible refine w_R1 ?_) | ((with_reducible refine w_R1I ?_ ?_); (first | decide | omega)) | (with_reducible refine w_R2 ?_) | (with_reducible refine w_forM ?_) | (with_reducible refine w_brk ?_) | (with_reducible refine w_cnt ?_) | (with_reducible refine w_lc ?_) | (with_reducible refine w_lcnil ?_) | (with_reducible refine w_lccons ?_) | (with_reducible refine w_fld ?_) | ((with_reducible refine' w_fldO ?_ ?_); rotate_left; exact rfl) | (with_reducible refine w_meth ?_) | ((with_reducible refine w_objO ?_ ?_); exact rfl) | (with_reducible refine w_make ?_) | (with_reducible refine w_fldS ?_) | (with_reducible refine w_app ?_) | (with_reducible refine w_retF ?_) | (with_reducible refine w_retD ?_) | (with_reducible refine w_retFD ?_) | (with_reducible refine w_raise ?_) | ((with_reducible refine' w_aug ?_ ?_ ?_); rotate_left 2; exact rfl; (intro x; first | with_reducible exact set_h0 | with_reducible exact set_h1 | with_reducible exact set_h2 | with_reducible exact set_h3 | with_reducible exact set_h4 | with_reducible exact set_h5 | with_reducible exact set_h6 | with_reducible exact set_h7 | with_reducible exact set_h8 | with_reducible exact set_h9 | with_reducible exact set_h10 | with_reducible exact set_h11 | with_reducible exact set_h12 | with_reducible exact set_h13 | with_reducible exact set_h14 | with_reducible exact set_h15 | with_reducible exact set_h16 | with_reducible exact set_h17 | with_reducible exact set_h18 | with_reducible exact set_h19 | with_reducible exact set_h20 | with_reducible exact set_h21 | with_reducible exact set_h22 | with_reducible exact set_h23 | with_reducible exact set_h24 | with_reducible exact set_h25)) | (with_reducible refine w_try ?_) | (with_reducible refine w_fzE ?_) | (with_reducible refine w_lstRg ?_) | (with_reducible refine w_pop ?_) | (with_reducible refine w_rev ?_) | (with_reducible refine w_revL ?_) | (with_reducible refine w_forE ?_) | (with_reducible refine w_par ?_) | ((with_reducible refine' w_kpar ?_ ?_ ?_); rotate_left 2; (first | with_reducible exact set_h0 | with_reducible exact set_h1 | with_reducible exact set_h2 | with_reducible exact set_h3 | with_reducible exact set_h4 | with_reducible exact set_h5 | with_reducible exact set_h6 | with_reducible exact set_h7 | with_reducible exact set_h8 | with_reducible exact set_h9 | with_reducible exact set_h10 | with_reducible exact set_h11 | with_reducible exact set_h12 | with_reducible exact set_h13 | with_reducible exact set_h14 | with_reducible exact set_h15 | with_reducible exact set_h16 | with_reducible exact set_h17 | with_reducible exact set_h18 | with_reducible exact set_h19 | with_reducible exact set_h20 | with_reducible exact set_h21 | with_reducible exact set_h22 | with_reducible exact set_h23 | with_reducible exact set_h24 | with_reducible exact set_h25); (first | with_reducible exact set_h0 | with_reducible exact set_h1 | with_reducible exact set_h2 | with_reducible exact set_h3 | with_reducible exact set_h4 | with_reducible exact set_h5 | with_reducible exact set_h6 | with_reducible exact set_h7 | with_reducible exact set_h8 | with_reducible exact set_h9 | with_reducible exact set_h10 | with_reducible exact set_h11 | with_reducible exact set_h12 | with_reducible exact set_h13 | with_reducible exact set_h14 | with_reducible exact set_h15 | with_reducible exact set_h16 | with_reducible exact set_h17 | with_reducible exact set_h18 | with_reducible exact set_h19 | with_reducible exact set_h20 | with_reducible exact set_h21 | with_reducible exact set_h22 | with_reducible exact set_h23 | with_reducible exact set_h24 | with_reducible exact set_h25)) | ((with_reducible refine' w_isi_i ?_ ?_); rotate_left; (first | with_reducible exact kit_ib | with_reducible exact kit_ii | with_reducible exact kit_it | with_reducible exact kit_il | with_reducible exact kit_is)) | ((with_reducible refine' w_isi_b ?_ ?_); rotate_left; (first | with_reducible exact kit_bb | with_reducible exact kit_bi | with_reducible exact kit_bt | with_reducible exact kit_bl | with_reducible exact kit_bs)) | ((with_reducible refine' w_isi_t ?_ ?_); rotate_left; (first | with_reducible exact kit_tb | with_reducible exact kit_ti | with_reducible exact kit_tt | with_reducible exact kit_tl | with_reducible exact kit_ts)) | ((with_reducible refine' w_isi_l ?_ ?_); rotate_left; (first | with_reducible exact kit_lb | with_reducible exact kit_li | with_reducible exact kit_lt | with_reducible exact kit_ll | with_reducible exact kit_ls)) | ((with_reducible refine' w_isi_s ?_ ?_); rotate_left; (first | with_reducible exact kit_sb | with_reducible exact kit_si | with_reducible exact kit_st | with_reducible exact kit_sl | with_reducible exact kit_ss)) | ((with_reducible refine' w_isi_n ?_ ?_); rotate_left; (first | with_reducible exact kit_nb | with_reducible exact kit_ni | with_reducible exact kit_nt | with_reducible exact kit_nl | with_reducible exact kit_ns))))
local macro_rules | `(tactic| walk_at "st") => `(tactic| simp only [pstart, List.map_cons, List.map_nil, List.cons_append, List.nil_append, List.length_cons, List.length_nil, List.replicate, Nat.reduceSub, Nat.reduceAdd, Nat.zero_add])
theorem k_Net_init (Γ : Ctx) : Keeps (t_Net_init Γ) 3 4 (sp_Net_init Γ) := by
  rintro xs M Q E hl h
  rcases h with ⟨p, n, gv, gs, rfl, hn, hl1, ht, hlg, hg, hp, q⟩ | ⟨p, nv, gvs, rfl, hnv, hlg, bad, q⟩
  · walk_at "st"
    unfold t_Net_init
    walk_at "hd"
    refine c_is_number' (fun h => nomatch h) ?_
    rw [int_num hn.1 hn.2]
    walk_at "hd"
    refine w_isiV ht kit_ll ?_
    walk_at "hd"
    rw [len_of hl1]
    walk_at "hd"
    rw [if_neg (by rw [List.length_map]; omega)]
    walk_at "hd"
    refine need_by hl1 ?_
    refine for_inG (fun i σ M' => M' = M ∧ ∃ r, σ = [some (.ptr p), some (.int n), some gv, r]) ⟨rfl, _, rfl⟩ ?_ ?_
    · rintro i x σ M' K hx ⟨rfl, r, rfl⟩ hK
      obtain ⟨g, e1, rfl⟩ := map_at hx
      have og := hg g (List.mem_of_getElem? e1)
      unfold b_Net_init_1
      walk_at "hd"
      refine ⟨_, n, rfl, gArg_P og hn.2, fun b hb => ?_⟩
      obtain rfl : b = true := hb.mpr ⟨g, og, rfl⟩
      walk_at "hd"
      exact hK _ _ hl1 ⟨rfl, _, rfl⟩
    · rintro σ M' ⟨rfl, r, rfl⟩
      walk_at "hd"
      have h1 := lstOf_put (p := p) (o := .obj Γ.Net (putP (Str.ofString "lines") (.int n) [])) hl1 (fun ys z => by rw [hp] at z; cases z)
      rw [putF_ptr hp]
      refine ⟨(by show 0 < 1000; decide), ?_⟩
      walk_at "hd"
      rw [list_of h1]
      walk_at "hd"
      rw [putF_ptr put_same]
      refine ⟨(by show 1 < 1000; decide), ?_⟩
      rw [put_put]
      exact q
  · walk_at "st"
    unfold t_Net_init
    walk_at "hd"
    refine c_is_number' (known_ok hnv) ?_
    rcases bad with b1 | ⟨n, rfl, hn, bad⟩
    · rw [b1]
      walk_at "hd"
      exact q
    rw [int_num hn.1 hn.2]
    walk_at "hd"
    by_cases hl : (100000 : Int) < gvs.length
    · rw [if_pos hl]
      walk_at "hd"
      exact q
    rw [if_neg hl]
    rcases bad with b1 | ⟨ha, g0, hg0, bg⟩
    · omega
    walk_at "hd"
    refine need_by (a := gvs) rfl ?_
    refine for_inG (fun i σ M' => M' = M ∧ (∃ r, σ = [some (.ptr p), some (.int n), some (.lst gvs), r]) ∧ ∀ j x, j < i → gvs[j]? = some x → GV n x) ⟨rfl, ⟨_, rfl⟩, fun _ _ h => absurd h (Nat.not_lt_zero _)⟩ ?_ ?_
    · rintro i x σ M' K hx ⟨rfl, ⟨r1, rfl⟩, hall⟩ hK
      unfold b_Net_init_1
      walk_at "hd"
      refine ⟨x, n, rfl, ha x (List.mem_of_getElem? hx), fun b hb => ?_⟩
      cases b with
      | false =>
        walk_at "hd"
        exact q
      | true =>
        walk_at "hd"
        refine hK _ _ rfl ⟨rfl, ⟨_, rfl⟩, fun j y hj hy => ?_⟩
        rcases Nat.lt_succ_iff_lt_or_eq.mp hj with h | h
        · exact hall j y h hy
        · subst h
          rw [hx] at hy
          cases hy
          exact hb.mp rfl
    · rintro σ M' ⟨rfl, ⟨r1, rfl⟩, hall⟩
      obtain ⟨j, hj, e⟩ := List.mem_iff_getElem.mp hg0
      exact absurd (hall j g0 hj (by rw [List.getElem?_eq_getElem hj, e])) bg
theorem k_Net_gates (Γ : Ctx) : Keeps (t_Net_gates Γ) 1 1 (sp_Net_gates Γ) := by
  rintro xs M Q E hl ⟨n, gs, rfl, q⟩
  walk_at "st"
  unfold t_Net_gates netP
  walk_at "hd"
  exact q
theorem k_Net__need_bits (Γ : Ctx) : Keeps (t_Net__need_bits Γ) 2 2 (sp_Net__need_bits Γ) := by
  rintro xs M Q E hl ⟨n, gs, v, rfl, h⟩
  walk_at "st"
  unfold t_Net__need_bits netP
  walk_at "hd"
  rcases h with ⟨bs, rfl, hb, hn, q⟩ | ⟨⟨ok, bad⟩, q⟩
  · have hl := hb.len
    refine c_are_ints (by omega) (fun x hx => ?_) ?_
    · rcases hb.b x hx with z | z <;> omega
    walk_at "hd"
    rw [len_tI]
    walk_at "hd"
    rw [if_pos hl]
    walk_at "hd"
    exact q
  · refine ⟨v, 0, 1, rfl, known_ok ok, fun ys e => ?_, ?_⟩
    · subst e
      exact ⟨line_lt (by have := ok.1; omega), fun y hy => known_ok (ok.2 y hy)⟩
    rcases bad with b1 | ⟨ys, rfl, b1⟩
    · rw [b1]
      walk_at "hd"
      exact q
    · cases areNum 0 1 (.tup ys) with
      | false =>
        walk_at "hd"
        exact q
      | true =>
        walk_at "hd"
        rw [if_neg b1]
        walk_at "hd"
        exact q
theorem k_Net_run (Γ : Ctx) : Keeps (t_Net_run Γ) 2 2 (sp_Net_run Γ) := by
  rintro xs M Q E hl ⟨n, gs, v, rfl, h⟩
  walk_at "st"
  unfold t_Net_run netP
  walk_at "hd"
  rcases h with ⟨bs, rfl, hb, hn, hg, q⟩ | ⟨bad, q⟩
  · refine ⟨n, gs, _, rfl, .inl ⟨bs, rfl, hb, hn, ?_⟩⟩
    walk_at "hd"
    exact ⟨n, gs, bs, rfl, hg, hb, q⟩
  · exact ⟨n, gs, _, rfl, .inr ⟨bad, q⟩⟩
end My
set_option Elab.async false
set_option linter.all false
set_option maxRecDepth 100000
namespace My
open PySem PL TM
local macro_rules | `(tactic| walk_at "hd") => `(tactic| repeat (first | (with_reducible refine w_C ?_) | ((with_reducible refine' w_var ?_ ?_); rotate_left; exact rfl) | (with_reducible refine w_nil ?_) | (with_reducible refine w_join ?_) | (with_reducible refine w_kStr ?_) | (with_reducible refine w_rv ?_) | (with_reducible refine w_z ?_) | (with_reducible refine w_zL ?_) | (with_reducible refine w_zT ?_) | (with_reducible refine w_tupRg ?_) | ((with_reducible refine w_shr ?_ ?_); (first | decide | omega)) | (with_reducible refine w_cons ?_) | (with_reducible refine w_bin ?_) | (with_reducible refine w_test ?_) | (with_reducible refine w_kB ?_) | (with_reducible refine w_call ?_) | (with_reducible refine w_callB ?_) | (with_reducible refine w_on1 ?_) | (with_reducible refine w_on2 ?_) | (with_reducible refine w_tup ?_) | (with_reducible refine w_lst ?_) | (with_reducible refine w_lstM ?_) | (with_reducible refine w_seq ?_) | ((with_reducible refine' w_pset ?_ ?_); rotate_left; (intro x; first | with_reducible exact set_h0 | with_reducible exact set_h1 | with_reducible exact set_h2 | with_reducible exact set_h3 | with_reducible exact set_h4 | with_reducible exact set_h5 | with_reducible exact set_h6 | with_reducible exact set_h7 | with_reducible exact set_h8 | with_reducible exact set_h9 | with_reducible exact set_h10 | with_reducible exact set_h11 | with_reducible exact set_h12 | with_reducible exact set_h13 | with_reducible exact set_h14 | with_reducible exact set_h15 | with_reducible exact set_h16 | with_reducible exact set_h17 | with_reducible exact set_h18 | with_reducible exact set_h19 | with_reducible exact set_h20 | with_reducible exact set_h21 | with_reducible exact set_h22 | with_reducible exact set_h23 | with_reducible exact set_h24 | with_reducible exact set_h25)) | (with_reducible refine w_next ?_) | (with_reducible refine w_ret ?_) | (with_reducible refine w_retN ?_) | (with_reducible refine w_ifs ?_) | (with_reducible refine w_dnx ?_) | (with_reducible refine w_drt ?_) | (with_reducible refine w_dbk ?_) | (with_reducible refine w_dct ?_) | (with_reducible refine w_ifT ?_) | (with_reducible refine w_ifF ?_) | (with_reducible refine w_ifd ?_) | (with_reducible refine w_ifn ?_) | (with_reducible refine w_drop ?_) | (with_reducible refine w_asg ?_) | ((with_reducible refine' w_gname ?_ ?_); rotate_left; (first | with_reducible exact set_h0 | with_reducible exact set_h1 | with_reducible exact set_h2 | with_reducible exact set_h3 | with_reducible exact set_h4 | with_reducible exact set_h5 | with_reducible exact set_h6 | with_reducible exact set_h7 | with_reducible exact set_h8 | with_reducible exact set_h9 | with_reducible exact set_h10 | with_reducible exact set_h11 | with_reducible exact set_h12 | with_reducible exact set_h13 | with_reducible exact set_h14 | with_reducible exact set_h15 | with_reducible exact set_h16 | with_reducible exact set_h17 | with_reducible exact set_h18 | with_reducible exact set_h19 | with_reducible exact set_h20 | with_reducible exact set_h21 | with_reducible exact set_h22 | with_reducible exact set_h23 | with_reducible exact set_h24 | with_reducible exact set_h25)) | ((with_reducible refine w_gtup ?_ ?_); exact rfl) | (with_reducible refine w_gcons ?_) | (with_reducible refine w_gnil ?_) | (with_reducible refine w_gsub ?_) | (with_reducible refine w_I0 ?_) | ((with_reducible refine w_mod ?_ ?_); (first | decide | omega)) | ((with_reducible refine w_div ?_ ?_); (first | decide | omega)) | (with_reducible refine w_add ?_) | (with_reducible refine w_neg ?_) | (with_reducible refine w_negI ?_) | (with_reducible refine w_eqInt ?_) | (with_reducible refine w_neInt ?_) | (with_reducible refine w_eqBl ?_) | (with_reducible refine w_neBl ?_) | (with_reducible refine w_eqStr ?_) | (with_reducible refine w_neStr ?_) | (with_reducible refine w_ixtup0 ?_) | (with_reducible refine w_ixlst0 ?_) | (with_reducible refine w_ixtup1 ?_) | (with_reducible refine w_ixlst1 ?_) | (with_reducible refine w_ixtup2 ?_) | (with_reducible refine w_ixlst2 ?_) | (with_reducible refine w_ixtup3 ?_) | (with_reducible refine w_ixlst3 ?_) | (with_reducible refine w_ixtup4 ?_) | (with_reducible refine w_ixlst4 ?_) | (with_reducible refine w_ixtup5 ?_) | (with_reducible refine w_ixlst5 ?_) | (with_reducible refine w_need ?_) | (with_reducible refine w_lentup ?_) | (with_reducible refine w_lenlst ?_) | (with_reducible refine w_lenscr ?_) | (with_reducible refine w_sl ?_) | (with_reducible refine w_nop ?_) | (with_reducible refine w_part ?_) | (with_reducible refine w_partI ?_) | (with_reducible refine w_slT ?_) | (with_reducible refine w_slL ?_) | (with_reducible refine w_slS ?_) | (with_reducible refine w_abs ?_) | (with_reducible refine w_int ?_) | (with_reducible refine w_listL ?_) | (with_reducible refine w_listT ?_) | (with_reducible refine w_listS ?_) | (with_reducible refine w_tupL ?_) | (with_reducible refine w_tupT ?_) | (with_reducible refine w_listML ?_) | (with_reducible refine w_listMT ?_) | (with_reducible refine w_and ?_) | (with_reducible refine w_or ?_) | (with_reducible refine w_not ?_) | (with_reducible refine w_andV ?_) | (with_reducible refine w_orV ?_) | (with_reducible refine w_notV ?_) | (with_reducible refine w_if ?_) | (with_reducible refine w_isN ?_) | (with_reducible refine w_notN ?_) | (with_reducible refine w_tisN ?_) | (with_reducible refine w_tnotN ?_) | (with_reducible refine w_in_non ?_) | (with_reducible refine w_in_int ?_) | (with_reducible refine w_in_tup ?_) | (with_reducible refine w_in_lst ?_) | (with_reducible refine w_in_ptr ?_) | (with_reducible refine w_in_str ?_) | (with_reducible refine w_in_bl ?_) | (with_reducible refine w_isB ?_) | (with_reducible refine w_notB ?_) | (with_reducible refine w_for ?_) | (with_reducible refine w_iL ?_) | (with_reducible refine w_iT ?_) | (with_reducible refine w_lstF ?_) | (with_reducible refine w_lstFs ?_) | (with_reducible refine w_tupF ?_) | (with_reducible refine w_R1 ?_) | ((with_reducible refine w_R1I ?_ ?_); (first | decide | omega)) | (with_reducible refine w_R2 ?_) | (with_reducible refine w_forM ?_) | (with_reducible refine w_brk ?_) | (with_reducible refine w_cnt ?_) | (with_reducible refine w_lc ?_) | (with_reducible refine w_lcnil ?_) | (with_reducible refine w_lccons ?_) | (with_reducible refine w_fld ?_) | ((with_reducible refine' w_fldO ?_ ?_); rotate_left; exact rfl) | (with_reducible refine w_meth ?_) | ((with_reducible refine w_objO ?_ ?_); exact rfl) | (with_reducible refine w_make ?_) | (with_reducible refine w_fldS ?_) | (with_reducible refine w_app ?_) | (with_reducible refine w_retF ?_) | (with_reducible refine w_retD ?_) | (with_reducible refine w_retFD ?_) | (with_reducible refine w_raise ?_) | ((with_reducible refine' w_aug ?_ ?_ ?_); rotate_left 2; exact rfl; (intro x; first | with_reducible exact set_h0 | with_reducible exact set_h1 | with_reducible exact set_h2 | with_reducible exact set_h3 | with_reducible exact set_h4 | with_reducible exact set_h5 | with_reducible exact set_h6 | with_reducible exact set_h7 | with_reducible exact set_h8 | with_reducible exact set_h9 | with_reducible exact set_h10 | with_reducible exact set_h11 | with_reducible exact set_h12 | with_reducible exact set_h13 | with_reducible exact set_h14 | with_reducible exact set_h15 | with_reducible exact set_h16 | with_reducible exact set_h17 | with_reducible exact set_h18 | with_reducible exact set_h19 | with_reducible exact set_h20 | with_reducible exact set_h21 | with_reducible exact set_h22 | with_reducible exact set_h23 | with_reducible exact set_h24 | with_reducible exact set_h25)) | (with_reducible refine w_try ?_) | (with_reducible refine w_fzE ?_) | (with_reducible refine w_lstRg ?_) | (with_reducible refine w_pop ?_) | (with_reducible refine w_rev ?_) | (with_reducible refine w_revL ?_) | (with_reducible refine w_forE ?_) | (with_reducible refine w_par ?_) | ((with_reducible refine' w_kpar ?_ ?_ ?_); rotate_left 2; (first | with_reducible exact set_h0 | with_reducible exact set_h1 | with_reducible exact set_h2 | with_reducible exact set_h3 | with_reducible exact set_h4 | with_reducible exact set_h5 | with_reducible exact set_h6 | with_reducible exact set_h7 | with_reducible exact set_h8 | with_reducible exact set_h9 | with_reducible exact set_h10 | with_reducible exact set_h11 | with_reducible exact set_h12 | with_reducible exact set_h13 | with_reducible exact set_h14 | with_reducible exact set_h15 | with_reducible exact set_h16 | with_reducible exact set_h17 | with_reducible exact set_h18 | with_reducible exact set_h19 | with_reducible exact set_h20 | with_reducible exact set_h21 | with_reducible exact set_h22 | with_reducible exact set_h23 | with_reducible exact set_h24 | with_reducible exact set_h25); (first | with_reducible exact set_h0 | with_reducible exact set_h1 | with_reducible exact set_h2 | with_reducible exact set_h3 | with_reducible exact set_h4 | with_reducible exact set_h5 | with_reducible exact set_h6 | with_reducible exact set_h7 | with_reducible exact set_h8 | with_reducible exact set_h9 | with_reducible exact set_h10 | with_reducible exact set_h11 | with_reducible exact set_h12 | with_reducible exact set_h13 | with_reducible exact set_h14 | with_reducible exact set_h15 | with_reducible exact set_h16 | with_reducible exact set_h17 | with_reducible exact set_h18 | with_reducible exact set_h19 | with_reducible exact set_h20 | with_reducible exact set_h21 | with_reducible exact set_h22 | with_reducible exact set_h23 | with_reducible exact set_h24 | with_reducible exact set_h25)) | ((with_reducible refine' w_isi_i ?_ ?_); rotate_left; (first | with_reducible exact kit_ib | with_reducible exact kit_ii | with_reducible exact kit_it | with_reducible exact kit_il | with_reducible exact kit_is)) | ((with_reducible refine' w_isi_b ?_ ?_); rotate_left; (first | with_reducible exact kit_bb | with_reducible exact kit_bi | with_reducible exact kit_bt | with_reducible exact kit_bl | with_reducible exact kit_bs)) | ((with_reducible refine' w_isi_t ?_ ?_); rotate_left; (first | with_reducible exact kit_tb | with_reducible exact kit_ti | with_reducible exact kit_tt | with_reducible exact kit_tl | with_reducible exact kit_ts)) | ((with_reducible refine' w_isi_l ?_ ?_); rotate_left; (first | with_reducible exact kit_lb | with_reducible exact kit_li | with_reducible exact kit_lt | with_reducible exact kit_ll | with_reducible exact kit_ls)) | ((with_reducible refine' w_isi_s ?_ ?_); rotate_left; (first | with_reducible exact kit_sb | with_reducible exact kit_si | with_reducible exact kit_st | with_reducible exact kit_sl | with_reducible exact kit_ss)) | ((with_reducible refine' w_isi_n ?_ ?_); rotate_left; (first | with_reducible exact kit_nb | with_reducible exact kit_ni | with_reducible exact kit_nt | with_reducible exact kit_nl | with_reducible exact kit_ns))))
local macro_rules | `(tactic| walk_at "st") => `(tactic| simp only [pstart, List.map_cons, List.map_nil, List.cons_append, List.nil_append, List.length_cons, List.length_nil, List.replicate, Nat.reduceSub, Nat.reduceAdd, Nat.zero_add])
theorem w_appI {p : Addr} {ds : List Int} {v : Int} {M : Mem} {Q : PQ} (hl : ds.length < 1000000) (h : Q .non (M.put p (.lst ((ds ++ [v]).map .int)))) : kApp (.ptr p) (.int v) (M.put p (.lst (ds.map .int))) Q := by
  rw [app_ptr put_same (by rw [List.length_map]; exact line_lt' (by omega)), put_put]
  rw [List.map_append] at h
  exact h
theorem lst_nn {p : Addr} {xs : List PV} {M : Mem} : lstOf (M.put p (.lst xs)) (.ptr p) ≠ none := by
  rw [lstOf_ptr put_same]
  exact fun z => nomatch z
theorem k_law_draws (Γ : Ctx) : Keeps (t_law_draws Γ) 2 7 (sp_law_draws Γ) := by
  rintro xs M Q E hl ⟨zs, many, rfl, hz, hm, q⟩
  walk_at "st"
  unfold t_law_draws
  walk_at "hd"
  intro p hp
  walk_at "hd"
  rw [cutA_map]
  have hcz : (cutA zs none (some 63)).length ≤ 63 := by
    rw [cutA_to _ (by decide), List.length_take]
    exact Nat.min_le_left _ _
  generalize cutA zs none (some 63) = cs at hcz
  refine for_in (fun i σ M' => ∃ x4 x5 x6 ds, σ = [some (.scr (zs.map .int)), some (.int many), some (.ptr p), some (.int i), x4, x5, x6] ∧ M' = M.put p (.lst (ds.map .int)) ∧ (∀ d ∈ ds, 0 ≤ d ∧ d < 65537) ∧ ds.length ≤ 24 * i) ⟨_, _, _, [], rfl, rfl, (fun d hd => absurd hd List.not_mem_nil), Nat.zero_le _⟩ ?_ ?_
  · rintro i y σ M' K hy ⟨x4, x5, x6, ds, rfl, rfl, hd, hdl⟩ hK
    obtain ⟨c, e1, rfl⟩ := map_at hy
    have hi : i < 63 := by have := (List.getElem?_eq_some_iff.mp e1).1; omega
    unfold b_law_draws_1
    walk_at "hd"
    have nn : 0 ≤ (if c < 0 then -c else c) := by split <;> omega
    generalize (if c < 0 then -c else c) = num at nn
    refine w_I ⟨by decide, by decide, by decide⟩ ?_
    walk_at "hd"
    have e18 : (10 : Int) ^ (18 : Int).toNat = 1000000000000000000 := rfl
    by_cases hb : (10 : Int) ^ (18 : Int).toNat ≤ num
    · rw [if_pos hb]
      walk_at "hd"
      refine for_rng (fun j σ M' => ∃ x6 num ds', σ = [some (.scr (zs.map .int)), some (.int many), some (.ptr p), some (.int i), some (.int c), some (.int num), x6] ∧ M' = M.put p (.lst (ds'.map .int)) ∧ (∀ d ∈ ds', 0 ≤ d ∧ d < 65537) ∧ ds'.length ≤ 24 * i + j) ⟨_, num, ds, rfl, rfl, hd, hdl⟩ ?_ ?_
      · rintro j σ M' K' hj ⟨x6, num, ds', rfl, rfl, hd, hdl⟩ hK'
        have hj24 : j < 24 := hj
        unfold b_law_draws_2
        walk_at "hd"
        by_cases h0 : 0 < num
        · rw [if_pos h0]
          walk_at "hd"
          refine ⟨lst_nn, ?_⟩
          walk_at "hd"
          refine w_appI (by omega) ?_
          walk_at "hd"
          refine hK' _ _ ⟨_, num / 1009, ds' ++ [num % 1009], rfl, rfl, fun d hd' => ?_, by rw [List.length_append, List.length_singleton]; omega⟩
          rcases List.mem_append.mp hd' with h | h
          · exact hd d h
          · rw [List.mem_singleton.mp h]
            omega
        · rw [if_neg h0]
          walk_at "hd"
          exact hK' _ _ ⟨_, num, ds', rfl, rfl, hd, by omega⟩
      · rintro σ M' ⟨x6, num, ds', rfl, rfl, hd, hdl⟩
        have e24 : Int.toNat 24 = 24 := rfl
        rw [e24] at hdl
        walk_at "hd"
        exact hK _ _ ⟨_, _, _, ds', rfl, rfl, hd, by omega⟩
    · rw [if_neg hb]
      rw [e18] at hb
      walk_at "hd"
      refine ⟨lst_nn, ?_⟩
      walk_at "hd"
      refine w_I (.inr ⟨by decide, by decide⟩) ?_
      walk_at "hd"
      refine w_I (.inr ⟨by decide, by decide⟩) ?_
      walk_at "hd"
      refine w_appI (by omega) ?_
      walk_at "hd"
      refine ⟨lst_nn, ?_⟩
      walk_at "hd"
      refine w_I (.inr ⟨by decide, by decide⟩) ?_
      walk_at "hd"
      refine w_I (.inr ⟨by decide, by decide⟩) ?_
      walk_at "hd"
      refine w_I (.inl ⟨by omega, by omega⟩) ?_
      walk_at "hd"
      refine w_appI (by rw [List.length_append, List.length_singleton]; omega) ?_
      walk_at "hd"
      refine hK _ _ ⟨_, _, _, _, rfl, rfl, fun d hd' => ?_, by rw [List.length_append, List.length_append, List.length_singleton, List.length_singleton]; omega⟩
      rcases List.mem_append.mp hd' with h | h
      · rcases List.mem_append.mp h with h | h
        · exact hd d h
        · rw [List.mem_singleton.mp h]
          exact ⟨Int.emod_nonneg _ (by decide), Int.emod_lt_of_pos _ (by decide)⟩
      · rw [List.mem_singleton.mp h]
        have := Int.emod_lt_of_pos (num * 16807 + (i : Int) * 40692 + 7 + num * num) (show (0 : Int) < 65521 by decide)
        exact ⟨Int.emod_nonneg _ (by decide), by omega⟩
  · rintro σ M' ⟨x4, x5, x6, ds, rfl, rfl, hd, hdl⟩
    rw [List.length_map] at hdl ⊢
    walk_at "hd"
    refine for_rng (fun j σ M' => ∃ x6 ds, σ = [some (.scr (zs.map .int)), some (.int many), some (.ptr p), some (.int cs.length), x4, x5, x6] ∧ M' = M.put p (.lst (ds.map .int)) ∧ (∀ d ∈ ds, 0 ≤ d ∧ d < 65537) ∧ ds.length ≤ 24 * 63 + j ∧ ((j : Int) ≤ ds.length ∨ many ≤ ds.length)) ⟨_, ds, rfl, rfl, hd, by omega, .inl (by show (0 : Int) ≤ _; omega)⟩ ?_ ?_
    · rintro j σ M' K hj ⟨x6, ds, rfl, rfl, hd, hdl, hjl⟩ hK
      have hj' : (j : Int) < many := by omega
      unfold b_law_draws_3
      walk_at "hd"
      refine w_lenP put_same ?_
      rw [List.length_map]
      walk_at "hd"
      by_cases h0 : (ds.length : Int) < many
      · rw [if_pos h0]
        walk_at "hd"
        refine ⟨lst_nn, ?_⟩
        walk_at "hd"
        refine w_lenP put_same ?_
        rw [List.length_map]
        walk_at "hd"
        refine w_I (.inr ⟨by decide, by decide⟩) ?_
        walk_at "hd"
        refine w_I (.inl ⟨by decide, by decide⟩) ?_
        walk_at "hd"
        refine w_I (.inl ⟨by omega, by omega⟩) ?_
        walk_at "hd"
        refine w_I (.inr ⟨by decide, by decide⟩) ?_
        walk_at "hd"
        refine w_appI (by omega) ?_
        walk_at "hd"
        refine hK _ _ ⟨_, _, rfl, rfl, fun d hd' => ?_, by rw [List.length_append, List.length_singleton]; omega, by rw [List.length_append, List.length_singleton]; omega⟩
        rcases List.mem_append.mp hd' with h | h
        · exact hd d h
        · rw [List.mem_singleton.mp h]
          have := Int.emod_lt_of_pos ((ds.length : Int) * 69621 + 977 * (cs.length : Int) + (0 + (j : Int)) * (0 + (j : Int)) * 31) (show (0 : Int) < 65521 by decide)
          exact ⟨Int.emod_nonneg _ (by decide), by omega⟩
      · rw [if_neg h0]
        walk_at "hd"
        exact hK _ _ ⟨_, ds, rfl, rfl, hd, by omega, .inr (by omega)⟩
    · rintro σ M' ⟨x6, ds, rfl, rfl, hd, hdl, hjl⟩
      walk_at "hd"
      refine w_slP put_same ?_
      walk_at "hd"
      show Q (.lst (cutA (ds.map .int) none (some many))) ((M.put p (.lst (ds.map .int))).drop p)
      rw [put_drop hp, cutA_map, cutA_to _ hm.1]
      exact q (ds.take many.toNat) ⟨fun d h => hd d (List.mem_of_mem_take h), by rw [List.length_take]; omega⟩

end My
set_option Elab.async false
set_option linter.all false
set_option maxRecDepth 100000
namespace My
open PySem PL TM
local macro_rules | `(tactic| walk_at "hd") => `(tactic| repeat (first | (with_reducible refine w_C ?_) | ((with_reducible refine' w_var ?_ ?_); rotate_left; exact rfl) | (with_reducible refine w_nil ?_) | (with_reducible refine w_join ?_) | (with_reducible refine w_kStr ?_) | (with_reducible refine w_rv ?_) | (with_reducible refine w_z ?_) | (with_reducible refine w_zL ?_) | (with_reducible refine w_zT ?_) | (with_reducible refine w_tupRg ?_) | ((with_reducible refine w_shr ?_ ?_); (first | decide | omega)) | (with_reducible refine w_cons ?_) | (with_reducible refine w_bin ?_) | (with_reducible refine w_test ?_) | (with_reducible refine w_kB ?_) | (with_reducible refine w_call ?_) | (with_reducible refine w_callB ?_) | (with_reducible refine w_on1 ?_) | (with_reducible refine w_on2 ?_) | (with_reducible refine w_tup ?_) | (with_reducible refine w_lst ?_) | (with_reducible refine w_lstM ?_) | (with_reducible refine w_seq ?_) | ((with_reducible refine' w_pset ?_ ?_); rotate_left; (intro x; first | with_reducible exact set_h0 | with_reducible exact set_h1 | with_reducible exact set_h2 | with_reducible exact set_h3 | with_reducible exact set_h4 | with_reducible exact set_h5 | with_reducible exact set_h6 | with_reducible exact set_h7 | with_reducible exact set_h8 | with_reducible exact set_h9 | with_reducible exact set_h10 | with_reducible exact set_h11 | with_reducible exact set_h12 | with_reducible exact set_h13 | with_reducible exact set_h14 | with_reducible exact set_h15 | with_reducible exact set_h16 | with_reducible exact set_h17 | with_reducible exact set_h18 | with_reducible exact set_h19 | with_reducible exact set_h20 | with_reducible exact set_h21 | with_reducible exact set_h22 | with_reducible exact set_h23 | with_reducible exact set_h24 | with_reducible exact set_h25)) | (with_reducible refine w_next ?_) | (with_reducible refine w_ret ?_) | (with_reducible refine w_retN ?_) | (with_reducible refine w_ifs ?_) | (with_reducible refine w_dnx ?_) | (with_reducible refine w_drt ?_) | (with_reducible refine w_dbk ?_) | (with_reducible refine w_dct ?_) | (with_reducible refine w_ifT ?_) | (with_reducible refine w_ifF ?_) | (with_reducible refine w_ifd ?_) | (with_reducible refine w_ifn ?_) | (with_reducible refine w_drop ?_) | (with_reducible refine w_asg ?_) | ((with_reducible refine' w_gname ?_ ?_); rotate_left; (first | with_reducible exact set_h0 | with_reducible exact set_h1 | with_reducible exact set_h2 | with_reducible exact set_h3 | with_reducible exact set_h4 | with_reducible exact set_h5 | with_reducible exact set_h6 | with_reducible exact set_h7 | with_reducible exact set_h8 | with_reducible exact set_h9 | with_reducible exact set_h10 | with_reducible exact set_h11 | with_reducible exact set_h12 | with_reducible exact set_h13 | with_reducible exact set_h14 | with_reducible exact set_h15 | with_reducible exact set_h16 | with_reducible exact set_h17 | with_reducible exact set_h18 | with_reducible exact set_h19 | with_reducible exact set_h20 | with_reducible exact set_h21 | with_reducible exact set_h22 | with_reducible exact set_h23 | with_reducible exact set_h24 | with_reducible exact set_h25)) | ((with_reducible refine w_gtup ?_ ?_); exact rfl) | (with_reducible refine w_gcons ?_) | (with_reducible refine w_gnil ?_) | (with_reducible refine w_gsub ?_) | (with_reducible refine w_I0 ?_) | ((with_reducible refine w_mod ?_ ?_); (first | decide | omega)) | ((with_reducible refine w_div ?_ ?_); (first | decide | omega)) | (with_reducible refine w_add ?_) | (with_reducible refine w_neg ?_) | (with_reducible refine w_negI ?_) | (with_reducible refine w_eqInt ?_) | (with_reducible refine w_neInt ?_) | (with_reducible refine w_eqBl ?_) | (with_reducible refine w_neBl ?_) | (with_reducible refine w_eqStr ?_) | (with_reducible refine w_neStr ?_) | (with_reducible refine w_ixtup0 ?_) | (with_reducible refine w_ixlst0 ?_) | (with_reducible refine w_ixtup1 ?_) | (with_reducible refine w_ixlst1 ?_) | (with_reducible refine w_ixtup2 ?_) | (with_reducible refine w_ixlst2 ?_) | (with_reducible refine w_ixtup3 ?_) | (with_reducible refine w_ixlst3 ?_) | (with_reducible refine w_ixtup4 ?_) | (with_reducible refine w_ixlst4 ?_) | (with_reducible refine w_ixtup5 ?_) | (with_reducible refine w_ixlst5 ?_) | (with_reducible refine w_need ?_) | (with_reducible refine w_lentup ?_) | (with_reducible refine w_lenlst ?_) | (with_reducible refine w_lenscr ?_) | (with_reducible refine w_sl ?_) | (with_reducible refine w_nop ?_) | (with_reducible refine w_part ?_) | (with_reducible refine w_partI ?_) | (with_reducible refine w_slT ?_) | (with_reducible refine w_slL ?_) | (with_reducible refine w_slS ?_) | (with_reducible refine w_abs ?_) | (with_reducible refine w_int ?_) | (with_reducible refine w_listL ?_) | (with_reducible refine w_listT ?_) | (with_reducible refine w_listS ?_) | (with_reducible refine w_tupL ?_) | (with_reducible refine w_tupT ?_) | (with_reducible refine w_listML ?_) | (with_reducible refine w_listMT ?_) | (with_reducible refine w_and ?_) | (with_reducible refine w_or ?_) | (with_reducible refine w_not ?_) | (with_reducible refine w_andV ?_) | (with_reducible refine w_orV ?_) | (with_reducible refine w_notV ?_) | (with_reducible refine w_if ?_) | (with_reducible refine w_isN ?_) | (with_reducible refine w_notN ?_) | (with_reducible refine w_tisN ?_) | (with_reducible refine w_tnotN ?_) | (with_reducible refine w_in_non ?_) | (with_reducible refine w_in_int ?_) | (with_reducible refine w_in_tup ?_) | (with_reducible refine w_in_lst ?_) | (with_reducible refine w_in_ptr ?_) | (with_reducible refine w_in_str ?_) | (with_reducible refine w_in_bl ?_) | (with_reducible refine w_isB ?_) | (with_reducible refine w_notB ?_) | (with_reducible refine w_for ?_) | (with_reducible refine w_iL ?_) | (with_reducible refine w_iT ?_) | (with_reducible refine w_lstF ?_) | (with_reducible refine w_lstFs ?_) | (with_reducible refine w_tupF ?_) | (with_reducible refine w_R1 ?_) | ((with_reducible refine w_R1I ?_ ?_); (first | decide | omega)) | (with_reducible refine w_R2 ?_) | (with_reducible refine w_forM ?_) | (with_reducible refine w_brk ?_) | (with_reducible refine w_cnt ?_) | (with_reducible refine w_lc ?_) | (with_reducible refine w_lcnil ?_) | (with_reducible refine w_lccons ?_) | (with_reducible refine w_fld ?_) | ((with_reducible refine' w_fldO ?_ ?_); rotate_left; exact rfl) | (with_reducible refine w_meth ?_) | ((with_reducible refine w_objO ?_ ?_); exact rfl) | (with_reducible refine w_make ?_) | (with_reducible refine w_fldS ?_) | (with_reducible refine w_app ?_) | (with_reducible refine w_retF ?_) | (with_reducible refine w_retD ?_) | (with_reducible refine w_retFD ?_) | (with_reducible refine w_raise ?_) | ((with_reducible refine' w_aug ?_ ?_ ?_); rotate_left 2; exact rfl; (intro x; first | with_reducible exact set_h0 | with_reducible exact set_h1 | with_reducible exact set_h2 | with_reducible exact set_h3 | with_reducible exact set_h4 | with_reducible exact set_h5 | with_reducible exact set_h6 | with_reducible exact set_h7 | with_reducible exact set_h8 | with_reducible exact set_h9 | with_reducible exact set_h10 | with_reducible exact set_h11 | with_reducible exact set_h12 | with_reducible exact set_h13 | with_reducible exact set_h14 | with_reducible exact set_h15 | with_reducible exact set_h16 | with_reducible exact set_h17 | with_reducible exact set_h18 | with_reducible exact set_h19 | with_reducible exact set_h20 | with_reducible exact set_h21 | with_reducible exact set_h22 | with_reducible exact set_h23 | with_reducible exact set_h24 | with_reducible exact set_h25)) | (with_reducible refine w_try ?_) | (with_reducible refine w_fzE ?_) | (with_reducible refine w_lstRg ?_) | (with_reducible refine w_pop ?_) | (with_reducible refine w_rev ?_) | (with_reducible refine w_revL ?_) | (with_reducible refine w_forE ?_) | (with_reducible refine w_par ?_) | ((with_reducible refine' w_kpar ?_ ?_ ?_); rotate_left 2; (first | with_reducible exact set_h0 | with_reducible exact set_h1 | with_reducible exact set_h2 | with_reducible exact set_h3 | with_reducible exact set_h4 | with_reducible exact set_h5 | with_reducible exact set_h6 | with_reducible exact set_h7 | with_reducible exact set_h8 | with_reducible exact set_h9 | with_reducible exact set_h10 | with_reducible exact set_h11 | with_reducible exact set_h12 | with_reducible exact set_h13 | with_reducible exact set_h14 | with_reducible exact set_h15 | with_reducible exact set_h16 | with_reducible exact set_h17 | with_reducible exact set_h18 | with_reducible exact set_h19 | with_reducible exact set_h20 | with_reducible exact set_h21 | with_reducible exact set_h22 | with_reducible exact set_h23 | with_reducible exact set_h24 | with_reducible exact set_h25); (first | with_reducible exact set_h0 | with_reducible exact set_h1 | with_reducible exact set_h2 | with_reducible exact set_h3 | with_reducible exact set_h4 | with_reducible exact set_h5 | with_reducible exact set_h6 | with_reducible exact set_h7 | with_reducible exact set_h8 | with_reducible exact set_h9 | with_reducible exact set_h10 | with_reducible exact set_h11 | with_reducible exact set_h12 | with_reducible exact set_h13 | with_reducible exact set_h14 | with_reducible exact set_h15 | with_reducible exact set_h16 | with_reducible exact set_h17 | with_reducible exact set_h18 | with_reducible exact set_h19 | with_reducible exact set_h20 | with_reducible exact set_h21 | with_reducible exact set_h22 | with_reducible exact set_h23 | with_reducible exact set_h24 | with_reducible exact set_h25)) | ((with_reducible refine' w_isi_i ?_ ?_); rotate_left; (first | with_reducible exact kit_ib | with_reducible exact kit_ii | with_reducible exact kit_it | with_reducible exact kit_il | with_reducible exact kit_is)) | ((with_reducible refine' w_isi_b ?_ ?_); rotate_left; (first | with_reducible exact kit_bb | with_reducible exact kit_bi | with_reducible exact kit_bt | with_reducible exact kit_bl | with_reducible exact kit_bs)) | ((with_reducible refine' w_isi_t ?_ ?_); rotate_left; (first | with_reducible exact kit_tb | with_reducible exact kit_ti | with_reducible exact kit_tt | with_reducible exact kit_tl | with_reducible exact kit_ts)) | ((with_reducible refine' w_isi_l ?_ ?_); rotate_left; (first | with_reducible exact kit_lb | with_reducible exact kit_li | with_reducible exact kit_lt | with_reducible exact kit_ll | with_reducible exact kit_ls)) | ((with_reducible refine' w_isi_s ?_ ?_); rotate_left; (first | with_reducible exact kit_sb | with_reducible exact kit_si | with_reducible exact kit_st | with_reducible exact kit_sl | with_reducible exact kit_ss)) | ((with_reducible refine' w_isi_n ?_ ?_); rotate_left; (first | with_reducible exact kit_nb | with_reducible exact kit_ni | with_reducible exact kit_nt | with_reducible exact kit_nl | with_reducible exact kit_ns))))
local macro_rules | `(tactic| walk_at "st") => `(tactic| simp only [pstart, List.map_cons, List.map_nil, List.cons_append, List.nil_append, List.length_cons, List.length_nil, List.replicate, Nat.reduceSub, Nat.reduceAdd, Nat.zero_add])
/-- distinct numbers of lines -/
structure Ds (n : Int) (xs : List Int) : Prop where
  nd : xs.Nodup
  mm : ∀ x ∈ xs, 0 ≤ x ∧ x < n
theorem Ds.perm {n : Int} {xs ys : List Int} (h : Ds n xs) (p : xs.Perm ys) : Ds n ys := ⟨p.nodup_iff.mp h.nd, fun x hx => h.mm x (p.mem_iff.mpr hx)⟩
theorem pick_perm {L : List Int} {k : Nat} (h : k < L.length) : (L[k] :: L.eraseIdx k).Perm L := by
  induction L generalizing k with
  | nil => exact absurd h (Nat.not_lt_zero _)
  | cons a L ih =>
    cases k with
    | zero => exact List.Perm.refl _
    | succ k =>
      have h' : k < L.length := by simpa using h
      exact (List.Perm.swap a L[k] (L.eraseIdx k)).trans (List.Perm.cons a (ih h'))
theorem w_popI {p : Addr} {k : Int} {M : Mem} {L : List Int} {Q : PQ} (m : M p = some (.lst (L.map .int))) (h0 : 0 ≤ k) (h1 : k < L.length) (hz : L.length < 1000000) (h : ∀ v (L' : List Int), (v :: L').Perm L → L'.length + 1 = L.length → Q (.int v) (M.put p (.lst (L'.map .int)))) : kPop (.ptr p) (.int k) M Q := by
  have h2 : k.toNat < L.length := by omega
  show (match M p with | some (.lst xs) => (0 ≤ k ∧ k < xs.length ∧ xs.length < 2 ^ 62) ∧ need xs[k.toNat]? fun y => Q y (M.put p (.lst (xs.eraseIdx k.toNat))) | _ => False)
  rw [m]
  refine ⟨⟨h0, by rw [List.length_map]; omega, by rw [List.length_map]; omega⟩, need_by (a := .int L[k.toNat]) (by rw [List.getElem?_map, List.getElem?_eq_getElem h2]; rfl) ?_⟩
  have em : ∀ (L : List Int) (k : Nat), (L.map PV.int).eraseIdx k = (L.eraseIdx k).map .int := by
    intro L
    induction L with
    | nil => intro k; rfl
    | cons a L ih =>
      intro k
      cases k with
      | zero => rfl
      | succ k => exact congrArg _ (ih k)
  rw [em]
  exact h _ _ (pick_perm h2) (by rw [List.length_eraseIdx, if_pos h2]; omega)
theorem rng_ds {n : Int} (hn : 0 ≤ n) : ∃ L : List Int, rngP 0 n.toNat = L.map .int ∧ Ds n L ∧ (L.length : Int) = n := by
  refine ⟨(List.range n.toNat).map fun (i : Nat) => (0 + (i : Int)), by unfold rngP; rw [List.map_map]; rfl, ⟨?_, fun x hx => ?_⟩, by rw [List.length_map, List.length_range]; omega⟩
  · refine List.pairwise_map.mpr (List.nodup_range.imp fun {a b} h e => h ?_)
    have h' : (0 : Int) + a = 0 + b := e
    omega
  · obtain ⟨i, hi, rfl⟩ := List.mem_map.mp hx
    rw [List.mem_range] at hi
    omega
theorem sorted_up : ∀ {xs : List Int}, xs.Nodup → xs.Pairwise (· ≤ ·) → xs.Pairwise (· < ·)
  | [], _, _ => .nil
  | x :: xs, h1, h2 => by
    obtain ⟨a, b⟩ := List.pairwise_cons.mp h2
    obtain ⟨c, d⟩ := List.nodup_cons.mp h1
    refine List.pairwise_cons.mpr ⟨fun y hy => ?_, sorted_up d b⟩
    have := a y hy
    have ne : x ≠ y := fun e => c (e ▸ hy)
    omega
theorem ix_lI' {ds : List Int} {k0 i : Int} (hd : Draws ds k0) (h0 : 0 ≤ i) (h1 : i < k0) : ∃ d, L2.atI (ds.map PV.int) i = some (.int d) ∧ 0 ≤ d ∧ d < 65537 := by
  have hl := hd.l
  have h2 : i.toNat < ds.length := by omega
  refine ⟨ds[i.toNat], by rw [at_pos _ h0, List.getElem?_map, List.getElem?_eq_getElem h2]; rfl, hd.r _ (List.getElem_mem h2)⟩
/-- three places of the memory, over a base -/
theorem lst_nn2 {p q : Addr} {xs : List PV} {o : MO} {M : Mem} (h : p ≠ q) : lstOf ((M.put p (.lst xs)).put q o) (.ptr p) ≠ none := by
  rw [lstOf_ptr (by rw [put_ne h]; exact put_same)]
  exact fun z => nomatch z
theorem dropS {σ : PSt} {M : Mem} : ∀ (js : List Nat), (∀ j ∈ js, ∀ a, σ[j]? = some (some (.ptr a)) → M a = none) → dropSlots σ js M = M
  | [], _ => rfl
  | j :: js, h => by
    have ih := dropS js fun k hk => h k (List.mem_cons_of_mem _ hk)
    unfold dropSlots
    split
    · rename_i a e
      rw [drop_none (h j List.mem_cons_self a e)]
      exact ih
    · exact ih
theorem mem4 {M : Mem} {p l c : Addr} {o1 o2 o3 o4 : MO} (hp : M p = none) (hl : M l = none) (hc : M c = none) (lp : l ≠ p) (cp : c ≠ p) (cl : c ≠ l) : (((((M.put p o1).put l o2).put c o3).put p o4).drop c).drop l = M.put p o4 := by
  funext b
  unfold Mem.put Mem.drop
  by_cases h1 : b = l
  · subst h1
    simp [lp, hl]
  · by_cases h2 : b = c
    · subst h2
      simp [h1, cp, hc]
    · by_cases h3 : b = p
      · subst h3
        simp [h1, h2]
      · simp [h1, h2, h3]
theorem q5 {Γ : Ctx} {K db dc : PNx} {dr : PQ} {de : PXK} {M : Mem} {p l : Addr} {n draw more i : Int} {gs : List Gt} {L bad : List Int} {s : Str} {t : List PV} {mk : List Int → Gt} {ds : List Int} {x1 x2 x5 : PV} {c9 x12 : Option PV}
    (hp : M p = none) (hl : M l = none) (lp : l ≠ p) (hn : 1 ≤ n ∧ n ≤ 400) (hdr : 0 ≤ draw) (hmo : 0 ≤ more) (hmk : ∀ cs, gtP (mk cs) = .tup (.str s :: tI cs :: t)) (hok : ∀ cs, CtlOk n cs → (∀ b ∈ bad, b ∉ cs) → GtOk n (mk cs)) (ht : t.length ≤ 2) (hgs : gs.length ≤ 1000)
    (hD : Ds n (bad ++ L)) (hL : L.length ≤ 400)
    (hK : ∀ g x9 x10 x12 c, GtOk n g → M c = none → K [some (.lst (ds.map .int)), some x1, some x2, some (.int n), some (.ptr p), some x5, some (.int draw), some (.int more), some (.ptr l), x9, x10, some (.ptr c), x12] (M.put p (.lst ((gs ++ [g]).map gtP)))) :
    q_law_gates_1_5 Γ (PEnds.mk K dr de db dc) [some (.lst (ds.map .int)), some x1, some x2, some (.int n), some (.ptr p), some x5, some (.int draw), some (.int more), some (.ptr l), some (.int i), some (.tup (.str s :: .tup [] :: t)), c9, x12] ((M.put p (.lst (gs.map gtP))).put l (.lst (L.map .int))) := by
  unfold q_law_gates_1_5
  walk_at "hd"
  intro c hc'
  have cl : c ≠ l := fun e => by rw [e, put_same] at hc'; cases hc'
  have cp : c ≠ p := fun e => by rw [e, put_ne (Ne.symm lp), put_same] at hc'; cases hc'
  have hc : M c = none := by rw [put_ne cl, put_ne cp] at hc'; exact hc'
  walk_at "hd"
  refine for_rng (fun j σ M' => ∃ x12 L C, σ = [some (.lst (ds.map .int)), some x1, some x2, some (.int n), some (.ptr p), some x5, some (.int draw), some (.int more), some (.ptr l), some (.int i), some (.tup (.str s :: .tup [] :: t)), some (.ptr c), x12] ∧
    M' = ((M.put p (.lst (gs.map gtP))).put l (.lst (L.map .int))).put c (.lst (C.map .int)) ∧ Ds n (bad ++ (C ++ L)) ∧ L.length ≤ 400 ∧ C.length ≤ j) ⟨_, L, [], rfl, rfl, hD, hL, Nat.zero_le _⟩ ?_ ?_
  · rintro j σ M' K' hj ⟨x12, L, C, rfl, rfl, hD, hL, hC⟩ hK'
    have hj4 : j < 4 := by omega
    have ml : (((M.put p (.lst (gs.map gtP))).put l (.lst (L.map .int))).put c (.lst (C.map .int))) l = some (.lst (L.map .int)) := by rw [put_ne (Ne.symm cl)]; exact put_same
    unfold b_law_gates_2
    walk_at "hd"
    refine w_lenP ml ?_
    rw [List.length_map]
    walk_at "hd"
    by_cases h0 : (0 : Int) < L.length
    · rw [if_pos h0]
      walk_at "hd"
      refine ⟨lst_nn, ?_⟩
      walk_at "hd"
      refine ⟨lst_nn2 (Ne.symm cl), ?_⟩
      walk_at "hd"
      refine w_lenP ml ?_
      rw [List.length_map]
      walk_at "hd"
      refine w_popI ml (Int.emod_nonneg _ (by omega)) (Int.emod_lt_of_pos _ h0) (by omega) fun v L' pm ll => ?_
      rw [put_mid (Ne.symm cl)]
      refine w_appI (by omega) ?_
      walk_at "hd"
      refine hK' _ _ ⟨_, L', C ++ [v], rfl, rfl, hD.perm ?_, by omega, by rw [List.length_append, List.length_singleton]; omega⟩
      refine List.Perm.append_left _ ?_
      rw [List.append_assoc]
      exact List.Perm.append_left _ pm.symm
    · rw [if_neg h0]
      walk_at "hd"
      exact hK' _ _ ⟨_, L, C, rfl, rfl, hD, hL, by omega⟩
  · rintro σ M' ⟨x12, L, C, rfl, rfl, hD, hL, hC⟩
    have mp : (((M.put p (.lst (gs.map gtP))).put l (.lst (L.map .int))).put c (.lst (C.map .int))) p = some (.lst (gs.map gtP)) := by rw [put_ne (Ne.symm cp), put_ne (Ne.symm lp)]; exact put_same
    walk_at "hd"
    refine ⟨by rw [lstOf_ptr mp]; exact (fun z => nomatch z), ?_⟩
    walk_at "hd"
    refine w_sort (lstOf_ptr put_same) (intsOf_map C) fun cs pc pw => ?_
    walk_at "hd"
    have c3 : cutA (PV.str s :: .tup [] :: t) (some 2) none = t := by rw [cutA_from _ (by decide)]; rfl
    rw [c3]
    refine w_addT (line_lt (by simp only [List.length_cons, List.length_nil]; omega)) ?_
    have eg : PV.tup ([PV.str s, .tup (cs.map .int)] ++ t) = gtP (mk cs) := (hmk cs).symm
    rw [eg, app_ptr mp (by rw [List.length_map]; exact line_lt' (by omega))]
    walk_at "hd"
    refine w_dropAt rfl (w_dropAt rfl ?_)
    rw [mem4 hp hl hc lp cp cl]
    obtain ⟨_, n2, n3⟩ := List.nodup_append.mp hD.nd
    have nC : C.Nodup := (List.nodup_append.mp n2).1
    have ok : CtlOk n cs := ⟨sorted_up (pc.nodup_iff.mpr nC) pw, fun x hx => hD.mm x (List.mem_append.mpr (.inr (List.mem_append.mpr (.inl (pc.mem_iff.mp hx)))))⟩
    have := hK (mk cs) (some (.int i)) (some (.tup (.str s :: .tup [] :: t))) x12 c (hok cs ok fun b hb hb' => n3 b hb b (List.mem_append.mpr (.inl (pc.mem_iff.mp hb'))) rfl) hc
    rw [List.map_append] at this
    walk_at "hd"
    exact this
theorem k_law_gates (Γ : Ctx) : Keeps (t_law_gates Γ) 4 13 (sp_law_gates Γ) := by
  rintro xs M Q E hl ⟨ds, k0, at_, many, n, rfl, hd, hat, hm, hk0, hn, q⟩
  walk_at "st"
  unfold t_law_gates lI
  walk_at "hd"
  intro p hp
  walk_at "hd"
  refine for_rng (fun i σ M' => ∃ x5 x6 x7 l9 x9 x10 c9 x12 gs, σ = [some (.lst (ds.map .int)), some (.int at_), some (.int many), some (.int n), some (.ptr p), x5, x6, x7, l9, x9, x10, c9, x12] ∧ M' = M.put p (.lst (gs.map gtP)) ∧ gs.length = i ∧ (∀ g ∈ gs, GtOk n g) ∧
    (∀ a, l9 = some (.ptr a) → M a = none) ∧ (∀ a, c9 = some (.ptr a) → M a = none)) ⟨_, _, _, none, _, _, none, _, [], rfl, rfl, rfl, (fun g hg => absurd hg List.not_mem_nil), (fun a z => nomatch z), fun a z => nomatch z⟩ ?_ ?_
  · rintro k σ M' K hk ⟨x5, x6, x7, l9, x9, x10, c9, x12, gs, rfl, rfl, hgl, hg, _, _⟩ hK
    have hk' : (k : Int) < many := by omega
    unfold b_law_gates_1
    walk_at "hd"
    refine w_I (.inl ⟨by decide, by decide⟩) ?_
    walk_at "hd"
    obtain ⟨draw, e1, dr0, dr1⟩ := ix_lI' hd (i := at_ + 2 * (0 + (k : Int))) (by omega) (by omega)
    refine w_ixL e1 ?_
    walk_at "hd"
    refine w_I (.inl ⟨by decide, by decide⟩) ?_
    walk_at "hd"
    obtain ⟨more, e2, mo0, mo1⟩ := ix_lI' hd (i := at_ + 2 * (0 + (k : Int)) + 1) (by omega) (by omega)
    refine w_ixL e2 ?_
    walk_at "hd"
    refine ⟨by omega, fun l hl' => ?_⟩
    have lp : l ≠ p := fun e => by rw [e, put_same] at hl'; cases hl'
    have Ml : M l = none := by rw [put_ne lp] at hl'; exact hl'
    obtain ⟨L0, er, hL0, hl0⟩ := rng_ds (n := n) (by omega)
    rw [er]
    walk_at "hd"
    refine ⟨lst_nn, ?_⟩
    walk_at "hd"
    have r0 : 0 ≤ draw % n := Int.emod_nonneg _ (by omega)
    have r1 : draw % n < n := Int.emod_lt_of_pos _ (by omega)
    refine w_popI put_same r0 (by omega) (by omega) fun i L1 p1 l1 => ?_
    rw [put_put]
    have D1 : Ds n (i :: L1) := hL0.perm p1.symm
    have ri := D1.mm i List.mem_cons_self
    have fin : ∀ g x9 x10 x12 c, GtOk n g → M c = none → K [some (.lst (ds.map .int)), some (.int at_), some (.int many), some (.int n), some (.ptr p), some (.int (0 + (k : Int))), some (.int draw), some (.int more), some (.ptr l), x9, x10, some (.ptr c), x12] (M.put p (.lst ((gs ++ [g]).map gtP))) := fun g x9 x10 x12 c og hc => by
      refine hK _ _ ⟨_, _, _, _, _, _, _, _, gs ++ [g], rfl, rfl, by rw [List.length_append, List.length_singleton, hgl], fun g' hg' => ?_, fun a e => by cases e; exact Ml, fun a e => by cases e; exact hc⟩
      rcases List.mem_append.mp hg' with h | h
      · exact hg g' h
      · rw [List.mem_singleton.mp h]
        exact og
    have turn : ∀ c9 x12, q_law_gates_1_5 Γ (PEnds.mk K Q E (pRetFD [8, 11] (pVar 4) { nx := fun x M' => Q PV.non M', rt := Q, ex := E }) K) [some (.lst (ds.map .int)), some (.int at_), some (.int many), some (.int n), some (.ptr p), some (.int (0 + (k : Int))), some (.int draw), some (.int more), some (.ptr l), some (.int i), some (.tup (.str sT :: .tup [] :: [.int i])), c9, x12] ((M.put p (.lst (gs.map gtP))).put l (.lst (L1.map .int))) := fun c9 x12 =>
      q5 (mk := fun cs => .turn cs i) (bad := [i]) hp Ml lp hn dr0 mo0 (fun _ => rfl) (fun cs ok hb => ⟨ok, ri, hb i List.mem_cons_self⟩) (by simp) (by omega) D1 (by omega) fin
    walk_at "hd"
    by_cases h1 : draw / n % 3 = 0
    · rw [if_pos h1]
      walk_at "hd"
      refine w_lenP put_same ?_
      rw [List.length_map]
      walk_at "hd"
      by_cases h2 : (0 : Int) < L1.length
      · rw [if_pos h2]
        walk_at "hd"
        refine ⟨lst_nn, ?_⟩
        walk_at "hd"
        refine w_lenP put_same ?_
        rw [List.length_map]
        walk_at "hd"
        refine w_popI put_same (Int.emod_nonneg _ (by omega)) (Int.emod_lt_of_pos _ h2) (by omega) fun j L2 p2 l2 => ?_
        rw [put_put]
        walk_at "hd"
        have D2 : Ds n ([i, j] ++ L2) := D1.perm (List.Perm.cons i p2.symm)
        have rj := D2.mm j (by simp)
        have ij : i ≠ j := fun e => by
          have := D2.nd
          rw [e] at this
          simp at this
        exact q5 (mk := fun cs => .swap cs i j) (bad := [i, j]) hp Ml lp hn dr0 mo0 (fun _ => rfl) (fun cs ok hb => ⟨ok, ri, rj, hb i (by simp), hb j (by simp), ij⟩) (by simp) (by omega) D2 (by omega) fin
      · rw [if_neg h2]
        walk_at "hd"
        exact turn _ _
    · rw [if_neg h1]
      walk_at "hd"
      exact turn _ _
  · rintro σ M' ⟨x5, x6, x7, l9, x9, x10, c9, x12, gs, rfl, rfl, hgl, hg, hl9, hc9⟩
    walk_at "hd"
    refine w_fzP put_same ?_
    rw [put_drop hp]
    rw [dropS [8, 11] fun j hj a z => ?_]
    · exact q gs (by omega) hg
    · simp only [List.mem_cons, List.not_mem_nil, or_false] at hj
      rcases hj with rfl | rfl
      · exact hl9 a (by injection z)
      · exact hc9 a (by injection z)

end My
set_option Elab.async false
set_option linter.all false
set_option maxRecDepth 100000
namespace My
open PySem PL TM
local macro_rules | `(tactic| walk_at "hd") => `(tactic| repeat (first | (with_reducible refine w_C ?_) | ((with_reducible refine' w_var ?_ ?_); rotate_left; exact rfl) | (with_reducible refine w_nil ?_) | (with_reducible refine w_join ?_) | (with_reducible refine w_kStr ?_) | (with_reducible refine w_rv ?_) | (with_reducible refine w_z ?_) | (with_reducible refine w_zL ?_) | (with_reducible refine w_zT ?_) | (with_reducible refine w_tupRg ?_) | ((with_reducible refine w_shr ?_ ?_); (first | decide | omega)) | (with_reducible refine w_cons ?_) | (with_reducible refine w_bin ?_) | (with_reducible refine w_test ?_) | (with_reducible refine w_kB ?_) | (with_reducible refine w_call ?_) | (with_reducible refine w_callB ?_) | (with_reducible refine w_on1 ?_) | (with_reducible refine w_on2 ?_) | (with_reducible refine w_tup ?_) | (with_reducible refine w_lst ?_) | (with_reducible refine w_lstM ?_) | (with_reducible refine w_seq ?_) | ((with_reducible refine' w_pset ?_ ?_); rotate_left; (intro x; first | with_reducible exact set_h0 | with_reducible exact set_h1 | with_reducible exact set_h2 | with_reducible exact set_h3 | with_reducible exact set_h4 | with_reducible exact set_h5 | with_reducible exact set_h6 | with_reducible exact set_h7 | with_reducible exact set_h8 | with_reducible exact set_h9 | with_reducible exact set_h10 | with_reducible exact set_h11 | with_reducible exact set_h12 | with_reducible exact set_h13 | with_reducible exact set_h14 | with_reducible exact set_h15 | with_reducible exact set_h16 | with_reducible exact set_h17 | with_reducible exact set_h18 | with_reducible exact set_h19 | with_reducible exact set_h20 | with_reducible exact set_h21 | with_reducible exact set_h22 | with_reducible exact set_h23 | with_reducible exact set_h24 | with_reducible exact set_h25)) | (with_reducible refine w_next ?_) | (with_reducible refine w_ret ?_) | (with_reducible refine w_retN ?_) | (with_reducible refine w_ifs ?_) | (with_reducible refine w_dnx ?_) | (with_reducible refine w_drt ?_) | (with_reducible refine w_dbk ?_) | (with_reducible refine w_dct ?_) | (with_reducible refine w_ifT ?_) | (with_reducible refine w_ifF ?_) | (with_reducible refine w_ifd ?_) | (with_reducible refine w_ifn ?_) | (with_reducible refine w_drop ?_) | (with_reducible refine w_asg ?_) | ((with_reducible refine' w_gname ?_ ?_); rotate_left; (first | with_reducible exact set_h0 | with_reducible exact set_h1 | with_reducible exact set_h2 | with_reducible exact set_h3 | with_reducible exact set_h4 | with_reducible exact set_h5 | with_reducible exact set_h6 | with_reducible exact set_h7 | with_reducible exact set_h8 | with_reducible exact set_h9 | with_reducible exact set_h10 | with_reducible exact set_h11 | with_reducible exact set_h12 | with_reducible exact set_h13 | with_reducible exact set_h14 | with_reducible exact set_h15 | with_reducible exact set_h16 | with_reducible exact set_h17 | with_reducible exact set_h18 | with_reducible exact set_h19 | with_reducible exact set_h20 | with_reducible exact set_h21 | with_reducible exact set_h22 | with_reducible exact set_h23 | with_reducible exact set_h24 | with_reducible exact set_h25)) | ((with_reducible refine w_gtup ?_ ?_); exact rfl) | (with_reducible refine w_gcons ?_) | (with_reducible refine w_gnil ?_) | (with_reducible refine w_gsub ?_) | (with_reducible refine w_I0 ?_) | ((with_reducible refine w_mod ?_ ?_); (first | decide | omega)) | ((with_reducible refine w_div ?_ ?_); (first | decide | omega)) | (with_reducible refine w_add ?_) | (with_reducible refine w_neg ?_) | (with_reducible refine w_negI ?_) | (with_reducible refine w_eqInt ?_) | (with_reducible refine w_neInt ?_) | (with_reducible refine w_eqBl ?_) | (with_reducible refine w_neBl ?_) | (with_reducible refine w_eqStr ?_) | (with_reducible refine w_neStr ?_) | (with_reducible refine w_ixtup0 ?_) | (with_reducible refine w_ixlst0 ?_) | (with_reducible refine w_ixtup1 ?_) | (with_reducible refine w_ixlst1 ?_) | (with_reducible refine w_ixtup2 ?_) | (with_reducible refine w_ixlst2 ?_) | (with_reducible refine w_ixtup3 ?_) | (with_reducible refine w_ixlst3 ?_) | (with_reducible refine w_ixtup4 ?_) | (with_reducible refine w_ixlst4 ?_) | (with_reducible refine w_ixtup5 ?_) | (with_reducible refine w_ixlst5 ?_) | (with_reducible refine w_need ?_) | (with_reducible refine w_lentup ?_) | (with_reducible refine w_lenlst ?_) | (with_reducible refine w_lenscr ?_) | (with_reducible refine w_sl ?_) | (with_reducible refine w_nop ?_) | (with_reducible refine w_part ?_) | (with_reducible refine w_partI ?_) | (with_reducible refine w_slT ?_) | (with_reducible refine w_slL ?_) | (with_reducible refine w_slS ?_) | (with_reducible refine w_abs ?_) | (with_reducible refine w_int ?_) | (with_reducible refine w_listL ?_) | (with_reducible refine w_listT ?_) | (with_reducible refine w_listS ?_) | (with_reducible refine w_tupL ?_) | (with_reducible refine w_tupT ?_) | (with_reducible refine w_listML ?_) | (with_reducible refine w_listMT ?_) | (with_reducible refine w_and ?_) | (with_reducible refine w_or ?_) | (with_reducible refine w_not ?_) | (with_reducible refine w_andV ?_) | (with_reducible refine w_orV ?_) | (with_reducible refine w_notV ?_) | (with_reducible refine w_if ?_) | (with_reducible refine w_isN ?_) | (with_reducible refine w_notN ?_) | (with_reducible refine w_tisN ?_) | (with_reducible refine w_tnotN ?_) | (with_reducible refine w_in_non ?_) | (with_reducible refine w_in_int ?_) | (with_reducible refine w_in_tup ?_) | (with_reducible refine w_in_lst ?_) | (with_reducible refine w_in_ptr ?_) | (with_reducible refine w_in_str ?_) | (with_reducible refine w_in_bl ?_) | (with_reducible refine w_isB ?_) | (with_reducible refine w_notB ?_) | (with_reducible refine w_for ?_) | (with_reducible refine w_iL ?_) | (with_reducible refine w_iT ?_) | (with_reducible refine w_lstF ?_) | (with_reducible refine w_lstFs ?_) | (with_reducible refine w_tupF ?_) | (with_reducible refine w_R1 ?_) | ((with_reducible refine w_R1I ?_ ?_); (first | decide | omega)) | (with_reducible refine w_R2 ?_) | (with_reducible refine w_forM ?_) | (with_reducible refine w_brk ?_) | (with_reducible refine w_cnt ?_) | (with_reducible refine w_lc ?_) | (with_reducible refine w_lcnil ?_) | (with_reducible refine w_lccons ?_) | (with_reducible refine w_fld ?_) | ((with_reducible refine' w_fldO ?_ ?_); rotate_left; exact rfl) | (with_reducible refine w_meth ?_) | ((with_reducible refine w_objO ?_ ?_); exact rfl) | (with_reducible refine w_make ?_) | (with_reducible refine w_fldS ?_) | (with_reducible refine w_app ?_) | (with_reducible refine w_retF ?_) | (with_reducible refine w_retD ?_) | (with_reducible refine w_retFD ?_) | (with_reducible refine w_raise ?_) | ((with_reducible refine' w_aug ?_ ?_ ?_); rotate_left 2; exact rfl; (intro x; first | with_reducible exact set_h0 | with_reducible exact set_h1 | with_reducible exact set_h2 | with_reducible exact set_h3 | with_reducible exact set_h4 | with_reducible exact set_h5 | with_reducible exact set_h6 | with_reducible exact set_h7 | with_reducible exact set_h8 | with_reducible exact set_h9 | with_reducible exact set_h10 | with_reducible exact set_h11 | with_reducible exact set_h12 | with_reducible exact set_h13 | with_reducible exact set_h14 | with_reducible exact set_h15 | with_reducible exact set_h16 | with_reducible exact set_h17 | with_reducible exact set_h18 | with_reducible exact set_h19 | with_reducible exact set_h20 | with_reducible exact set_h21 | with_reducible exact set_h22 | with_reducible exact set_h23 | with_reducible exact set_h24 | with_reducible exact set_h25)) | (with_reducible refine w_try ?_) | (with_reducible refine w_fzE ?_) | (with_reducible refine w_lstRg ?_) | (with_reducible refine w_pop ?_) | (with_reducible refine w_rev ?_) | (with_reducible refine w_revL ?_) | (with_reducible refine w_forE ?_) | (with_reducible refine w_par ?_) | ((with_reducible refine' w_kpar ?_ ?_ ?_); rotate_left 2; (first | with_reducible exact set_h0 | with_reducible exact set_h1 | with_reducible exact set_h2 | with_reducible exact set_h3 | with_reducible exact set_h4 | with_reducible exact set_h5 | with_reducible exact set_h6 | with_reducible exact set_h7 | with_reducible exact set_h8 | with_reducible exact set_h9 | with_reducible exact set_h10 | with_reducible exact set_h11 | with_reducible exact set_h12 | with_reducible exact set_h13 | with_reducible exact set_h14 | with_reducible exact set_h15 | with_reducible exact set_h16 | with_reducible exact set_h17 | with_reducible exact set_h18 | with_reducible exact set_h19 | with_reducible exact set_h20 | with_reducible exact set_h21 | with_reducible exact set_h22 | with_reducible exact set_h23 | with_reducible exact set_h24 | with_reducible exact set_h25); (first | with_reducible exact set_h0 | with_reducible exact set_h1 | with_reducible exact set_h2 | with_reducible exact set_h3 | with_reducible exact set_h4 | with_reducible exact set_h5 | with_reducible exact set_h6 | with_reducible exact set_h7 | with_reducible exact set_h8 | with_reducible exact set_h9 | with_reducible exact set_h10 | with_reducible exact set_h11 | with_reducible exact set_h12 | with_reducible exact set_h13 | with_reducible exact set_h14 | with_reducible exact set_h15 | with_reducible exact set_h16 | with_reducible exact set_h17 | with_reducible exact set_h18 | with_reducible exact set_h19 | with_reducible exact set_h20 | with_reducible exact set_h21 | with_reducible exact set_h22 | with_reducible exact set_h23 | with_reducible exact set_h24 | with_reducible exact set_h25)) | ((with_reducible refine' w_isi_i ?_ ?_); rotate_left; (first | with_reducible exact kit_ib | with_reducible exact kit_ii | with_reducible exact kit_it | with_reducible exact kit_il | with_reducible exact kit_is)) | ((with_reducible refine' w_isi_b ?_ ?_); rotate_left; (first | with_reducible exact kit_bb | with_reducible exact kit_bi | with_reducible exact kit_bt | with_reducible exact kit_bl | with_reducible exact kit_bs)) | ((with_reducible refine' w_isi_t ?_ ?_); rotate_left; (first | with_reducible exact kit_tb | with_reducible exact kit_ti | with_reducible exact kit_tt | with_reducible exact kit_tl | with_reducible exact kit_ts)) | ((with_reducible refine' w_isi_l ?_ ?_); rotate_left; (first | with_reducible exact kit_lb | with_reducible exact kit_li | with_reducible exact kit_lt | with_reducible exact kit_ll | with_reducible exact kit_ls)) | ((with_reducible refine' w_isi_s ?_ ?_); rotate_left; (first | with_reducible exact kit_sb | with_reducible exact kit_si | with_reducible exact kit_st | with_reducible exact kit_sl | with_reducible exact kit_ss)) | ((with_reducible refine' w_isi_n ?_ ?_); rotate_left; (first | with_reducible exact kit_nb | with_reducible exact kit_ni | with_reducible exact kit_nt | with_reducible exact kit_nl | with_reducible exact kit_ns))))
local macro_rules | `(tactic| walk_at "st") => `(tactic| simp only [pstart, List.map_cons, List.map_nil, List.cons_append, List.nil_append, List.length_cons, List.length_nil, List.replicate, Nat.reduceSub, Nat.reduceAdd, Nat.zero_add])
theorem lc_mapF {α : Type} {i : Nat} {te : PTE} {σ : PSt} {M : Mem} {Q : PQ} (h f : α → PV) : ∀ (l : List α) (acc : List PV), (∀ a ∈ l, ∀ R : PQ, R (f a) M → te noX (σ.set i (some (h a))) M R) → Q (.lst (acc ++ l.map f)) M → pLcL i pYes te (l.map h) acc σ M Q
  | [], acc, _, q => by
    rw [List.map_nil, List.append_nil] at q
    exact q
  | a :: l, acc, he, q => by
    refine w_lccons (he a List.mem_cons_self _ (lc_mapF h f l (acc ++ [f a]) (fun b hb => he b (List.mem_cons_of_mem _ hb)) ?_))
    rw [List.append_assoc]
    exact q
def gtD : Gt → PyData
  | .turn cs i => .tuple [.str sT, .tuple (cs.map .int), .int i]
  | .swap cs i j => .tuple [.str sS, .tuple (cs.map .int), .int i, .int j]
theorem toD_g : ∀ g : Gt, toD (gtP g) = some (gtD g) := by
  intro g
  have hT : toD (.str sT) = some (.str sT) := if_pos lT
  have hS : toD (.str sS) = some (.str sS) := if_pos lS
  cases g with
  | turn cs i =>
    show (match toD (.str sT), (match toD (tI cs), toDs [.int i] with | some d, some ds => some (d :: ds) | _, _ => none) with | some d, some ds => some (d :: ds) | _, _ => none).map PyData.tuple = _
    rw [hT, show toD (tI cs) = some (.tuple (cs.map .int)) from toD_tI cs]
    rfl
  | swap cs i j =>
    show (match toD (.str sS), (match toD (tI cs), toDs [.int i, .int j] with | some d, some ds => some (d :: ds) | _, _ => none) with | some d, some ds => some (d :: ds) | _, _ => none).map PyData.tuple = _
    rw [hS, show toD (tI cs) = some (.tuple (cs.map .int)) from toD_tI cs]
    rfl
theorem toDs_g : ∀ gs : List Gt, toDs (gs.map gtP) = some (gs.map gtD)
  | [] => rfl
  | g :: gs => by
    show (match toD (gtP g), toDs (gs.map gtP) with | some d, some ds => some (d :: ds) | _, _ => none) = _
    rw [toD_g, toDs_g gs]
    rfl
theorem eqv_g : ∀ g : Gt, PyData.eqv (gtD g) (gtD g) = true := by
  intro g
  have hi : ∀ cs : List Int, PyData.eqvAll (cs.map .int) (cs.map .int) = true := fun cs => by rw [eqvAll_ints]; exact decide_eq_true rfl
  cases g with
  | turn cs i =>
    show ((sT == sT) && (PyData.eqvAll (cs.map .int) (cs.map .int) && ((i == i) && true))) = true
    rw [hi]
    simp
  | swap cs i j =>
    show ((sS == sS) && (PyData.eqvAll (cs.map .int) (cs.map .int) && ((i == i) && ((j == j) && true)))) = true
    rw [hi]
    simp
theorem eqvAll_g : ∀ gs : List Gt, PyData.eqvAll (gs.map gtD) (gs.map gtD) = true
  | [] => rfl
  | g :: gs => by
    show (PyData.eqv (gtD g) (gtD g) && PyData.eqvAll (gs.map gtD) (gs.map gtD)) = true
    rw [eqv_g, eqvAll_g gs]
    rfl
theorem dep_g : ∀ g : Gt, PyData.depth (gtD g) ≤ 2 := by
  intro g
  cases g with
  | turn cs i =>
    show max 0 (max (PyData.depthAll (cs.map .int) + 1) (max 0 0)) + 1 ≤ 2
    rw [depth_ints]
    decide
  | swap cs i j =>
    show max 0 (max (PyData.depthAll (cs.map .int) + 1) (max 0 (max 0 0))) + 1 ≤ 2
    rw [depth_ints]
    decide
theorem depAll_g : ∀ gs : List Gt, PyData.depthAll (gs.map gtD) ≤ 2
  | [] => Nat.zero_le _
  | g :: gs => by
    show max (PyData.depth (gtD g)) (PyData.depthAll (gs.map gtD)) ≤ 2
    have := dep_g g
    have := depAll_g gs
    omega
theorem ne_gates {gs : List Gt} {M : Mem} {Q : PQ} (h : Q (.bl false) M) : oNe (.lst (gs.map gtP)) (.lst (gs.map gtP)) M Q := by
  have e : toD (.lst (gs.map gtP)) = some (.list (gs.map gtD)) := by
    show (toDs (gs.map gtP)).map PyData.list = _
    rw [toDs_g]
    rfl
  have d : PyData.depth (.list (gs.map gtD)) ≤ 64 := by
    show PyData.depthAll (gs.map gtD) + 1 ≤ 64
    have := depAll_g gs
    omega
  show eqP _ _ _
  unfold eqP
  show need (toD _) _
  refine need_by e (need_by e ⟨d, d, ?_⟩)
  show Q (.bl (!PyData.eqvAll (gs.map gtD) (gs.map gtD))) M
  rw [eqvAll_g]
  exact h
theorem cutA_last {α : Type} (xs : List α) : cutA xs none (some (-1)) = xs.dropLast := by
  show (xs.drop 0).take (((-1 : Int) + (xs.length : Int)).toNat - 0) = _
  rw [List.drop_zero, List.dropLast_eq_take, show ((-1 : Int) + (xs.length : Int)).toNat - 0 = xs.length - 1 from by omega]

def dv (ds : List Int) (i : Int) : Int := (ds[i.toNat]?).getD 0
theorem dv_at {ds : List Int} {k0 i : Int} (hd : Draws ds k0) (h0 : 0 ≤ i) (h1 : i < k0) : L2.atI (ds.map PV.int) i = some (.int (dv ds i)) ∧ 0 ≤ dv ds i ∧ dv ds i < 65537 := by
  have hl := hd.l
  have h2 : i.toNat < ds.length := by omega
  unfold dv
  rw [List.getElem?_eq_getElem h2]
  exact ⟨by rw [at_pos _ h0, List.getElem?_map, List.getElem?_eq_getElem h2]; rfl, hd.r _ (List.getElem_mem h2)⟩
theorem ne_bits {a b : List Int} (h : a = b) {M : Mem} {Q : PQ} (q : Q (.bl false) M) : oNe (tI a) (tI b) M Q := by
  show eqP _ _ _
  unfold tI
  rw [eqP_tI, decide_eq_true h]
  exact q
theorem w_net {Γ : Ctx} {n : Int} {gs : List Gt} {M : Mem} {Q : PQ} {E : PXK} (ok : NetOk n gs) (h : Q (netP Γ n gs) M) : ∀ y, M y = none → sp_Net_init Γ [.ptr y, .int n, .lst (gs.map gtP)] (M.put y (.obj Γ.Net [])) (fun r M2 => isNon r = true ∧ match M2 y with | some (.obj C' fs) => C' = Γ.Net ∧ Q (.obj Γ.Net fs) (M2.drop y) | _ => False) E := by
  intro y hy
  refine .inl ⟨y, n, .lst (gs.map gtP), gs, rfl, ok.hn, rfl, rfl, ok.hl, ok.hg, put_same, ?_⟩
  rw [put_put]
  refine ⟨rfl, ?_⟩
  simp only [put_same, true_and]
  rw [put_drop hy]
  exact h
theorem w_gates {Γ : Ctx} {n : Int} {gs : List Gt} {M : Mem} {Q : PQ} {E : PXK} (h : Q (.lst (gs.map gtP)) M) : sp_Net_gates Γ [netP Γ n gs] M (fun x M1 => kFz x M1 Q) E := ⟨n, gs, rfl, fun p hp => w_fzP put_same (by rw [put_drop hp]; exact h)⟩
theorem eq_gates {gs : List Gt} {M : Mem} {Q : PQ} (h : Q (.bl true) M) : oEq (.lst (gs.map gtP)) (.lst (gs.map gtP)) M Q := by
  have e : toD (.lst (gs.map gtP)) = some (.list (gs.map gtD)) := by
    show (toDs (gs.map gtP)).map PyData.list = _
    rw [toDs_g]
    rfl
  have d : PyData.depth (.list (gs.map gtD)) ≤ 64 := by
    show PyData.depthAll (gs.map gtD) + 1 ≤ 64
    have := depAll_g gs
    omega
  show eqP _ _ _
  unfold eqP
  show need (toD _) _
  refine need_by e (need_by e ⟨d, d, ?_⟩)
  show Q (.bl (PyData.eqvAll (gs.map gtD) (gs.map gtD))) M
  rw [eqvAll_g]
  exact h
theorem ne_gates' {a b : List Gt} (e : a = b) {M : Mem} {Q : PQ} (h : Q (.bl false) M) : oNe (.lst (a.map gtP)) (.lst (b.map gtP)) M Q := by subst e; exact ne_gates h
theorem cut2 {a b : PV} {t : List PV} : cutA (a :: b :: t) (some 2) none = t := by
  rw [cutA_from _ (by decide)]
  rfl
def bit (b : Int) : Prop := b = 0 ∨ b = 1
theorem apG_len (g : Gt) (bs : List Int) : (apG g bs).length = bs.length := by
  cases g <;> simp only [apG] <;> split <;> simp
theorem runG_len : ∀ (gs : List Gt) (bs : List Int), (runG gs bs).length = bs.length
  | [], _ => rfl
  | g :: r, bs => by
    show (runG r (apG g bs)).length = _
    rw [runG_len r, apG_len]
theorem wordsN_len : ∀ k, (wordsN k).length = 2 ^ k
  | 0 => rfl
  | k + 1 => by
    show ((wordsN k).flatMap _).length = _
    rw [List.length_flatMap, Nat.pow_succ, ← wordsN_len k]
    induction wordsN k with
    | nil => rfl
    | cons a r ih => rw [List.map_cons, List.sum_cons, ih, List.length_cons]; simp; omega
theorem wordsN_mem : ∀ {k : Nat} {w : List Int}, w ∈ wordsN k → w.length = k ∧ ∀ b ∈ w, bit b
  | 0, w, h => by
    rw [List.mem_singleton.mp h]
    exact ⟨rfl, fun _ z => nomatch z⟩
  | k + 1, w, h => by
    obtain ⟨v, hv, hw⟩ := List.mem_flatMap.mp h
    obtain ⟨h1, h2⟩ := wordsN_mem hv
    have key : ∀ c : Int, bit c → (v ++ [c]).length = k + 1 ∧ ∀ b ∈ v ++ [c], bit b := fun c hc => ⟨by rw [List.length_append, h1]; rfl, fun b hb => by
      rcases List.mem_append.mp hb with z | z
      · exact h2 b z
      · rw [List.mem_singleton.mp z]; exact hc⟩
    rcases List.mem_cons.mp hw with e | e
    · rw [e]; exact key 0 (.inl rfl)
    · rw [List.mem_singleton.mp e]; exact key 1 (.inr rfl)
theorem bitsN_zero (n : Nat) : bitsN n 0 = [] := by unfold bitsN; rfl
theorem bitsN_succ (n k : Nat) : bitsN n (k + 1) = bitsN (n / 2) k ++ [((n % 2 : Nat) : Int)] := by rw [bitsN]
theorem flat_two {β : Type} (f : Nat → β) : ∀ m : Nat, ((List.range m).flatMap fun n => [f (2 * n), f (2 * n + 1)]) = (List.range (2 * m)).map f
  | 0 => rfl
  | m + 1 => by
    rw [List.range_succ, List.flatMap_append, flat_two f m, List.flatMap_singleton, show 2 * (m + 1) = 2 * m + 1 + 1 by omega, List.range_succ, List.range_succ, List.map_append, List.map_append, List.append_assoc]
    rfl
theorem wordsN_bits : ∀ k, wordsN k = (List.range (2 ^ k)).map fun n => bitsN n k
  | 0 => by
    show [[]] = [bitsN 0 0]
    rw [bitsN_zero]
  | k + 1 => by
    show (wordsN k).flatMap _ = _
    rw [wordsN_bits k, List.flatMap_map, Nat.pow_succ, Nat.mul_comm, ← flat_two]
    congr 1
    funext n
    rw [bitsN_succ, bitsN_succ, show 2 * n / 2 = n by omega, show (2 * n + 1) / 2 = n by omega, show 2 * n % 2 = 0 by omega, show (2 * n + 1) % 2 = 1 by omega]
    rfl
theorem rng0 (k : Nat) : rngP 0 k = (List.range k).map fun (i : Nat) => PV.int i := by
  unfold rngP
  congr 1
  funext i
  rw [Int.zero_add]
theorem bitsN_eq : ∀ {k n : Nat}, bitsN n k = (List.range k).reverse.map fun i => ((n / 2 ^ i % 2 : Nat) : Int)
  | 0, n => bitsN_zero n
  | k + 1, n => by
    rw [bitsN_succ, bitsN_eq, List.range_succ_eq_map, List.reverse_cons, List.map_append, ← List.map_reverse, List.map_map]
    congr 1
    · refine List.map_congr_left fun i _ => ?_
      show _ = ((n / 2 ^ (i + 1) % 2 : Nat) : Int)
      rw [Nat.pow_succ, Nat.mul_comm, Nat.div_div_eq_div_mul]
    · simp
theorem bit_shr (n i : Nat) : Builtin.bitAnd ((n : Int) / 2 ^ i) 1 = ((n / 2 ^ i % 2 : Nat) : Int) := by
  have h := Bits.bit_at (x := (n : Int)) i
  rw [Int.fdiv_eq_ediv_of_nonneg _ (Int.le_of_lt (Int.pow_pos (by decide)))] at h
  rw [h]
  simp
theorem k_bits_of_number (Γ : Ctx) : Keeps (t_bits_of_number Γ) 2 3 (sp_bits_of_number Γ) := by
  rintro xs M Q E hl ⟨n, k, rfl, hk, q⟩
  walk_at "st"
  unfold t_bits_of_number
  walk_at "hd"
  refine w_rvI ⟨by omega, by omega⟩ ?_
  rw [Int.toNat_natCast, rng0, ← List.map_reverse]
  refine ⟨line_lt (by simp; omega), lc_mapF (fun i : Nat => PV.int i) (fun i : Nat => PV.int ((n / 2 ^ i % 2 : Nat) : Int)) _ [] (fun a ha R hR => ?_) ?_⟩
  · walk_at "hd"
    rw [Int.toNat_natCast, bit_shr]
    exact hR
  · walk_at "hd"
    rw [bitsN_eq] at q
    unfold tI at q
    rw [List.map_map] at q
    exact q
theorem k_words_in (Γ : Ctx) : Keeps (t_words_in Γ) 1 2 (sp_words_in Γ) := by
  rintro xs M Q E hl ⟨k, rfl, hk, q⟩
  walk_at "st"
  unfold t_words_in
  walk_at "hd"
  refine w_shl ⟨by omega, by omega, by decide⟩ ?_
  have e : (1 : Int) * 2 ^ (k : Int).toNat = ((2 ^ k : Nat) : Int) := by rw [Int.toNat_natCast, Int.one_mul]; simp
  have hp : 2 ^ k ≤ 2 ^ 6 := Nat.pow_le_pow_right (by decide) hk
  rw [e]
  walk_at "hd"
  generalize hN : 2 ^ k = N at hp
  refine ⟨⟨by omega, by omega⟩, ?_⟩
  rw [Int.toNat_natCast, rng0]
  refine ⟨line_lt (by simp; omega), lc_mapF (fun i : Nat => PV.int i) (fun i : Nat => tI (bitsN i k)) _ [] (fun a ha R hR => ?_) ?_⟩
  · walk_at "hd"
    exact ⟨a, k, rfl, hk, hR⟩
  · walk_at "hd"
    rw [wordsN_bits, hN] at q
    unfold wL at q
    rw [List.map_map] at q
    exact q
theorem lc_filtF {α : Type} {i : Nat} {tt : PTT} {te : PTE} {σ : PSt} {M : Mem} {Q : PQ} (h f : α → PV) (p : α → Bool) : ∀ (l : List α) (acc : List PV), (∀ a ∈ l, ∀ R : Bool → Mem → Prop, R (p a) M → tt noX (σ.set i (some (h a))) M R) →
    (∀ a ∈ l, p a = true → ∀ R : PQ, R (f a) M → te noX (σ.set i (some (h a))) M R) → Q (.lst (acc ++ (l.filter p).map f)) M → pLcL i tt te (l.map h) acc σ M Q
  | [], acc, _, _, q => by
    rw [List.filter_nil, List.map_nil, List.append_nil] at q
    exact q
  | a :: l, acc, ht, he, q => by
    refine ht a List.mem_cons_self _ ?_
    have ht' := fun b (hb : b ∈ l) => ht b (List.mem_cons_of_mem _ hb)
    have he' := fun b (hb : b ∈ l) => he b (List.mem_cons_of_mem _ hb)
    cases hp : p a with
    | true =>
      rw [if_pos rfl]
      refine he a List.mem_cons_self hp _ (lc_filtF h f p l (acc ++ [f a]) ht' he' ?_)
      rw [List.filter_cons, if_pos hp, List.map_cons] at q
      rw [List.append_assoc]
      exact q
    | false =>
      rw [if_neg Bool.false_ne_true]
      refine lc_filtF h f p l acc ht' he' ?_
      rw [List.filter_cons, if_neg (by rw [hp]; exact Bool.false_ne_true)] at q
      exact q
theorem cutA_both {α : Type} (xs : List α) {a b : Nat} (h1 : a ≤ b) (h2 : b ≤ xs.length) {i j : Int} (ei : i = a) (ej : j = b) : cutA xs (some i) (some j) = (xs.drop a).take (b - a) := by
  subst ei ej
  unfold cutA
  rw [sIx_nn (by omega), sIx_nn (by omega), Int.toNat_natCast, Int.toNat_natCast, Nat.min_eq_left (show a ≤ xs.length by omega), Nat.min_eq_left h2]
theorem k_law_words (Γ : Ctx) : Keeps (t_law_words Γ) 1 5 (sp_law_words Γ) := by
  rintro xs M Q E hl ⟨k, rfl, hk, q⟩
  walk_at "st"
  unfold t_law_words
  walk_at "hd"
  rw [Int.toNat_natCast]
  refine for_rng (fun i σ M' => M' = M ∧ ∃ x2 x3 x4, σ = [some (.int k), some (wL (wordsN i)), x2, x3, x4]) ⟨rfl, _, _, _, rfl⟩ ?_ ?_
  · rintro i σ M' K hi ⟨rfl, x2, x3, x4, rfl⟩ hK
    have hp : 2 ^ i ≤ 2 ^ 6 := Nat.pow_le_pow_right (by decide) (by omega)
    unfold b_law_words_1
    walk_at "hd"
    refine w_lstF (xs := (wordsN i).map tI) ?_
    refine for_in (fun j σ M'' => M'' = M' ∧ ∃ x4, σ = [some (.int k), some (wL (wordsN i)), some (.int (0 + (i : Int))), some (wL (((wordsN i).take j).flatMap fun w => [w ++ [0], w ++ [1]])), x4]) ⟨rfl, _, rfl⟩ ?_ ?_
    · rintro j x σ M'' K2 hx ⟨rfl, x4, rfl⟩ hK2
      obtain ⟨w, e1, rfl⟩ := map_at hx
      have lw := (wordsN_mem (List.mem_of_getElem? e1)).1
      have hj : j < 2 ^ i := by rw [← wordsN_len i]; exact (List.getElem?_eq_some_iff.mp e1).1
      unfold b_law_words_2
      walk_at "hd"
      rw [addR_tI]
      refine ⟨line_lt (by omega), ?_⟩
      walk_at "hd"
      rw [addR_tI]
      refine ⟨line_lt (by omega), ?_⟩
      walk_at "hd"
      have hlen : (((wordsN i).take j).flatMap fun w => [w ++ [0], w ++ [(1 : Int)]]).length ≤ 2 * 64 := by
        have : ∀ l : List (List Int), (l.flatMap fun w => [w ++ [0], w ++ [(1 : Int)]]).length = 2 * l.length := fun l => by
          induction l with
          | nil => rfl
          | cons a r ih => rw [List.flatMap_cons, List.length_append, ih, List.length_cons]; simp; omega
        rw [this, List.length_take]
        omega
      refine ⟨line_lt (by simp only [List.length_map, List.length_cons, List.length_nil]; omega), ?_⟩
      walk_at "hd"
      refine hK2 _ _ ⟨rfl, some (tI w), ?_⟩
      rw [List.take_succ, e1, List.flatMap_append]
      unfold wL
      rw [List.map_append]
      rfl
    · rintro σ M'' ⟨rfl, x4, rfl⟩
      rw [List.length_map, List.take_of_length_le (Nat.le_refl _)]
      walk_at "hd"
      exact hK _ _ ⟨rfl, _, _, _, rfl⟩
  · rintro σ M' ⟨rfl, x2, x3, x4, rfl⟩
    walk_at "hd"
    exact q
theorem eqv_ints : ∀ w : List Int, PyData.eqvAll (w.map PyData.int) (w.map PyData.int) = true
  | [] => rfl
  | i :: r => by
    show (PyData.eqv (.int i) (.int i) && PyData.eqvAll (r.map PyData.int) (r.map PyData.int)) = true
    rw [eqv_ints r, Bool.and_true]
    show decide (i = i) = true
    exact decide_eq_true rfl
theorem toDs_wL : ∀ ws : List (List Int), toDs (ws.map tI) = some (ws.map fun w => PyData.tuple (w.map .int))
  | [] => rfl
  | w :: r => by
    have e : toD (tI w) = some (.tuple (w.map .int)) := by
      show (toDs (w.map .int)).map PyData.tuple = _
      rw [toDs_ints]
      rfl
    show (match toD (tI w), toDs (r.map tI) with | some d, some ds => some (d :: ds) | _, _ => none) = _
    rw [e, toDs_wL r]
    rfl
theorem eqv_wL : ∀ ws : List (List Int), PyData.eqvAll (ws.map fun w => PyData.tuple (w.map .int)) (ws.map fun w => PyData.tuple (w.map .int)) = true
  | [] => rfl
  | w :: r => by
    show (PyData.eqvAll (w.map PyData.int) (w.map PyData.int) && PyData.eqvAll (r.map fun w => PyData.tuple (w.map .int)) (r.map fun w => PyData.tuple (w.map .int))) = true
    rw [eqv_ints, eqv_wL r]
    rfl
theorem dep_ints : ∀ w : List Int, PyData.depthAll (w.map PyData.int) = 0
  | [] => rfl
  | i :: r => by
    show max 0 (PyData.depthAll (r.map PyData.int)) = 0
    rw [dep_ints r]
    rfl
theorem dep_wL : ∀ ws : List (List Int), PyData.depthAll (ws.map fun w => PyData.tuple (w.map .int)) ≤ 1
  | [] => Nat.zero_le _
  | w :: r => by
    show max (PyData.depthAll (w.map PyData.int) + 1) (PyData.depthAll (r.map fun w => PyData.tuple (w.map .int))) ≤ 1
    have := dep_wL r
    rw [dep_ints]
    omega
theorem ne_wL {ws : List (List Int)} {M : Mem} {Q : PQ} (h : Q (.bl false) M) : oNe (wL ws) (wL ws) M Q := by
  have e : toD (wL ws) = some (.list (ws.map fun w => PyData.tuple (w.map .int))) := by
    show (toDs (ws.map tI)).map PyData.list = _
    rw [toDs_wL]
    rfl
  have d : PyData.depth (.list (ws.map fun w => PyData.tuple (w.map .int))) ≤ 64 := by
    show PyData.depthAll _ + 1 ≤ 64
    have := dep_wL ws
    omega
  show eqP _ _ _
  unfold eqP
  show need (toD _) _
  refine need_by e (need_by e ⟨d, d, ?_⟩)
  show Q (.bl (!PyData.eqvAll _ _)) M
  rw [eqv_wL]
  exact h
theorem pick {P : PV → Prop} {B : List PV} (h : ∀ x ∈ B, P x) {i : Int} (h0 : 0 ≤ i) (h1 : i < B.length) : ∃ x, L2.atI B i = some x ∧ P x := by
  have h2 : i.toNat < B.length := by omega
  refine ⟨B[i.toNat], ?_, h _ (List.getElem_mem h2)⟩
  rw [at_pos _ h0, List.getElem?_eq_getElem h2]
end My
set_option Elab.async false
set_option linter.all false
set_option maxRecDepth 100000
namespace My
open PySem PL TM
local macro_rules | `(tactic| walk_at "hd") => `(tactic| repeat (first | (with_reducible refine w_C ?_) | ((with_reducible refine' w_var ?_ ?_); rotate_left; exact rfl) | (with_reducible refine w_nil ?_) | (with_reducible refine w_join ?_) | (with_reducible refine w_kStr ?_) | (with_reducible refine w_rv ?_) | (with_reducible refine w_z ?_) | (with_reducible refine w_zL ?_) | (with_reducible refine w_zT ?_) | (with_reducible refine w_tupRg ?_) | ((with_reducible refine w_shr ?_ ?_); (first | decide | omega)) | (with_reducible refine w_cons ?_) | (with_reducible refine w_bin ?_) | (with_reducible refine w_test ?_) | (with_reducible refine w_kB ?_) | (with_reducible refine w_call ?_) | (with_reducible refine w_callB ?_) | (with_reducible refine w_on1 ?_) | (with_reducible refine w_on2 ?_) | (with_reducible refine w_tup ?_) | (with_reducible refine w_lst ?_) | (with_reducible refine w_lstM ?_) | (with_reducible refine w_seq ?_) | ((with_reducible refine' w_pset ?_ ?_); rotate_left; (intro x; first | with_reducible exact set_h0 | with_reducible exact set_h1 | with_reducible exact set_h2 | with_reducible exact set_h3 | with_reducible exact set_h4 | with_reducible exact set_h5 | with_reducible exact set_h6 | with_reducible exact set_h7 | with_reducible exact set_h8 | with_reducible exact set_h9 | with_reducible exact set_h10 | with_reducible exact set_h11 | with_reducible exact set_h12 | with_reducible exact set_h13 | with_reducible exact set_h14 | with_reducible exact set_h15 | with_reducible exact set_h16 | with_reducible exact set_h17 | with_reducible exact set_h18 | with_reducible exact set_h19 | with_reducible exact set_h20 | with_reducible exact set_h21 | with_reducible exact set_h22 | with_reducible exact set_h23 | with_reducible exact set_h24 | with_reducible exact set_h25)) | (with_reducible refine w_next ?_) | (with_reducible refine w_ret ?_) | (with_reducible refine w_retN ?_) | (with_reducible refine w_ifs ?_) | (with_reducible refine w_dnx ?_) | (with_reducible refine w_drt ?_) | (with_reducible refine w_dbk ?_) | (with_reducible refine w_dct ?_) | (with_reducible refine w_ifT ?_) | (with_reducible refine w_ifF ?_) | (with_reducible refine w_ifd ?_) | (with_reducible refine w_ifn ?_) | (with_reducible refine w_drop ?_) | (with_reducible refine w_asg ?_) | ((with_reducible refine' w_gname ?_ ?_); rotate_left; (first | with_reducible exact set_h0 | with_reducible exact set_h1 | with_reducible exact set_h2 | with_reducible exact set_h3 | with_reducible exact set_h4 | with_reducible exact set_h5 | with_reducible exact set_h6 | with_reducible exact set_h7 | with_reducible exact set_h8 | with_reducible exact set_h9 | with_reducible exact set_h10 | with_reducible exact set_h11 | with_reducible exact set_h12 | with_reducible exact set_h13 | with_reducible exact set_h14 | with_reducible exact set_h15 | with_reducible exact set_h16 | with_reducible exact set_h17 | with_reducible exact set_h18 | with_reducible exact set_h19 | with_reducible exact set_h20 | with_reducible exact set_h21 | with_reducible exact set_h22 | with_reducible exact set_h23 | with_reducible exact set_h24 | with_reducible exact set_h25)) | ((with_reducible refine w_gtup ?_ ?_); exact rfl) | (with_reducible refine w_gcons ?_) | (with_reducible refine w_gnil ?_) | (with_reducible refine w_gsub ?_) | (with_reducible refine w_I0 ?_) | ((with_reducible refine w_mod ?_ ?_); (first | decide | omega)) | ((with_reducible refine w_div ?_ ?_); (first | decide | omega)) | (with_reducible refine w_add ?_) | (with_reducible refine w_neg ?_) | (with_reducible refine w_negI ?_) | (with_reducible refine w_eqInt ?_) | (with_reducible refine w_neInt ?_) | (with_reducible refine w_eqBl ?_) | (with_reducible refine w_neBl ?_) | (with_reducible refine w_eqStr ?_) | (with_reducible refine w_neStr ?_) | (with_reducible refine w_ixtup0 ?_) | (with_reducible refine w_ixlst0 ?_) | (with_reducible refine w_ixtup1 ?_) | (with_reducible refine w_ixlst1 ?_) | (with_reducible refine w_ixtup2 ?_) | (with_reducible refine w_ixlst2 ?_) | (with_reducible refine w_ixtup3 ?_) | (with_reducible refine w_ixlst3 ?_) | (with_reducible refine w_ixtup4 ?_) | (with_reducible refine w_ixlst4 ?_) | (with_reducible refine w_ixtup5 ?_) | (with_reducible refine w_ixlst5 ?_) | (with_reducible refine w_need ?_) | (with_reducible refine w_lentup ?_) | (with_reducible refine w_lenlst ?_) | (with_reducible refine w_lenscr ?_) | (with_reducible refine w_sl ?_) | (with_reducible refine w_nop ?_) | (with_reducible refine w_part ?_) | (with_reducible refine w_partI ?_) | (with_reducible refine w_slT ?_) | (with_reducible refine w_slL ?_) | (with_reducible refine w_slS ?_) | (with_reducible refine w_abs ?_) | (with_reducible refine w_int ?_) | (with_reducible refine w_listL ?_) | (with_reducible refine w_listT ?_) | (with_reducible refine w_listS ?_) | (with_reducible refine w_tupL ?_) | (with_reducible refine w_tupT ?_) | (with_reducible refine w_listML ?_) | (with_reducible refine w_listMT ?_) | (with_reducible refine w_and ?_) | (with_reducible refine w_or ?_) | (with_reducible refine w_not ?_) | (with_reducible refine w_andV ?_) | (with_reducible refine w_orV ?_) | (with_reducible refine w_notV ?_) | (with_reducible refine w_if ?_) | (with_reducible refine w_isN ?_) | (with_reducible refine w_notN ?_) | (with_reducible refine w_tisN ?_) | (with_reducible refine w_tnotN ?_) | (with_reducible refine w_in_non ?_) | (with_reducible refine w_in_int ?_) | (with_reducible refine w_in_tup ?_) | (with_reducible refine w_in_lst ?_) | (with_reducible refine w_in_ptr ?_) | (with_reducible refine w_in_str ?_) | (with_reducible refine w_in_bl ?_) | (with_reducible refine w_isB ?_) | (with_reducible refine w_notB ?_) | (with_reducible refine w_for ?_) | (with_reducible refine w_iL ?_) | (with_reducible refine w_iT ?_) | (with_reducible refine w_lstF ?_) | (with_reducible refine w_lstFs ?_) | (with_reducible refine w_tupF ?_) | (with_reducible refine w_R1 ?_) | ((with_reducible refine w_R1I ?_ ?_); (first | decide | omega)) | (with_reducible refine w_R2 ?_) | (with_reducible refine w_forM ?_) | (with_reducible refine w_brk ?_) | (with_reducible refine w_cnt ?_) | (with_reducible refine w_lc ?_) | (with_reducible refine w_lcnil ?_) | (with_reducible refine w_lccons ?_) | (with_reducible refine w_fld ?_) | ((with_reducible refine' w_fldO ?_ ?_); rotate_left; exact rfl) | (with_reducible refine w_meth ?_) | ((with_reducible refine w_objO ?_ ?_); exact rfl) | (with_reducible refine w_make ?_) | (with_reducible refine w_fldS ?_) | (with_reducible refine w_app ?_) | (with_reducible refine w_retF ?_) | (with_reducible refine w_retD ?_) | (with_reducible refine w_retFD ?_) | (with_reducible refine w_raise ?_) | ((with_reducible refine' w_aug ?_ ?_ ?_); rotate_left 2; exact rfl; (intro x; first | with_reducible exact set_h0 | with_reducible exact set_h1 | with_reducible exact set_h2 | with_reducible exact set_h3 | with_reducible exact set_h4 | with_reducible exact set_h5 | with_reducible exact set_h6 | with_reducible exact set_h7 | with_reducible exact set_h8 | with_reducible exact set_h9 | with_reducible exact set_h10 | with_reducible exact set_h11 | with_reducible exact set_h12 | with_reducible exact set_h13 | with_reducible exact set_h14 | with_reducible exact set_h15 | with_reducible exact set_h16 | with_reducible exact set_h17 | with_reducible exact set_h18 | with_reducible exact set_h19 | with_reducible exact set_h20 | with_reducible exact set_h21 | with_reducible exact set_h22 | with_reducible exact set_h23 | with_reducible exact set_h24 | with_reducible exact set_h25)) | (with_reducible refine w_try ?_) | (with_reducible refine w_fzE ?_) | (with_reducible refine w_lstRg ?_) | (with_reducible refine w_pop ?_) | (with_reducible refine w_rev ?_) | (with_reducible refine w_revL ?_) | (with_reducible refine w_forE ?_) | (with_reducible refine w_par ?_) | ((with_reducible refine' w_kpar ?_ ?_ ?_); rotate_left 2; (first | with_reducible exact set_h0 | with_reducible exact set_h1 | with_reducible exact set_h2 | with_reducible exact set_h3 | with_reducible exact set_h4 | with_reducible exact set_h5 | with_reducible exact set_h6 | with_reducible exact set_h7 | with_reducible exact set_h8 | with_reducible exact set_h9 | with_reducible exact set_h10 | with_reducible exact set_h11 | with_reducible exact set_h12 | with_reducible exact set_h13 | with_reducible exact set_h14 | with_reducible exact set_h15 | with_reducible exact set_h16 | with_reducible exact set_h17 | with_reducible exact set_h18 | with_reducible exact set_h19 | with_reducible exact set_h20 | with_reducible exact set_h21 | with_reducible exact set_h22 | with_reducible exact set_h23 | with_reducible exact set_h24 | with_reducible exact set_h25); (first | with_reducible exact set_h0 | with_reducible exact set_h1 | with_reducible exact set_h2 | with_reducible exact set_h3 | with_reducible exact set_h4 | with_reducible exact set_h5 | with_reducible exact set_h6 | with_reducible exact set_h7 | with_reducible exact set_h8 | with_reducible exact set_h9 | with_reducible exact set_h10 | with_reducible exact set_h11 | with_reducible exact set_h12 | with_reducible exact set_h13 | with_reducible exact set_h14 | with_reducible exact set_h15 | with_reducible exact set_h16 | with_reducible exact set_h17 | with_reducible exact set_h18 | with_reducible exact set_h19 | with_reducible exact set_h20 | with_reducible exact set_h21 | with_reducible exact set_h22 | with_reducible exact set_h23 | with_reducible exact set_h24 | with_reducible exact set_h25)) | ((with_reducible refine' w_isi_i ?_ ?_); rotate_left; (first | with_reducible exact kit_ib | with_reducible exact kit_ii | with_reducible exact kit_it | with_reducible exact kit_il | with_reducible exact kit_is)) | ((with_reducible refine' w_isi_b ?_ ?_); rotate_left; (first | with_reducible exact kit_bb | with_reducible exact kit_bi | with_reducible exact kit_bt | with_reducible exact kit_bl | with_reducible exact kit_bs)) | ((with_reducible refine' w_isi_t ?_ ?_); rotate_left; (first | with_reducible exact kit_tb | with_reducible exact kit_ti | with_reducible exact kit_tt | with_reducible exact kit_tl | with_reducible exact kit_ts)) | ((with_reducible refine' w_isi_l ?_ ?_); rotate_left; (first | with_reducible exact kit_lb | with_reducible exact kit_li | with_reducible exact kit_lt | with_reducible exact kit_ll | with_reducible exact kit_ls)) | ((with_reducible refine' w_isi_s ?_ ?_); rotate_left; (first | with_reducible exact kit_sb | with_reducible exact kit_si | with_reducible exact kit_st | with_reducible exact kit_sl | with_reducible exact kit_ss)) | ((with_reducible refine' w_isi_n ?_ ?_); rotate_left; (first | with_reducible exact kit_nb | with_reducible exact kit_ni | with_reducible exact kit_nt | with_reducible exact kit_nl | with_reducible exact kit_ns))))
local macro_rules | `(tactic| walk_at "st") => `(tactic| simp only [pstart, List.map_cons, List.map_nil, List.cons_append, List.nil_append, List.length_cons, List.length_nil, List.replicate, Nat.reduceSub, Nat.reduceAdd, Nat.zero_add])
theorem eqv_int2 : ∀ a b : List Int, PyData.eqvAll (a.map PyData.int) (b.map PyData.int) = decide (a = b)
  | [], [] => rfl
  | [], _ :: _ => rfl
  | _ :: _, [] => rfl
  | i :: a, j :: b => by
    show (PyData.eqv (.int i) (.int j) && PyData.eqvAll (a.map PyData.int) (b.map PyData.int)) = _
    rw [eqv_int2 a b]
    show (decide (i = j) && decide (a = b)) = _
    by_cases h1 : i = j <;> by_cases h2 : a = b <;> simp [h1, h2]
theorem ne_int2 {a b : List Int} {M : Mem} {Q : PQ} (q : Q (.bl (!decide (a = b))) M) : oNe (tI a) (tI b) M Q := by
  have e : ∀ w : List Int, toD (tI w) = some (.tuple (w.map .int)) := fun w => by
    show (toDs (w.map .int)).map PyData.tuple = _
    rw [toDs_ints]
    rfl
  have d : ∀ w : List Int, PyData.depth (.tuple (w.map PyData.int)) ≤ 64 := fun w => by
    show PyData.depthAll _ + 1 ≤ 64
    rw [dep_ints]
    omega
  show eqP _ _ _
  unfold eqP
  show need (toD _) _
  refine need_by (e a) (need_by (e b) ⟨d a, d b, ?_⟩)
  show Q (.bl (!PyData.eqvAll _ _)) M
  rw [eqv_int2]
  exact q
theorem any_int (x : Int) : ∀ cs : List Int, ((cs.map PyData.int).any fun z => PyData.eqv z (.int x)) = decide (x ∈ cs)
  | [] => rfl
  | c :: r => by
    rw [List.map_cons, List.any_cons, any_int x r]
    show (decide (c = x) || decide (x ∈ r)) = _
    by_cases h1 : c = x
    · simp [h1]
    · have : x ≠ c := fun e => h1 e.symm
      simp [h1, this]
theorem in_int2 {x : Int} {cs : List Int} {M : Mem} {Q : PQ} (q : Q (.bl (decide (x ∈ cs))) M) : oIn (.int x) (.tup (cs.map .int)) M Q :=
  w_inT (d := .int x) (ds := cs.map .int) rfl (toDs_ints cs) (Nat.zero_le 64) (by rw [any_int]; exact q)
theorem rep_zero {m : Nat} : (List.replicate m [PV.int 0]).flatten = (List.replicate m (0 : Int)).map .int := by
  rw [List.map_replicate, List.flatten_replicate_singleton]
theorem scan_acc {n k m : Nat} {gs : List Gt} : ∀ {ws acc : List (List Int)} {r}, scanR n k m gs ws acc = some r → True := fun _ => trivial
/-- the net, one word: what the run gives -/
theorem bits_in {n : Int} {k : Nat} {u : List Int} (hn : 1 ≤ n ∧ n ≤ 400) (hk : (k : Int) ≤ n) (mu : u.length = k ∧ ∀ b ∈ u, bit b) : Bits n (u ++ List.replicate (n.toNat - k) 0) := by
  refine ⟨by rw [List.length_append, List.length_replicate, mu.1]; omega, fun b hb => ?_⟩
  rcases List.mem_append.mp hb with h | h
  · exact mu.2 b h
  · exact .inl (List.eq_of_mem_replicate h)
theorem end_len {n : Int} {k : Nat} {gs : List Gt} {u : List Int} (hk : (k : Int) ≤ n) (mu : u.length = k) : (endW n.toNat k gs u).length = n.toNat := by
  unfold endW
  rw [runG_len, List.length_append, List.length_replicate, mu]
  omega
theorem et2 (a b : List Int) : PV.tup (a.map .int ++ b.map .int) = tI (a ++ b) := by unfold tI; rw [List.map_append]
theorem k_table_of (Γ : Ctx) : Keeps (t_table_of Γ) 3 7 (sp_table_of Γ) := by
  rintro xs M Q E hl ⟨n, gs, k, m, rfl, ok, h⟩
  have hn := ok.hn
  walk_at "st"
  unfold t_table_of netP
  walk_at "hd"
  refine c_is_number' (fun h => nomatch h) ?_
  by_cases hk : 1 ≤ k ∧ k ≤ 6
  case neg =>
    rcases h with ⟨_, q⟩ | ⟨nb, _⟩
    · rw [num_out (by omega)]
      walk_at "hd"
      exact q _
    · exact absurd (by unfold badK; omega) nb
  rw [int_num hk.1 hk.2]
  walk_at "hd"
  refine c_is_number' (fun h => nomatch h) ?_
  by_cases hm : 1 ≤ m ∧ m ≤ 6
  case neg =>
    rcases h with ⟨_, q⟩ | ⟨nb, _⟩
    · rw [num_out (by omega)]
      walk_at "hd"
      exact q _
    · exact absurd (by unfold badK; omega) nb
  rw [int_num hm.1 hm.2]
  walk_at "hd"
  by_cases hN : n < k + m
  · rcases h with ⟨_, q⟩ | ⟨nb, _⟩
    · rw [if_pos hN]
      walk_at "hd"
      exact q _
    · exact absurd (by unfold badK; omega) nb
  rw [if_neg hN]
  rcases h with ⟨b, _⟩ | ⟨_, h⟩
  · exact absurd b (by unfold badK; omega)
  obtain ⟨k, rfl⟩ := Int.eq_ofNat_of_zero_le (show 0 ≤ k by omega)
  obtain ⟨m, rfl⟩ := Int.eq_ofNat_of_zero_le (show 0 ≤ m by omega)
  walk_at "hd"
  refine ⟨⟨by omega, by omega, by decide⟩, ?_⟩
  rw [show (n - (k : Int)).toNat = n.toNat - k by omega, rep_zero]
  have ezt : PV.tup ((List.replicate (n.toNat - k) (0 : Int)).map .int) = tI (List.replicate (n.toNat - k) 0) := rfl
  rw [ezt]
  walk_at "hd"
  intro p hp
  walk_at "hd"
  refine ⟨k, rfl, by omega, ?_⟩
  unfold wL
  walk_at "hd"
  have hp2 : 2 ^ k ≤ 2 ^ 6 := Nat.pow_le_pow_right (by decide) (by omega)
  refine for_in (fun i σ M' => ∃ x5 x6 acc, σ = [some (netP Γ n gs), some (.int k), some (.int m), some (tI (List.replicate (n.toNat - k) 0)), some (.ptr p), x5, x6] ∧ M' = M.put p (.lst (acc.map tI)) ∧ acc.length = i ∧
    scanR n.toNat k m gs ((wordsN k).drop i) acc = scanA n k m gs) ⟨_, _, [], rfl, rfl, rfl, by unfold scanA; simp⟩ ?_ ?_
  · rintro i x σ M' K hx ⟨x5, x6, acc, rfl, rfl, hal, hs⟩ hK
    obtain ⟨u, eu, rfl⟩ := map_at hx
    have mu := wordsN_mem (List.mem_of_getElem? eu)
    have hi : i < 2 ^ k := by rw [← wordsN_len k]; exact (List.getElem?_eq_some_iff.mp eu).1
    have el : (endW n.toNat k gs u).length = n.toNat := end_len (by omega) mu.1
    unfold b_table_of_1 netP
    walk_at "hd"
    refine ⟨line_lt (by simp; omega), ?_⟩
    rw [et2]
    walk_at "hd"
    refine ⟨n, gs, _, rfl, .inl ⟨u ++ List.replicate (n.toNat - k) 0, rfl, bits_in hn (by omega) mu, hn.2, ok.hg, ?_⟩⟩
    have eE : runG gs (u ++ List.replicate (n.toNat - k) 0) = endW n.toNat k gs u := rfl
    rw [eE]
    rw [drop_at eu] at hs
    unfold scanR at hs
    generalize endW n.toNat k gs u = b at el hs
    unfold tI
    walk_at "hd"
    rw [cutA_map, cutA_to _ (by omega), Int.toNat_natCast]
    refine ne_int2 ?_
    by_cases h1 : b.take k = u
    case neg =>
      rw [if_neg (fun z => h1 z.1)] at hs
      rw [decide_eq_false h1]
      walk_at "hd"
      rcases h with ⟨_, q⟩ | ⟨ws, e, _⟩
      · exact q _
      · rw [e] at hs; cases hs
    rw [decide_eq_true h1]
    walk_at "hd"
    rw [cutA_map, cutA_from _ (by omega), show ((k : Int) + (m : Int)).toNat = k + m by omega]
    refine in_int2 ?_
    by_cases h2 : (1 : Int) ∈ b.drop (k + m)
    · rw [if_neg (fun z => z.2 h2)] at hs
      rw [decide_eq_true h2]
      walk_at "hd"
      rcases h with ⟨_, q⟩ | ⟨ws, e, _⟩
      · exact q _
      · rw [e] at hs; cases hs
    rw [if_pos ⟨h1, h2⟩] at hs
    rw [decide_eq_false h2]
    walk_at "hd"
    refine ⟨lst_nn, ?_⟩
    walk_at "hd"
    rw [cutA_map, cutA_both (a := k) (b := k + m) _ (by omega) (by omega) rfl (by omega), show k + m - k = m by omega]
    rw [app_ptr put_same (by rw [List.length_map]; exact line_lt' (by omega)), put_put]
    refine hK _ _ ⟨_, _, acc ++ [(b.drop k).take m], rfl, ?_, by rw [List.length_append, hal]; rfl, hs⟩
    rw [List.map_append]
    rfl
  · rintro σ M' ⟨x5, x6, acc, rfl, rfl, hal, hs⟩
    walk_at "hd"
    rw [List.length_map, List.drop_of_length_le (Nat.le_refl _)] at hs
    have hs2 : some acc = scanA n k m gs := hs
    rcases h with ⟨e, _⟩ | ⟨ws, e, q⟩
    · rw [e] at hs2; cases hs2
    · rw [e] at hs2
      cases hs2
      exact w_fzP put_same (by rw [put_drop hp]; exact q _)

end My
set_option Elab.async false
set_option linter.all false
set_option maxRecDepth 100000
namespace My
open PySem PL TM
local macro_rules | `(tactic| walk_at "hd") => `(tactic| repeat (first | (with_reducible refine w_C ?_) | ((with_reducible refine' w_var ?_ ?_); rotate_left; exact rfl) | (with_reducible refine w_nil ?_) | (with_reducible refine w_join ?_) | (with_reducible refine w_kStr ?_) | (with_reducible refine w_rv ?_) | (with_reducible refine w_z ?_) | (with_reducible refine w_zL ?_) | (with_reducible refine w_zT ?_) | (with_reducible refine w_tupRg ?_) | ((with_reducible refine w_shr ?_ ?_); (first | decide | omega)) | (with_reducible refine w_cons ?_) | (with_reducible refine w_bin ?_) | (with_reducible refine w_test ?_) | (with_reducible refine w_kB ?_) | (with_reducible refine w_call ?_) | (with_reducible refine w_callB ?_) | (with_reducible refine w_on1 ?_) | (with_reducible refine w_on2 ?_) | (with_reducible refine w_tup ?_) | (with_reducible refine w_lst ?_) | (with_reducible refine w_lstM ?_) | (with_reducible refine w_seq ?_) | ((with_reducible refine' w_pset ?_ ?_); rotate_left; (intro x; first | with_reducible exact set_h0 | with_reducible exact set_h1 | with_reducible exact set_h2 | with_reducible exact set_h3 | with_reducible exact set_h4 | with_reducible exact set_h5 | with_reducible exact set_h6 | with_reducible exact set_h7 | with_reducible exact set_h8 | with_reducible exact set_h9 | with_reducible exact set_h10 | with_reducible exact set_h11 | with_reducible exact set_h12 | with_reducible exact set_h13 | with_reducible exact set_h14 | with_reducible exact set_h15 | with_reducible exact set_h16 | with_reducible exact set_h17 | with_reducible exact set_h18 | with_reducible exact set_h19 | with_reducible exact set_h20 | with_reducible exact set_h21 | with_reducible exact set_h22 | with_reducible exact set_h23 | with_reducible exact set_h24 | with_reducible exact set_h25)) | (with_reducible refine w_next ?_) | (with_reducible refine w_ret ?_) | (with_reducible refine w_retN ?_) | (with_reducible refine w_ifs ?_) | (with_reducible refine w_dnx ?_) | (with_reducible refine w_drt ?_) | (with_reducible refine w_dbk ?_) | (with_reducible refine w_dct ?_) | (with_reducible refine w_ifT ?_) | (with_reducible refine w_ifF ?_) | (with_reducible refine w_ifd ?_) | (with_reducible refine w_ifn ?_) | (with_reducible refine w_drop ?_) | (with_reducible refine w_asg ?_) | ((with_reducible refine' w_gname ?_ ?_); rotate_left; (first | with_reducible exact set_h0 | with_reducible exact set_h1 | with_reducible exact set_h2 | with_reducible exact set_h3 | with_reducible exact set_h4 | with_reducible exact set_h5 | with_reducible exact set_h6 | with_reducible exact set_h7 | with_reducible exact set_h8 | with_reducible exact set_h9 | with_reducible exact set_h10 | with_reducible exact set_h11 | with_reducible exact set_h12 | with_reducible exact set_h13 | with_reducible exact set_h14 | with_reducible exact set_h15 | with_reducible exact set_h16 | with_reducible exact set_h17 | with_reducible exact set_h18 | with_reducible exact set_h19 | with_reducible exact set_h20 | with_reducible exact set_h21 | with_reducible exact set_h22 | with_reducible exact set_h23 | with_reducible exact set_h24 | with_reducible exact set_h25)) | ((with_reducible refine w_gtup ?_ ?_); exact rfl) | (with_reducible refine w_gcons ?_) | (with_reducible refine w_gnil ?_) | (with_reducible refine w_gsub ?_) | (with_reducible refine w_I0 ?_) | ((with_reducible refine w_mod ?_ ?_); (first | decide | omega)) | ((with_reducible refine w_div ?_ ?_); (first | decide | omega)) | (with_reducible refine w_add ?_) | (with_reducible refine w_neg ?_) | (with_reducible refine w_negI ?_) | (with_reducible refine w_eqInt ?_) | (with_reducible refine w_neInt ?_) | (with_reducible refine w_eqBl ?_) | (with_reducible refine w_neBl ?_) | (with_reducible refine w_eqStr ?_) | (with_reducible refine w_neStr ?_) | (with_reducible refine w_ixtup0 ?_) | (with_reducible refine w_ixlst0 ?_) | (with_reducible refine w_ixtup1 ?_) | (with_reducible refine w_ixlst1 ?_) | (with_reducible refine w_ixtup2 ?_) | (with_reducible refine w_ixlst2 ?_) | (with_reducible refine w_ixtup3 ?_) | (with_reducible refine w_ixlst3 ?_) | (with_reducible refine w_ixtup4 ?_) | (with_reducible refine w_ixlst4 ?_) | (with_reducible refine w_ixtup5 ?_) | (with_reducible refine w_ixlst5 ?_) | (with_reducible refine w_need ?_) | (with_reducible refine w_lentup ?_) | (with_reducible refine w_lenlst ?_) | (with_reducible refine w_lenscr ?_) | (with_reducible refine w_sl ?_) | (with_reducible refine w_nop ?_) | (with_reducible refine w_part ?_) | (with_reducible refine w_partI ?_) | (with_reducible refine w_slT ?_) | (with_reducible refine w_slL ?_) | (with_reducible refine w_slS ?_) | (with_reducible refine w_abs ?_) | (with_reducible refine w_int ?_) | (with_reducible refine w_listL ?_) | (with_reducible refine w_listT ?_) | (with_reducible refine w_listS ?_) | (with_reducible refine w_tupL ?_) | (with_reducible refine w_tupT ?_) | (with_reducible refine w_listML ?_) | (with_reducible refine w_listMT ?_) | (with_reducible refine w_and ?_) | (with_reducible refine w_or ?_) | (with_reducible refine w_not ?_) | (with_reducible refine w_andV ?_) | (with_reducible refine w_orV ?_) | (with_reducible refine w_notV ?_) | (with_reducible refine w_if ?_) | (with_reducible refine w_isN ?_) | (with_reducible refine w_notN ?_) | (with_reducible refine w_tisN ?_) | (with_reducible refine w_tnotN ?_) | (with_reducible refine w_in_non ?_) | (with_reducible refine w_in_int ?_) | (with_reducible refine w_in_tup ?_) | (with_reducible refine w_in_lst ?_) | (with_reducible refine w_in_ptr ?_) | (with_reducible refine w_in_str ?_) | (with_reducible refine w_in_bl ?_) | (with_reducible refine w_isB ?_) | (with_reducible refine w_notB ?_) | (with_reducible refine w_for ?_) | (with_reducible refine w_iL ?_) | (with_reducible refine w_iT ?_) | (with_reducible refine w_lstF ?_) | (with_reducible refine w_lstFs ?_) | (with_reducible refine w_tupF ?_) | (with_reducible refine w_R1 ?_) | ((with_reducible refine w_R1I ?_ ?_); (first | decide | omega)) | (with_reducible refine w_R2 ?_) | (with_reducible refine w_forM ?_) | (with_reducible refine w_brk ?_) | (with_reducible refine w_cnt ?_) | (with_reducible refine w_lc ?_) | (with_reducible refine w_lcnil ?_) | (with_reducible refine w_lccons ?_) | (with_reducible refine w_fld ?_) | ((with_reducible refine' w_fldO ?_ ?_); rotate_left; exact rfl) | (with_reducible refine w_meth ?_) | ((with_reducible refine w_objO ?_ ?_); exact rfl) | (with_reducible refine w_make ?_) | (with_reducible refine w_fldS ?_) | (with_reducible refine w_app ?_) | (with_reducible refine w_retF ?_) | (with_reducible refine w_retD ?_) | (with_reducible refine w_retFD ?_) | (with_reducible refine w_raise ?_) | ((with_reducible refine' w_aug ?_ ?_ ?_); rotate_left 2; exact rfl; (intro x; first | with_reducible exact set_h0 | with_reducible exact set_h1 | with_reducible exact set_h2 | with_reducible exact set_h3 | with_reducible exact set_h4 | with_reducible exact set_h5 | with_reducible exact set_h6 | with_reducible exact set_h7 | with_reducible exact set_h8 | with_reducible exact set_h9 | with_reducible exact set_h10 | with_reducible exact set_h11 | with_reducible exact set_h12 | with_reducible exact set_h13 | with_reducible exact set_h14 | with_reducible exact set_h15 | with_reducible exact set_h16 | with_reducible exact set_h17 | with_reducible exact set_h18 | with_reducible exact set_h19 | with_reducible exact set_h20 | with_reducible exact set_h21 | with_reducible exact set_h22 | with_reducible exact set_h23 | with_reducible exact set_h24 | with_reducible exact set_h25)) | (with_reducible refine w_try ?_) | (with_reducible refine w_fzE ?_) | (with_reducible refine w_lstRg ?_) | (with_reducible refine w_pop ?_) | (with_reducible refine w_rev ?_) | (with_reducible refine w_revL ?_) | (with_reducible refine w_forE ?_) | (with_reducible refine w_par ?_) | ((with_reducible refine' w_kpar ?_ ?_ ?_); rotate_left 2; (first | with_reducible exact set_h0 | with_reducible exact set_h1 | with_reducible exact set_h2 | with_reducible exact set_h3 | with_reducible exact set_h4 | with_reducible exact set_h5 | with_reducible exact set_h6 | with_reducible exact set_h7 | with_reducible exact set_h8 | with_reducible exact set_h9 | with_reducible exact set_h10 | with_reducible exact set_h11 | with_reducible exact set_h12 | with_reducible exact set_h13 | with_reducible exact set_h14 | with_reducible exact set_h15 | with_reducible exact set_h16 | with_reducible exact set_h17 | with_reducible exact set_h18 | with_reducible exact set_h19 | with_reducible exact set_h20 | with_reducible exact set_h21 | with_reducible exact set_h22 | with_reducible exact set_h23 | with_reducible exact set_h24 | with_reducible exact set_h25); (first | with_reducible exact set_h0 | with_reducible exact set_h1 | with_reducible exact set_h2 | with_reducible exact set_h3 | with_reducible exact set_h4 | with_reducible exact set_h5 | with_reducible exact set_h6 | with_reducible exact set_h7 | with_reducible exact set_h8 | with_reducible exact set_h9 | with_reducible exact set_h10 | with_reducible exact set_h11 | with_reducible exact set_h12 | with_reducible exact set_h13 | with_reducible exact set_h14 | with_reducible exact set_h15 | with_reducible exact set_h16 | with_reducible exact set_h17 | with_reducible exact set_h18 | with_reducible exact set_h19 | with_reducible exact set_h20 | with_reducible exact set_h21 | with_reducible exact set_h22 | with_reducible exact set_h23 | with_reducible exact set_h24 | with_reducible exact set_h25)) | ((with_reducible refine' w_isi_i ?_ ?_); rotate_left; (first | with_reducible exact kit_ib | with_reducible exact kit_ii | with_reducible exact kit_it | with_reducible exact kit_il | with_reducible exact kit_is)) | ((with_reducible refine' w_isi_b ?_ ?_); rotate_left; (first | with_reducible exact kit_bb | with_reducible exact kit_bi | with_reducible exact kit_bt | with_reducible exact kit_bl | with_reducible exact kit_bs)) | ((with_reducible refine' w_isi_t ?_ ?_); rotate_left; (first | with_reducible exact kit_tb | with_reducible exact kit_ti | with_reducible exact kit_tt | with_reducible exact kit_tl | with_reducible exact kit_ts)) | ((with_reducible refine' w_isi_l ?_ ?_); rotate_left; (first | with_reducible exact kit_lb | with_reducible exact kit_li | with_reducible exact kit_lt | with_reducible exact kit_ll | with_reducible exact kit_ls)) | ((with_reducible refine' w_isi_s ?_ ?_); rotate_left; (first | with_reducible exact kit_sb | with_reducible exact kit_si | with_reducible exact kit_st | with_reducible exact kit_sl | with_reducible exact kit_ss)) | ((with_reducible refine' w_isi_n ?_ ?_); rotate_left; (first | with_reducible exact kit_nb | with_reducible exact kit_ni | with_reducible exact kit_nt | with_reducible exact kit_nl | with_reducible exact kit_ns))))
local macro_rules | `(tactic| walk_at "st") => `(tactic| simp only [pstart, List.map_cons, List.map_nil, List.cons_append, List.nil_append, List.length_cons, List.length_nil, List.replicate, Nat.reduceSub, Nat.reduceAdd, Nat.zero_add])
theorem w_intT {M : Mem} {Q : PQ} (h : Q (.int 1) M) : kInt (.bl true) M Q := h
theorem w_intF {M : Mem} {Q : PQ} (h : Q (.int 0) M) : kInt (.bl false) M Q := h
theorem k_law_due (Γ : Ctx) : Keeps (t_law_due Γ) 4 7 (sp_law_due Γ) := by
  rintro xs M Q E hl ⟨n, gs, k, m, rfl, ok, q⟩
  have hn := ok.hn
  walk_at "st"
  unfold t_law_due
  walk_at "hd"
  have bad : badK n k m → ∀ M', Q (.str (Str.ofString "bad")) M' := fun b M' => by have := q M'; unfold dueV at this; rw [if_pos b] at this; exact this
  by_cases c1 : k < 1
  · rw [if_pos c1]
    walk_at "hd"
    exact bad (.inl c1) _
  rw [if_neg c1]
  walk_at "hd"
  by_cases c2 : 6 < k
  · rw [if_pos c2]
    walk_at "hd"
    exact bad (.inr (.inl c2)) _
  rw [if_neg c2]
  walk_at "hd"
  by_cases c3 : m < 1
  · rw [if_pos c3]
    walk_at "hd"
    exact bad (.inr (.inr (.inl c3))) _
  rw [if_neg c3]
  walk_at "hd"
  by_cases c4 : 6 < m
  · rw [if_pos c4]
    walk_at "hd"
    exact bad (.inr (.inr (.inr (.inl c4)))) _
  rw [if_neg c4]
  walk_at "hd"
  by_cases c5 : n < k + m
  · rw [if_pos c5]
    walk_at "hd"
    exact bad (.inr (.inr (.inr (.inr c5)))) _
  rw [if_neg c5]
  walk_at "hd"
  have nb : ¬ badK n k m := by unfold badK; omega
  have q2 : ∀ M', Q (resV (scanA n k m gs)) M' := fun M' => by have := q M'; unfold dueV at this; rw [if_neg nb] at this; exact this
  obtain ⟨k, rfl⟩ := Int.eq_ofNat_of_zero_le (show 0 ≤ k by omega)
  obtain ⟨m, rfl⟩ := Int.eq_ofNat_of_zero_le (show 0 ≤ m by omega)
  intro p hp
  walk_at "hd"
  refine ⟨k, rfl, by omega, ?_⟩
  unfold wL
  walk_at "hd"
  have hp2 : 2 ^ k ≤ 2 ^ 6 := Nat.pow_le_pow_right (by decide) (by omega)
  refine for_in (fun i σ M' => ∃ x5 x6 acc, σ = [some (.lst (gs.map gtP)), some (.int n), some (.int k), some (.int m), some (.ptr p), x5, x6] ∧ M' = M.put p (.lst (acc.map tI)) ∧ acc.length = i ∧
    scanR n.toNat k m gs ((wordsN k).drop i) acc = scanA n k m gs) ⟨_, _, [], rfl, rfl, rfl, by unfold scanA; simp⟩ ?_ ?_
  · rintro i x σ M' K hx ⟨x5, x6, acc, rfl, rfl, hal, hs⟩ hK
    obtain ⟨u, eu, rfl⟩ := map_at hx
    have mu := wordsN_mem (List.mem_of_getElem? eu)
    have hi : i < 2 ^ k := by rw [← wordsN_len k]; exact (List.getElem?_eq_some_iff.mp eu).1
    have el : (endW n.toNat k gs u).length = n.toNat := end_len (by omega) mu.1
    unfold b_law_due_1
    walk_at "hd"
    refine ⟨⟨by omega, by omega, by decide⟩, ?_⟩
    rw [show (n - (k : Int)).toNat = n.toNat - k by omega, rep_zero]
    have ezt : PV.tup ((List.replicate (n.toNat - k) (0 : Int)).map .int) = tI (List.replicate (n.toNat - k) 0) := rfl
    rw [ezt]
    refine ⟨line_lt (by simp; omega), ?_⟩
    rw [et2]
    walk_at "hd"
    refine ⟨n, gs, _, rfl, hn.2, ok.hg, bits_in hn (by omega) mu, ?_⟩
    have eE : runG gs (u ++ List.replicate (n.toNat - k) 0) = endW n.toNat k gs u := rfl
    rw [eE]
    rw [drop_at eu] at hs
    unfold scanR at hs
    generalize endW n.toNat k gs u = b at el hs
    unfold tI
    walk_at "hd"
    rw [cutA_map, cutA_to _ (by omega), Int.toNat_natCast]
    refine ne_int2 ?_
    by_cases h1 : b.take k = u
    case neg =>
      rw [if_neg (fun z => h1 z.1)] at hs
      rw [decide_eq_false h1]
      walk_at "hd"
      rw [← hs] at q2
      exact q2 _
    rw [decide_eq_true h1]
    walk_at "hd"
    rw [cutA_map, cutA_from _ (by omega), show ((k : Int) + (m : Int)).toNat = k + m by omega]
    refine in_int2 ?_
    by_cases h2 : (1 : Int) ∈ b.drop (k + m)
    · rw [if_neg (fun z => z.2 h2)] at hs
      rw [decide_eq_true h2]
      walk_at "hd"
      rw [← hs] at q2
      exact q2 _
    rw [if_pos ⟨h1, h2⟩] at hs
    rw [decide_eq_false h2]
    walk_at "hd"
    refine ⟨lst_nn, ?_⟩
    walk_at "hd"
    rw [cutA_map, cutA_both (a := k) (b := k + m) _ (by omega) (by omega) rfl (by omega), show k + m - k = m by omega]
    rw [app_ptr put_same (by rw [List.length_map]; exact line_lt' (by omega)), put_put]
    refine hK _ _ ⟨_, _, acc ++ [(b.drop k).take m], rfl, ?_, by rw [List.length_append, hal]; rfl, hs⟩
    rw [List.map_append]
    rfl
  · rintro σ M' ⟨x5, x6, acc, rfl, rfl, hal, hs⟩
    walk_at "hd"
    rw [List.length_map, List.drop_of_length_le (Nat.le_refl _)] at hs
    have hs2 : some acc = scanA n k m gs := hs
    rw [← hs2] at q2
    exact w_fzP put_same (by rw [put_drop hp]; exact q2 _)
theorem join_bad : Str.join (Str.ofString "") [Str.ofString "bad", Str.ofString ""] = Str.ofString "bad" := by decide
theorem join_dirty : Str.join (Str.ofString "") [Str.ofString "", Str.ofString "dirty"] = Str.ofString "dirty" := by decide
theorem k_law_found (Γ : Ctx) : Keeps (t_law_found Γ) 3 4 (sp_law_found Γ) := by
  rintro xs M Q E hl ⟨n, gs, k, m, rfl, ok, q⟩
  walk_at "st"
  unfold t_law_found
  walk_at "hd"
  refine ⟨n, gs, k, m, rfl, ok, ?_⟩
  by_cases b : badK n k m
  · refine .inl ⟨b, fun M' => need_by Γ.e_BadTable_BackError ⟨fun _ => ⟨rfl, fun a _ => ?_⟩, fun z => nomatch z⟩⟩
    have q1 := q M'
    unfold dueV at q1
    rw [if_pos b] at q1
    walk_at "hd"
    refine ⟨rfl, need_by Γ.k_BadTable_BadTable ?_⟩
    walk_at "hd"
    refine w_intT ?_
    refine w_ixL (x := .str (Str.ofString "bad")) rfl ?_
    walk_at "hd"
    refine ⟨rfl, need_by Γ.k_BadTable_NotClean ?_⟩
    walk_at "hd"
    refine w_intF ?_
    refine w_ixL (x := .str (Str.ofString "")) rfl ?_
    walk_at "hd"
    refine w_kJoin (ss := [Str.ofString "bad", Str.ofString ""]) rfl (by decide) ?_
    rw [join_bad]
    exact q1
  · refine .inr ⟨b, ?_⟩
    have q1 : ∀ M', Q (resV (scanA n k m gs)) M' := fun M' => by have := q M'; unfold dueV at this; rw [if_neg b] at this; exact this
    cases hs : scanA n k m gs with
    | none =>
      refine .inl ⟨rfl, fun M' => need_by Γ.e_NotClean_BackError ⟨fun _ => ⟨rfl, fun a _ => ?_⟩, fun z => nomatch z⟩⟩
      rw [hs] at q1
      walk_at "hd"
      refine ⟨rfl, need_by Γ.k_NotClean_BadTable ?_⟩
      walk_at "hd"
      refine w_intF ?_
      refine w_ixL (x := .str (Str.ofString "")) rfl ?_
      walk_at "hd"
      refine ⟨rfl, need_by Γ.k_NotClean_NotClean ?_⟩
      walk_at "hd"
      refine w_intT ?_
      refine w_ixL (x := .str (Str.ofString "dirty")) rfl ?_
      walk_at "hd"
      refine w_kJoin (ss := [Str.ofString "", Str.ofString "dirty"]) rfl (by decide) ?_
      rw [join_dirty]
      exact q1 _
    | some ws =>
      rw [hs] at q1
      exact .inr ⟨ws, rfl, fun M' => q1 M'⟩

def tgs : Gt → List Int
  | .turn _ i => [i]
  | .swap _ i j => [i, j]
def keepG (k m : Int) (g : Gt) : Bool := (tgs g).all fun i => decide (k ≤ i) && decide (i < k + m)
theorem dueV_str (s : Str) {M : Mem} {Q : PQ} (q : Q (.bl true) M) : oEq (.str s) (.str s) M Q := by
  walk_at "hd"
  rw [decide_eq_true rfl]
  exact q
theorem eq_wL {ws : List (List Int)} {M : Mem} {Q : PQ} (h : Q (.bl true) M) : oEq (wL ws) (wL ws) M Q := by
  have e : toD (wL ws) = some (.list (ws.map fun w => PyData.tuple (w.map .int))) := by
    show (toDs (ws.map tI)).map PyData.list = _
    rw [toDs_wL]
    rfl
  have d : PyData.depth (.list (ws.map fun w => PyData.tuple (w.map .int))) ≤ 64 := by
    show PyData.depthAll _ + 1 ≤ 64
    have := dep_wL ws
    omega
  show eqP _ _ _
  unfold eqP
  show need (toD _) _
  refine need_by e (need_by e ⟨d, d, ?_⟩)
  show Q (.bl (PyData.eqvAll _ _)) M
  rw [eqv_wL]
  exact h
theorem eq_due {n k m : Int} {gs : List Gt} {M : Mem} {Q : PQ} (q : Q (.bl true) M) : oEq (dueV n k m gs) (dueV n k m gs) M Q := by
  unfold dueV
  split
  · exact dueV_str _ q
  · cases scanA n k m gs with
    | none => exact dueV_str _ q
    | some ws => exact eq_wL q
theorem law_6 {Γ : Ctx} {M : Mem} {Q : PQ} {E : PXK} {zs ds : List Int} {n k m : Int} {gs : List Gt} (q : ∀ M', Q (.bl true) M') (ok : NetOk n gs) :
    r_law_6 Γ (PEnds.mk (fun σ M' => Q .non M') Q E (fun _ _ => False) (fun _ _ => False)) [some (.scr (zs.map .int)), some (lI ds), some (.int n), some (.int k), some (.int m), some (.lst (gs.map gtP)), none, none, none] M := by
  unfold r_law_6
  walk_at "hd"
  intro y hy
  refine .inl ⟨y, n, .lst (gs.map gtP), gs, rfl, ok.hn, rfl, rfl, ok.hl, ok.hg, put_same, ?_⟩
  rw [put_put]
  refine ⟨rfl, ?_⟩
  simp only [put_same, true_and]
  rw [put_drop hy]
  unfold r_law_7
  walk_at "hd"
  refine ⟨n, gs, k, m, rfl, ok, fun M1 => ?_⟩
  walk_at "hd"
  unfold r_law_8
  walk_at "hd"
  refine ⟨n, gs, k, m, rfl, ok, fun M2 => ?_⟩
  refine eq_due ?_
  walk_at "hd"
  refine w_gates ?_
  walk_at "hd"
  refine eq_gates ?_
  exact q _
theorem law_5 {Γ : Ctx} {M : Mem} {Q : PQ} {E : PXK} {zs ds : List Int} {n k m : Int} {gs : List Gt} (q : ∀ M', Q (.bl true) M') (hd : Draws ds 60) (ok : NetOk n gs) :
    r_law_5 Γ (PEnds.mk (fun σ M' => Q .non M') Q E (fun _ _ => False) (fun _ _ => False)) [some (.scr (zs.map .int)), some (lI ds), some (.int n), some (.int k), some (.int m), some (.lst (gs.map gtP)), none, none, none] M := by
  unfold r_law_5 lI
  walk_at "hd"
  obtain ⟨e1, d0, _⟩ := dv_at hd (i := 55) (by decide) (by decide)
  refine w_ixL e1 ?_
  walk_at "hd"
  split
  · walk_at "hd"
    obtain ⟨e2, d2, _⟩ := dv_at hd (i := 56) (by decide) (by decide)
    refine w_ixL e2 ?_
    walk_at "hd"
    have all : ∀ x ∈ [PV.tup [.int 7, .int 1], .tup [.int 1, .int 7], .tup [.int 0, .int 1], .tup [.int 1, .int 0], .tup [.int (-1), .int 1]], ∃ a b, x = .tup [.int a, .int b] := by
      intro x hx
      simp only [List.mem_cons, List.not_mem_nil, or_false] at hx
      rcases hx with rfl | rfl | rfl | rfl | rfl <;> exact ⟨_, _, rfl⟩
    obtain ⟨x, ex, a, b, rfl⟩ := pick all (Int.emod_nonneg (dv ds 56) (show (5 : Int) ≠ 0 by decide)) (Int.emod_lt_of_pos _ (by decide))
    refine w_ixL ex ?_
    walk_at "hd"
    exact law_6 (M := M) (ds := ds) q ok
  · walk_at "hd"
    exact law_6 (M := M) (ds := ds) q ok

theorem GtOk_tgs {n : Int} {g : Gt} : True := trivial
theorem min_one {i : Int} {M : Mem} {Q : PQ} (q : Q (.int i) M) : kMinT (.tup [.int i]) M Q := need_by rfl (need_by (a := [i]) rfl ⟨by show 0 < 1; decide, fun m hm _ => by rw [List.mem_singleton.mp hm]; exact q⟩)
theorem max_one {i : Int} {M : Mem} {Q : PQ} (q : Q (.int i) M) : kMaxT (.tup [.int i]) M Q := need_by rfl (need_by (a := [i]) rfl ⟨by show 0 < 1; decide, fun m hm _ => by rw [List.mem_singleton.mp hm]; exact q⟩)
theorem min_two {i j : Int} {M : Mem} {Q : PQ} (q : ∀ m, (m = i ∨ m = j) → m ≤ i → m ≤ j → Q (.int m) M) : kMinT (.tup [.int i, .int j]) M Q := need_by rfl (need_by (a := [i, j]) rfl ⟨by show 0 < 2; decide, fun m hm hle => q m (by simpa using hm) (hle i (by simp)) (hle j (by simp))⟩)
theorem max_two {i j : Int} {M : Mem} {Q : PQ} (q : ∀ m, (m = i ∨ m = j) → i ≤ m → j ≤ m → Q (.int m) M) : kMaxT (.tup [.int i, .int j]) M Q := need_by rfl (need_by (a := [i, j]) rfl ⟨by show 0 < 2; decide, fun m hm hle => q m (by simpa using hm) (hle i (by simp)) (hle j (by simp))⟩)
theorem k_law (Γ : Ctx) : Keeps (t_law Γ) 1 9 (sp_law Γ) := by
  rintro xs M Q E hl ⟨zs, rfl, hz, q⟩
  walk_at "st"
  unfold t_law
  walk_at "hd"
  refine ⟨zs, 60, rfl, hz, ⟨by decide, by decide⟩, fun ds hd => ?_⟩
  walk_at "hd"
  unfold r_law_1 lI
  walk_at "hd"
  obtain ⟨e1, d0, _⟩ := dv_at hd (i := 50) (by decide) (by decide)
  refine w_ixL e1 ?_
  walk_at "hd"
  unfold r_law_2
  walk_at "hd"
  obtain ⟨e2, d2, _⟩ := dv_at hd (i := 51) (by decide) (by decide)
  refine w_ixL e2 ?_
  walk_at "hd"
  obtain ⟨e3, d3, _⟩ := dv_at hd (i := 52) (by decide) (by decide)
  refine w_ixL e3 ?_
  walk_at "hd"
  unfold r_law_3
  walk_at "hd"
  obtain ⟨e4, d4, _⟩ := dv_at hd (i := 53) (by decide) (by decide)
  refine w_ixL e4 ?_
  walk_at "hd"
  have hn : 1 ≤ 2 + dv ds 50 % 6 ∧ 2 + dv ds 50 % 6 ≤ 400 := ⟨by omega, by omega⟩
  generalize 2 + dv ds 50 % 6 = n at hn
  generalize dv ds 51 % 5 = k
  generalize dv ds 52 % 5 = m
  refine ⟨ds, 60, 0, dv ds 53 % 9, n, rfl, hd, Int.le_refl 0, by omega, by omega, hn, fun gs hgl hg => ?_⟩
  walk_at "hd"
  unfold r_law_4
  walk_at "hd"
  obtain ⟨e5, d5, _⟩ := dv_at hd (i := 54) (by decide) (by decide)
  refine w_ixL e5 ?_
  walk_at "hd"
  split
  · walk_at "hd"
    refine ⟨line_lt (by rw [List.length_map]; omega), lc_filtF gtP gtP (keepG k m) gs [] (fun g hgm R hR => ?_) (fun g hgm hk R hR => ?_) ?_⟩
    · cases g with
      | turn cs i =>
        rw [gtP_T]
        walk_at "hd"
        rw [cut2]
        refine min_one ?_
        walk_at "hd"
        have eK : keepG k m (.turn cs i) = (decide (k ≤ i) && decide (i < k + m)) := by unfold keepG tgs; simp
        rw [eK] at hR
        by_cases a1 : k ≤ i
        · rw [if_pos a1]
          rw [decide_eq_true a1] at hR
          walk_at "hd"
          rw [cut2]
          refine max_one ?_
          walk_at "hd"
          exact hR
        · rw [if_neg a1]
          rw [decide_eq_false a1] at hR
          exact hR
      | swap cs i j =>
        rw [gtP_S]
        walk_at "hd"
        rw [cut2]
        refine min_two fun x hx hi hj => ?_
        walk_at "hd"
        have eK : keepG k m (.swap cs i j) = ((decide (k ≤ i) && decide (i < k + m)) && (decide (k ≤ j) && decide (j < k + m))) := by unfold keepG tgs; simp
        by_cases a1 : k ≤ x
        · rw [if_pos a1]
          walk_at "hd"
          rw [cut2]
          refine max_two fun y hy hi2 hj2 => ?_
          walk_at "hd"
          have e : keepG k m (.swap cs i j) = decide (y < k + m) := by
            rw [eK]
            by_cases b : y < k + m
            · simp [b]; omega
            · simp [b]; omega
          rw [e] at hR
          exact hR
        · rw [if_neg a1]
          have e : keepG k m (.swap cs i j) = false := by
            rw [eK]
            simp
            omega
          rw [e] at hR
          exact hR
    · walk_at "hd"
      exact hR
    · walk_at "hd"
      exact law_5 (M := M) q hd ⟨hn, fun g h => hg g (List.mem_filter.mp h).1, Nat.le_trans (List.length_filter_le _ _) (by omega)⟩
  · walk_at "hd"
    exact law_5 (M := M) q hd ⟨hn, hg, by omega⟩

end My
set_option Elab.async false
set_option linter.all false
set_option maxRecDepth 100000
namespace My
open PySem PySem.Spec PyProof.Rows L2 PL
open TM
theorem rall_ints {K : PySem.W.Frag} {F : Hp} : ∀ ns : List Int, RAll K F (ns.map PV.int) (ns.map V.int)
  | [] => .nil
  | n :: r => .cons (.int n) (rall_ints r)
theorem top_law {K : PySem.W.Frag} {H : Hp} {a : Addr} {ns : List Int} (hl : ns.length ≤ 63) (hS : SqL K H a (ns.map V.int)) : lift K 1 sp_top [V.ref a] H (fun v _ => v = V.bl true) fun _ _ _ => False := by
  refine lift_of rfl (F := H) (M := fun _ => none) (xs := [.scr (ns.map .int)]) (Qp := fun x _ => x = .bl true) (Ep := fun _ _ _ => False) ⟨fun _ _ e => e, fun _ h => absurd rfl h, fun _ _ h => nomatch h⟩ (.cons (.scr hS (rall_ints ns)) .nil) ⟨ns, rfl, hl, fun _ => rfl⟩ ?_ ?_
  · rintro v H' ⟨F', M', x, _, r, rfl⟩
    cases r
    rfl
  · rintro cls d H' ⟨_, _, _, _, _, _, _, z⟩
    exact z
theorem top_cx {P : Program} {w : World} {H : Hp} {s s' : Shared} {e : Value} (z : L2.CX P w [] H s (fun _ _ _ => False) e s') : False := by
  obtain ⟨_, _, _, _, _, _, _, _, _, _, _, _, z⟩ := z
  exact z
section
variable {P : Program} {w : World} {K : PySem.W.Frag} {mg : Str → Option Value} {base : Heap} {Γ : Ctx}
theorem ok_law_draws {f : Addr} {fd : FuncData} (F : Fun K (PySem.Str.ofString "_law_draws") "_law_draws" s_law_draws f fd) (T : Txt K mg Γ)  : FnOk P w K mg base (L2.CX P w) 1 f fd ["script", "many"] (lift K 2 (sp_law_draws Γ)) :=
  Fn.ok F sc_law_draws rfl fun cdv A outer s H E hr => ⟨_, d_law_draws T  hr, k_law_draws Γ⟩
theorem ok_law_gates {f : Addr} {fd : FuncData} (F : Fun K (PySem.Str.ofString "_law_gates") "_law_gates" s_law_gates f fd) (T : Txt K mg Γ)  : FnOk P w K mg base (L2.CX P w) 1 f fd ["draws", "at", "many", "lines"] (lift K 4 (sp_law_gates Γ)) :=
  Fn.ok F sc_law_gates rfl fun cdv A outer s H E hr => ⟨_, d_law_gates T  hr, k_law_gates Γ⟩
theorem ok_is_whole {f : Addr} {fd : FuncData} (F : Fun K (PySem.Str.ofString "is_whole") "is_whole" s_is_whole f fd) (T : Txt K mg Γ)  : FnOk P w K mg base (L2.CX P w) 1 f fd ["value"] (lift K 1 (sp_is_whole Γ)) :=
  Fn.ok F sc_is_whole rfl fun cdv A outer s H E hr => ⟨_, d_is_whole T  hr, k_is_whole Γ⟩
theorem ok_is_number {f : Addr} {fd : FuncData} (F : Fun K (PySem.Str.ofString "is_number") "is_number" s_is_number f fd) (T : Txt K mg Γ) (G_is_whole : GFn P w K mg base (PySem.Str.ofString "is_whole") 1 ["value"] (sp_is_whole Γ)) : FnOk P w K mg base (L2.CX P w) 2 f fd ["value", "low", "high"] (lift K 3 (sp_is_number Γ)) :=
  Fn.ok F sc_is_number rfl fun cdv A outer s H E hr => ⟨_, d_is_number T G_is_whole hr, k_is_number Γ⟩
theorem ok_are_numbers {f : Addr} {fd : FuncData} (F : Fun K (PySem.Str.ofString "are_numbers") "are_numbers" s_are_numbers f fd) (T : Txt K mg Γ) (G_is_number : GFn P w K mg base (PySem.Str.ofString "is_number") 2 ["value", "low", "high"] (sp_is_number Γ)) : FnOk P w K mg base (L2.CX P w) 3 f fd ["value", "low", "high"] (lift K 3 (sp_are_numbers Γ)) :=
  Fn.ok F sc_are_numbers rfl fun cdv A outer s H E hr => ⟨_, d_are_numbers T G_is_number hr, k_are_numbers Γ⟩
theorem ok_are_controls {f : Addr} {fd : FuncData} (F : Fun K (PySem.Str.ofString "are_controls") "are_controls" s_are_controls f fd) (T : Txt K mg Γ)  : FnOk P w K mg base (L2.CX P w) 1 f fd ["value", "lines"] (lift K 2 (sp_are_controls Γ)) :=
  Fn.ok F sc_are_controls rfl fun cdv A outer s H E hr => ⟨_, d_are_controls T  hr, k_are_controls Γ⟩
theorem ok_is_gate {f : Addr} {fd : FuncData} (F : Fun K (PySem.Str.ofString "is_gate") "is_gate" s_is_gate f fd) (T : Txt K mg Γ) (G_are_numbers : GFn P w K mg base (PySem.Str.ofString "are_numbers") 3 ["value", "low", "high"] (sp_are_numbers Γ)) (G_are_controls : GFn P w K mg base (PySem.Str.ofString "are_controls") 1 ["value", "lines"] (sp_are_controls Γ)) : FnOk P w K mg base (L2.CX P w) 4 f fd ["value", "lines"] (lift K 2 (sp_is_gate Γ)) :=
  Fn.ok F sc_is_gate rfl fun cdv A outer s H E hr => ⟨_, d_is_gate T G_are_numbers G_are_controls hr, k_is_gate Γ⟩
theorem ok_Net_init {f : Addr} {fd : FuncData} (F : Fun K (PySem.Str.ofString "__init__") "Net.__init__" s_Net_init f fd) (T : Txt K mg Γ) (G_is_number : GFn P w K mg base (PySem.Str.ofString "is_number") 2 ["value", "low", "high"] (sp_is_number Γ)) (G_is_gate : GFn P w K mg base (PySem.Str.ofString "is_gate") 4 ["value", "lines"] (sp_is_gate Γ)) : FnOk P w K mg base (L2.CX P w) 5 f fd ["self", "lines", "gates"] (lift K 3 (sp_Net_init Γ)) :=
  Fn.ok F sc_Net_init rfl fun cdv A outer s H E hr => ⟨_, d_Net_init T G_is_number G_is_gate hr, k_Net_init Γ⟩
theorem ok_bits_of_number {f : Addr} {fd : FuncData} (F : Fun K (PySem.Str.ofString "bits_of_number") "bits_of_number" s_bits_of_number f fd) (T : Txt K mg Γ)  : FnOk P w K mg base (L2.CX P w) 1 f fd ["number", "many"] (lift K 2 (sp_bits_of_number Γ)) :=
  Fn.ok F sc_bits_of_number rfl fun cdv A outer s H E hr => ⟨_, d_bits_of_number T  hr, k_bits_of_number Γ⟩
theorem ok_words_in {f : Addr} {fd : FuncData} (F : Fun K (PySem.Str.ofString "words_in") "words_in" s_words_in f fd) (T : Txt K mg Γ) (G_bits_of_number : GFn P w K mg base (PySem.Str.ofString "bits_of_number") 1 ["number", "many"] (sp_bits_of_number Γ)) : FnOk P w K mg base (L2.CX P w) 2 f fd ["many"] (lift K 1 (sp_words_in Γ)) :=
  Fn.ok F sc_words_in rfl fun cdv A outer s H E hr => ⟨_, d_words_in T G_bits_of_number hr, k_words_in Γ⟩
theorem ok_Net__need_bits {f : Addr} {fd : FuncData} (F : Fun K (PySem.Str.ofString "_need_bits") "Net._need_bits" s_Net__need_bits f fd) (T : Txt K mg Γ) (G_are_numbers : GFn P w K mg base (PySem.Str.ofString "are_numbers") 3 ["value", "low", "high"] (sp_are_numbers Γ)) : FnOk P w K mg base (L2.CX P w) 4 f fd ["self", "bits"] (lift K 2 (sp_Net__need_bits Γ)) :=
  Fn.ok F sc_Net__need_bits rfl fun cdv A outer s H E hr => ⟨_, d_Net__need_bits T G_are_numbers hr, k_Net__need_bits Γ⟩
theorem ok_passed {f : Addr} {fd : FuncData} (F : Fun K (PySem.Str.ofString "passed") "passed" s_passed f fd) (T : Txt K mg Γ)  : FnOk P w K mg base (L2.CX P w) 1 f fd ["gates", "bits"] (lift K 2 (sp_passed Γ)) :=
  Fn.ok F sc_passed rfl fun cdv A outer s H E hr => ⟨_, d_passed T  hr, k_passed Γ⟩
theorem ok_Net_run {f : Addr} {fd : FuncData} (F : Fun K (PySem.Str.ofString "run") "Net.run" s_Net_run f fd) (T : Txt K mg Γ) (G_Net__need_bits : GMt P w K mg base Γ.Net (PySem.Str.ofString "_need_bits") 4 ["self", "bits"] (sp_Net__need_bits Γ)) (G_passed : GFn P w K mg base (PySem.Str.ofString "passed") 1 ["gates", "bits"] (sp_passed Γ)) : FnOk P w K mg base (L2.CX P w) 5 f fd ["self", "bits"] (lift K 2 (sp_Net_run Γ)) :=
  Fn.ok F sc_Net_run rfl fun cdv A outer s H E hr => ⟨_, d_Net_run T G_Net__need_bits G_passed hr, k_Net_run Γ⟩
theorem ok_table_of {f : Addr} {fd : FuncData} (F : Fun K (PySem.Str.ofString "table_of") "table_of" s_table_of f fd) (T : Txt K mg Γ) (G_words_in : GFn P w K mg base (PySem.Str.ofString "words_in") 2 ["many"] (sp_words_in Γ)) (G_Net_run : GMt P w K mg base Γ.Net (PySem.Str.ofString "run") 5 ["self", "bits"] (sp_Net_run Γ)) (G_is_number : GFn P w K mg base (PySem.Str.ofString "is_number") 2 ["value", "low", "high"] (sp_is_number Γ)) : FnOk P w K mg base (L2.CX P w) 6 f fd ["net", "k", "m"] (lift K 3 (sp_table_of Γ)) :=
  Fn.ok F sc_table_of rfl fun cdv A outer s H E hr => ⟨_, d_table_of T G_words_in G_Net_run G_is_number hr, k_table_of Γ⟩
theorem ok_law_found {f : Addr} {fd : FuncData} (F : Fun K (PySem.Str.ofString "_law_found") "_law_found" s_law_found f fd) (T : Txt K mg Γ) (G_table_of : GFn P w K mg base (PySem.Str.ofString "table_of") 6 ["net", "k", "m"] (sp_table_of Γ)) : FnOk P w K mg base (L2.CX P w) 7 f fd ["net", "k", "m"] (lift K 3 (sp_law_found Γ)) :=
  Fn.ok F sc_law_found rfl fun cdv A outer s H E hr => ⟨_, d_law_found T G_table_of hr, k_law_found Γ⟩
theorem ok_law_words {f : Addr} {fd : FuncData} (F : Fun K (PySem.Str.ofString "_law_words") "_law_words" s_law_words f fd) (T : Txt K mg Γ)  : FnOk P w K mg base (L2.CX P w) 1 f fd ["many"] (lift K 1 (sp_law_words Γ)) :=
  Fn.ok F sc_law_words rfl fun cdv A outer s H E hr => ⟨_, d_law_words T  hr, k_law_words Γ⟩
theorem ok_law_taken {f : Addr} {fd : FuncData} (F : Fun K (PySem.Str.ofString "_law_taken") "_law_taken" s_law_taken f fd) (T : Txt K mg Γ)  : FnOk P w K mg base (L2.CX P w) 1 f fd ["gates", "bits"] (lift K 2 (sp_law_taken Γ)) :=
  Fn.ok F sc_law_taken rfl fun cdv A outer s H E hr => ⟨_, d_law_taken T  hr, k_law_taken Γ⟩
theorem ok_law_due {f : Addr} {fd : FuncData} (F : Fun K (PySem.Str.ofString "_law_due") "_law_due" s_law_due f fd) (T : Txt K mg Γ) (G_law_words : GFn P w K mg base (PySem.Str.ofString "_law_words") 1 ["many"] (sp_law_words Γ)) (G_law_taken : GFn P w K mg base (PySem.Str.ofString "_law_taken") 1 ["gates", "bits"] (sp_law_taken Γ)) : FnOk P w K mg base (L2.CX P w) 2 f fd ["gates", "lines", "k", "m"] (lift K 4 (sp_law_due Γ)) :=
  Fn.ok F sc_law_due rfl fun cdv A outer s H E hr => ⟨_, d_law_due T G_law_words G_law_taken hr, k_law_due Γ⟩
theorem ok_Net_gates {f : Addr} {fd : FuncData} (F : Fun K (PySem.Str.ofString "gates") "Net.gates" s_Net_gates f fd) (T : Txt K mg Γ)  : FnOk P w K mg base (L2.CX P w) 1 f fd ["self"] (lift K 1 (sp_Net_gates Γ)) :=
  Fn.ok F sc_Net_gates rfl fun cdv A outer s H E hr => ⟨_, d_Net_gates T  hr, k_Net_gates Γ⟩
theorem ok_law {f : Addr} {fd : FuncData} (F : Fun K (PySem.Str.ofString "law") "law" s_law f fd) (T : Txt K mg Γ) (G_law_draws : GFn P w K mg base (PySem.Str.ofString "_law_draws") 1 ["script", "many"] (sp_law_draws Γ)) (G_law_gates : GFn P w K mg base (PySem.Str.ofString "_law_gates") 1 ["draws", "at", "many", "lines"] (sp_law_gates Γ)) (G_Net_init : GMk P w K mg base (PySem.Str.ofString "Net") Γ.Net 5 ["self", "lines", "gates"] (sp_Net_init Γ)) (G_law_found : GFn P w K mg base (PySem.Str.ofString "_law_found") 7 ["net", "k", "m"] (sp_law_found Γ)) (G_law_due : GFn P w K mg base (PySem.Str.ofString "_law_due") 2 ["gates", "lines", "k", "m"] (sp_law_due Γ)) (G_Net_gates : GMt P w K mg base Γ.Net (PySem.Str.ofString "gates") 1 ["self"] (sp_Net_gates Γ)) : FnOk P w K mg base (L2.CX P w) 8 f fd ["script"] (lift K 1 (sp_law Γ)) :=
  Fn.ok F sc_law rfl fun cdv A outer s H E hr => ⟨_, d_law T G_law_draws G_law_gates G_Net_init G_law_found G_law_due G_Net_gates hr, k_law Γ⟩
end
theorem all_mk {l : PySem.W.OpenLaw} {w : World} {K : PySem.W.Frag} {h : Heap} {mg : Str → Option Value} {fa f_law_draws f_law_gates f_is_whole f_is_number f_are_numbers f_are_controls f_is_gate f_Net_init f_bits_of_number f_words_in f_Net__need_bits f_passed f_Net_run f_table_of f_law_found f_law_words f_law_taken f_law_due f_Net_gates f_law C_Net C_BackError C_BadNet C_BadBits C_BadTable C_NotClean : Addr} (X : K.In h) (G : h.Ns mainGlobals mg) (hfa : mg "law" = some (.ref fa))
    {od_law_draws an_law_draws : Option Addr}
    {sl_law_draws : Array (Option Value)}
    {oc_law_draws kV_law_draws dc_law_draws pm_law_draws cd_law_draws ct_law_draws : Value}
    {od_law_gates an_law_gates : Option Addr}
    {sl_law_gates : Array (Option Value)}
    {oc_law_gates kV_law_gates dc_law_gates pm_law_gates cd_law_gates ct_law_gates : Value}
    {od_is_whole an_is_whole : Option Addr}
    {sl_is_whole : Array (Option Value)}
    {oc_is_whole kV_is_whole dc_is_whole pm_is_whole cd_is_whole ct_is_whole : Value}
    {od_is_number an_is_number : Option Addr}
    {sl_is_number : Array (Option Value)}
    {oc_is_number kV_is_number dc_is_number pm_is_number cd_is_number ct_is_number : Value}
    {od_are_numbers an_are_numbers : Option Addr}
    {sl_are_numbers : Array (Option Value)}
    {oc_are_numbers kV_are_numbers dc_are_numbers pm_are_numbers cd_are_numbers ct_are_numbers : Value}
    {od_are_controls an_are_controls : Option Addr}
    {sl_are_controls : Array (Option Value)}
    {oc_are_controls kV_are_controls dc_are_controls pm_are_controls cd_are_controls ct_are_controls : Value}
    {od_is_gate an_is_gate : Option Addr}
    {sl_is_gate : Array (Option Value)}
    {oc_is_gate kV_is_gate dc_is_gate pm_is_gate cd_is_gate ct_is_gate : Value}
    {od_Net_init an_Net_init : Option Addr}
    {sl_Net_init : Array (Option Value)}
    {oc_Net_init kV_Net_init dc_Net_init pm_Net_init cd_Net_init ct_Net_init : Value}
    {od_bits_of_number an_bits_of_number : Option Addr}
    {sl_bits_of_number : Array (Option Value)}
    {oc_bits_of_number kV_bits_of_number dc_bits_of_number pm_bits_of_number cd_bits_of_number ct_bits_of_number : Value}
    {od_words_in an_words_in : Option Addr}
    {sl_words_in : Array (Option Value)}
    {oc_words_in kV_words_in dc_words_in pm_words_in cd_words_in ct_words_in : Value}
    {od_Net__need_bits an_Net__need_bits : Option Addr}
    {sl_Net__need_bits : Array (Option Value)}
    {oc_Net__need_bits kV_Net__need_bits dc_Net__need_bits pm_Net__need_bits cd_Net__need_bits ct_Net__need_bits : Value}
    {od_passed an_passed : Option Addr}
    {sl_passed : Array (Option Value)}
    {oc_passed kV_passed dc_passed pm_passed cd_passed ct_passed : Value}
    {od_Net_run an_Net_run : Option Addr}
    {sl_Net_run : Array (Option Value)}
    {oc_Net_run kV_Net_run dc_Net_run pm_Net_run cd_Net_run ct_Net_run : Value}
    {od_table_of an_table_of : Option Addr}
    {sl_table_of : Array (Option Value)}
    {oc_table_of kV_table_of dc_table_of pm_table_of cd_table_of ct_table_of : Value}
    {od_law_found an_law_found : Option Addr}
    {sl_law_found : Array (Option Value)}
    {oc_law_found kV_law_found dc_law_found pm_law_found cd_law_found ct_law_found : Value}
    {od_law_words an_law_words : Option Addr}
    {sl_law_words : Array (Option Value)}
    {oc_law_words kV_law_words dc_law_words pm_law_words cd_law_words ct_law_words : Value}
    {od_law_taken an_law_taken : Option Addr}
    {sl_law_taken : Array (Option Value)}
    {oc_law_taken kV_law_taken dc_law_taken pm_law_taken cd_law_taken ct_law_taken : Value}
    {od_law_due an_law_due : Option Addr}
    {sl_law_due : Array (Option Value)}
    {oc_law_due kV_law_due dc_law_due pm_law_due cd_law_due ct_law_due : Value}
    {od_Net_gates an_Net_gates : Option Addr}
    {sl_Net_gates : Array (Option Value)}
    {oc_Net_gates kV_Net_gates dc_Net_gates pm_Net_gates cd_Net_gates ct_Net_gates : Value}
    {od_law an_law : Option Addr}
    {sl_law : Array (Option Value)}
    {oc_law kV_law dc_law pm_law cd_law ct_law : Value}
    {tk_MOST_BITS : Tok}
    {tk_MOST_GATES : Tok}
    {tk_MOST_LINES : Tok}
    (A_BackError : PySem.W.nsIn K mainGlobals (PySem.Str.ofString "BackError") = some (some (.ref C_BackError)))
    (A_BadNet : PySem.W.nsIn K mainGlobals (PySem.Str.ofString "BadNet") = some (some (.ref C_BadNet)))
    (A_BadBits : PySem.W.nsIn K mainGlobals (PySem.Str.ofString "BadBits") = some (some (.ref C_BadBits)))
    (A_BadTable : PySem.W.nsIn K mainGlobals (PySem.Str.ofString "BadTable") = some (some (.ref C_BadTable)))
    (A_NotClean : PySem.W.nsIn K mainGlobals (PySem.Str.ofString "NotClean") = some (some (.ref C_NotClean)))
    (A_Net : PySem.W.nsIn K mainGlobals (PySem.Str.ofString "Net") = some (some (.ref C_Net)))
    (a_law_draws : PySem.W.nsIn K mainGlobals (PySem.Str.ofString "_law_draws") = some (some (.ref f_law_draws)))
    (l_law_draws : K.lookup f_law_draws = some ⟨oc_law_draws, od_law_draws, .func (PySem.W.fnOf (PySem.Str.ofString "_law_draws") "_law_draws" (defArgs s_law_draws) (defBody s_law_draws) (defScope s_law_draws) .none kV_law_draws dc_law_draws pm_law_draws an_law_draws cd_law_draws ct_law_draws), sl_law_draws⟩)
    (c_law_draws : PySem.W.codeIn K cd_law_draws "_law_draws" = true)
    (k_law_draws : PySem.W.keepIn K (.ref f_law_draws) = true)
    (a_law_gates : PySem.W.nsIn K mainGlobals (PySem.Str.ofString "_law_gates") = some (some (.ref f_law_gates)))
    (l_law_gates : K.lookup f_law_gates = some ⟨oc_law_gates, od_law_gates, .func (PySem.W.fnOf (PySem.Str.ofString "_law_gates") "_law_gates" (defArgs s_law_gates) (defBody s_law_gates) (defScope s_law_gates) .none kV_law_gates dc_law_gates pm_law_gates an_law_gates cd_law_gates ct_law_gates), sl_law_gates⟩)
    (c_law_gates : PySem.W.codeIn K cd_law_gates "_law_gates" = true)
    (k_law_gates : PySem.W.keepIn K (.ref f_law_gates) = true)
    (a_is_whole : PySem.W.nsIn K mainGlobals (PySem.Str.ofString "is_whole") = some (some (.ref f_is_whole)))
    (l_is_whole : K.lookup f_is_whole = some ⟨oc_is_whole, od_is_whole, .func (PySem.W.fnOf (PySem.Str.ofString "is_whole") "is_whole" (defArgs s_is_whole) (defBody s_is_whole) (defScope s_is_whole) .none kV_is_whole dc_is_whole pm_is_whole an_is_whole cd_is_whole ct_is_whole), sl_is_whole⟩)
    (c_is_whole : PySem.W.codeIn K cd_is_whole "is_whole" = true)
    (k_is_whole : PySem.W.keepIn K (.ref f_is_whole) = true)
    (a_is_number : PySem.W.nsIn K mainGlobals (PySem.Str.ofString "is_number") = some (some (.ref f_is_number)))
    (l_is_number : K.lookup f_is_number = some ⟨oc_is_number, od_is_number, .func (PySem.W.fnOf (PySem.Str.ofString "is_number") "is_number" (defArgs s_is_number) (defBody s_is_number) (defScope s_is_number) .none kV_is_number dc_is_number pm_is_number an_is_number cd_is_number ct_is_number), sl_is_number⟩)
    (c_is_number : PySem.W.codeIn K cd_is_number "is_number" = true)
    (k_is_number : PySem.W.keepIn K (.ref f_is_number) = true)
    (a_are_numbers : PySem.W.nsIn K mainGlobals (PySem.Str.ofString "are_numbers") = some (some (.ref f_are_numbers)))
    (l_are_numbers : K.lookup f_are_numbers = some ⟨oc_are_numbers, od_are_numbers, .func (PySem.W.fnOf (PySem.Str.ofString "are_numbers") "are_numbers" (defArgs s_are_numbers) (defBody s_are_numbers) (defScope s_are_numbers) .none kV_are_numbers dc_are_numbers pm_are_numbers an_are_numbers cd_are_numbers ct_are_numbers), sl_are_numbers⟩)
    (c_are_numbers : PySem.W.codeIn K cd_are_numbers "are_numbers" = true)
    (k_are_numbers : PySem.W.keepIn K (.ref f_are_numbers) = true)
    (a_are_controls : PySem.W.nsIn K mainGlobals (PySem.Str.ofString "are_controls") = some (some (.ref f_are_controls)))
    (l_are_controls : K.lookup f_are_controls = some ⟨oc_are_controls, od_are_controls, .func (PySem.W.fnOf (PySem.Str.ofString "are_controls") "are_controls" (defArgs s_are_controls) (defBody s_are_controls) (defScope s_are_controls) .none kV_are_controls dc_are_controls pm_are_controls an_are_controls cd_are_controls ct_are_controls), sl_are_controls⟩)
    (c_are_controls : PySem.W.codeIn K cd_are_controls "are_controls" = true)
    (k_are_controls : PySem.W.keepIn K (.ref f_are_controls) = true)
    (a_is_gate : PySem.W.nsIn K mainGlobals (PySem.Str.ofString "is_gate") = some (some (.ref f_is_gate)))
    (l_is_gate : K.lookup f_is_gate = some ⟨oc_is_gate, od_is_gate, .func (PySem.W.fnOf (PySem.Str.ofString "is_gate") "is_gate" (defArgs s_is_gate) (defBody s_is_gate) (defScope s_is_gate) .none kV_is_gate dc_is_gate pm_is_gate an_is_gate cd_is_gate ct_is_gate), sl_is_gate⟩)
    (c_is_gate : PySem.W.codeIn K cd_is_gate "is_gate" = true)
    (k_is_gate : PySem.W.keepIn K (.ref f_is_gate) = true)
    (a_Net_init : PySem.W.findIn K (.ref C_Net) (PySem.Str.ofString "__init__") = some (some (.ref f_Net_init)))
    (i_Net_init : PySem.W.isFn K (.ref f_Net_init) = true)
    (l_Net_init : K.lookup f_Net_init = some ⟨oc_Net_init, od_Net_init, .func (PySem.W.fnOf (PySem.Str.ofString "__init__") "Net.__init__" (defArgs s_Net_init) (defBody s_Net_init) (defScope s_Net_init) .none kV_Net_init dc_Net_init pm_Net_init an_Net_init cd_Net_init ct_Net_init), sl_Net_init⟩)
    (c_Net_init : PySem.W.codeIn K cd_Net_init "Net.__init__" = true)
    (k_Net_init : PySem.W.keepIn K (.ref f_Net_init) = true)
    (a_bits_of_number : PySem.W.nsIn K mainGlobals (PySem.Str.ofString "bits_of_number") = some (some (.ref f_bits_of_number)))
    (l_bits_of_number : K.lookup f_bits_of_number = some ⟨oc_bits_of_number, od_bits_of_number, .func (PySem.W.fnOf (PySem.Str.ofString "bits_of_number") "bits_of_number" (defArgs s_bits_of_number) (defBody s_bits_of_number) (defScope s_bits_of_number) .none kV_bits_of_number dc_bits_of_number pm_bits_of_number an_bits_of_number cd_bits_of_number ct_bits_of_number), sl_bits_of_number⟩)
    (c_bits_of_number : PySem.W.codeIn K cd_bits_of_number "bits_of_number" = true)
    (k_bits_of_number : PySem.W.keepIn K (.ref f_bits_of_number) = true)
    (a_words_in : PySem.W.nsIn K mainGlobals (PySem.Str.ofString "words_in") = some (some (.ref f_words_in)))
    (l_words_in : K.lookup f_words_in = some ⟨oc_words_in, od_words_in, .func (PySem.W.fnOf (PySem.Str.ofString "words_in") "words_in" (defArgs s_words_in) (defBody s_words_in) (defScope s_words_in) .none kV_words_in dc_words_in pm_words_in an_words_in cd_words_in ct_words_in), sl_words_in⟩)
    (c_words_in : PySem.W.codeIn K cd_words_in "words_in" = true)
    (k_words_in : PySem.W.keepIn K (.ref f_words_in) = true)
    (a_Net__need_bits : PySem.W.findIn K (.ref C_Net) (PySem.Str.ofString "_need_bits") = some (some (.ref f_Net__need_bits)))
    (i_Net__need_bits : PySem.W.isFn K (.ref f_Net__need_bits) = true)
    (l_Net__need_bits : K.lookup f_Net__need_bits = some ⟨oc_Net__need_bits, od_Net__need_bits, .func (PySem.W.fnOf (PySem.Str.ofString "_need_bits") "Net._need_bits" (defArgs s_Net__need_bits) (defBody s_Net__need_bits) (defScope s_Net__need_bits) .none kV_Net__need_bits dc_Net__need_bits pm_Net__need_bits an_Net__need_bits cd_Net__need_bits ct_Net__need_bits), sl_Net__need_bits⟩)
    (c_Net__need_bits : PySem.W.codeIn K cd_Net__need_bits "Net._need_bits" = true)
    (k_Net__need_bits : PySem.W.keepIn K (.ref f_Net__need_bits) = true)
    (a_passed : PySem.W.nsIn K mainGlobals (PySem.Str.ofString "passed") = some (some (.ref f_passed)))
    (l_passed : K.lookup f_passed = some ⟨oc_passed, od_passed, .func (PySem.W.fnOf (PySem.Str.ofString "passed") "passed" (defArgs s_passed) (defBody s_passed) (defScope s_passed) .none kV_passed dc_passed pm_passed an_passed cd_passed ct_passed), sl_passed⟩)
    (c_passed : PySem.W.codeIn K cd_passed "passed" = true)
    (k_passed : PySem.W.keepIn K (.ref f_passed) = true)
    (a_Net_run : PySem.W.findIn K (.ref C_Net) (PySem.Str.ofString "run") = some (some (.ref f_Net_run)))
    (i_Net_run : PySem.W.isFn K (.ref f_Net_run) = true)
    (l_Net_run : K.lookup f_Net_run = some ⟨oc_Net_run, od_Net_run, .func (PySem.W.fnOf (PySem.Str.ofString "run") "Net.run" (defArgs s_Net_run) (defBody s_Net_run) (defScope s_Net_run) .none kV_Net_run dc_Net_run pm_Net_run an_Net_run cd_Net_run ct_Net_run), sl_Net_run⟩)
    (c_Net_run : PySem.W.codeIn K cd_Net_run "Net.run" = true)
    (k_Net_run : PySem.W.keepIn K (.ref f_Net_run) = true)
    (a_table_of : PySem.W.nsIn K mainGlobals (PySem.Str.ofString "table_of") = some (some (.ref f_table_of)))
    (l_table_of : K.lookup f_table_of = some ⟨oc_table_of, od_table_of, .func (PySem.W.fnOf (PySem.Str.ofString "table_of") "table_of" (defArgs s_table_of) (defBody s_table_of) (defScope s_table_of) .none kV_table_of dc_table_of pm_table_of an_table_of cd_table_of ct_table_of), sl_table_of⟩)
    (c_table_of : PySem.W.codeIn K cd_table_of "table_of" = true)
    (k_table_of : PySem.W.keepIn K (.ref f_table_of) = true)
    (a_law_found : PySem.W.nsIn K mainGlobals (PySem.Str.ofString "_law_found") = some (some (.ref f_law_found)))
    (l_law_found : K.lookup f_law_found = some ⟨oc_law_found, od_law_found, .func (PySem.W.fnOf (PySem.Str.ofString "_law_found") "_law_found" (defArgs s_law_found) (defBody s_law_found) (defScope s_law_found) .none kV_law_found dc_law_found pm_law_found an_law_found cd_law_found ct_law_found), sl_law_found⟩)
    (c_law_found : PySem.W.codeIn K cd_law_found "_law_found" = true)
    (k_law_found : PySem.W.keepIn K (.ref f_law_found) = true)
    (a_law_words : PySem.W.nsIn K mainGlobals (PySem.Str.ofString "_law_words") = some (some (.ref f_law_words)))
    (l_law_words : K.lookup f_law_words = some ⟨oc_law_words, od_law_words, .func (PySem.W.fnOf (PySem.Str.ofString "_law_words") "_law_words" (defArgs s_law_words) (defBody s_law_words) (defScope s_law_words) .none kV_law_words dc_law_words pm_law_words an_law_words cd_law_words ct_law_words), sl_law_words⟩)
    (c_law_words : PySem.W.codeIn K cd_law_words "_law_words" = true)
    (k_law_words : PySem.W.keepIn K (.ref f_law_words) = true)
    (a_law_taken : PySem.W.nsIn K mainGlobals (PySem.Str.ofString "_law_taken") = some (some (.ref f_law_taken)))
    (l_law_taken : K.lookup f_law_taken = some ⟨oc_law_taken, od_law_taken, .func (PySem.W.fnOf (PySem.Str.ofString "_law_taken") "_law_taken" (defArgs s_law_taken) (defBody s_law_taken) (defScope s_law_taken) .none kV_law_taken dc_law_taken pm_law_taken an_law_taken cd_law_taken ct_law_taken), sl_law_taken⟩)
    (c_law_taken : PySem.W.codeIn K cd_law_taken "_law_taken" = true)
    (k_law_taken : PySem.W.keepIn K (.ref f_law_taken) = true)
    (a_law_due : PySem.W.nsIn K mainGlobals (PySem.Str.ofString "_law_due") = some (some (.ref f_law_due)))
    (l_law_due : K.lookup f_law_due = some ⟨oc_law_due, od_law_due, .func (PySem.W.fnOf (PySem.Str.ofString "_law_due") "_law_due" (defArgs s_law_due) (defBody s_law_due) (defScope s_law_due) .none kV_law_due dc_law_due pm_law_due an_law_due cd_law_due ct_law_due), sl_law_due⟩)
    (c_law_due : PySem.W.codeIn K cd_law_due "_law_due" = true)
    (k_law_due : PySem.W.keepIn K (.ref f_law_due) = true)
    (a_Net_gates : PySem.W.findIn K (.ref C_Net) (PySem.Str.ofString "gates") = some (some (.ref f_Net_gates)))
    (i_Net_gates : PySem.W.isFn K (.ref f_Net_gates) = true)
    (l_Net_gates : K.lookup f_Net_gates = some ⟨oc_Net_gates, od_Net_gates, .func (PySem.W.fnOf (PySem.Str.ofString "gates") "Net.gates" (defArgs s_Net_gates) (defBody s_Net_gates) (defScope s_Net_gates) .none kV_Net_gates dc_Net_gates pm_Net_gates an_Net_gates cd_Net_gates ct_Net_gates), sl_Net_gates⟩)
    (c_Net_gates : PySem.W.codeIn K cd_Net_gates "Net.gates" = true)
    (k_Net_gates : PySem.W.keepIn K (.ref f_Net_gates) = true)
    (a_law : PySem.W.nsIn K mainGlobals (PySem.Str.ofString "law") = some (some (.ref f_law)))
    (l_law : K.lookup f_law = some ⟨oc_law, od_law, .func (PySem.W.fnOf (PySem.Str.ofString "law") "law" (defArgs s_law) (defBody s_law) (defScope s_law) .none kV_law dc_law pm_law an_law cd_law ct_law), sl_law⟩)
    (c_law : PySem.W.codeIn K cd_law "law" = true)
    (k_law : PySem.W.keepIn K (.ref f_law) = true)
    (pg_Net : PySem.W.plainGet K C_Net Str.empty = true)
    (hd_Net : PySem.W.hasDictIn K C_Net = true)
    (po_Net : PySem.W.plainOver K C_Net = true)
    (sa_Net : PySem.W.findIn K (.ref C_Net) (PySem.Str.ofString "__setattr__") = some (some (.builtin "object.__setattr__")))
    (mk_Net : PySem.W.makesIn K C_Net = true)
    (kc_Net : PySem.W.keepIn K (.ref C_Net) = true)
    (n_Net_gates : PySem.W.findIn K (.ref C_Net) (PySem.Str.ofString "_gates") = some none)
    (n_Net_join : PySem.W.findIn K (.ref C_Net) (PySem.Str.ofString "join") = some none)
    (n_Net_lines : PySem.W.findIn K (.ref C_Net) (PySem.Str.ofString "lines") = some none)
    (x_BadNet : PySem.W.excIn K C_BadNet [.type "ValueError", .type "Exception", .type "BaseException", .type "object"] "ValueError.__new__" = true)
    (xk_BadNet : PySem.W.keepIn K (.ref C_BadNet) = true)
    (xb_BadNet : PySem.W.subIn K (.ref C_BadNet) (.type "BaseException") = some true)
    (xt_BadNet : PySem.W.typeIn K (.ref C_BadNet) = some (.type "type"))
    (xg_BadNet : PySem.W.findIn K (.ref C_BadNet) "__getattribute__" = some (some (.builtin "BaseException.__getattribute__")))
    (xa_BadNet : PySem.W.findIn K (.ref C_BadNet) "__getattr__" = some none)
    (xd_BadNet : PySem.W.hasDictIn K C_BadNet = true)
    (xc_BadNet : PySem.W.findIn K (.ref C_BadNet) "__class__" = some (some (.builtin "object.__class__")))
    (xm_BadNet : PySem.W.mroIn K C_BadNet (.type "object") = some true)
    (x_BadBits : PySem.W.excIn K C_BadBits [.type "ValueError", .type "Exception", .type "BaseException", .type "object"] "ValueError.__new__" = true)
    (xk_BadBits : PySem.W.keepIn K (.ref C_BadBits) = true)
    (xb_BadBits : PySem.W.subIn K (.ref C_BadBits) (.type "BaseException") = some true)
    (xt_BadBits : PySem.W.typeIn K (.ref C_BadBits) = some (.type "type"))
    (xg_BadBits : PySem.W.findIn K (.ref C_BadBits) "__getattribute__" = some (some (.builtin "BaseException.__getattribute__")))
    (xa_BadBits : PySem.W.findIn K (.ref C_BadBits) "__getattr__" = some none)
    (xd_BadBits : PySem.W.hasDictIn K C_BadBits = true)
    (xc_BadBits : PySem.W.findIn K (.ref C_BadBits) "__class__" = some (some (.builtin "object.__class__")))
    (xm_BadBits : PySem.W.mroIn K C_BadBits (.type "object") = some true)
    (x_BadTable : PySem.W.excIn K C_BadTable [.type "ValueError", .type "Exception", .type "BaseException", .type "object"] "ValueError.__new__" = true)
    (xk_BadTable : PySem.W.keepIn K (.ref C_BadTable) = true)
    (xb_BadTable : PySem.W.subIn K (.ref C_BadTable) (.type "BaseException") = some true)
    (xt_BadTable : PySem.W.typeIn K (.ref C_BadTable) = some (.type "type"))
    (xg_BadTable : PySem.W.findIn K (.ref C_BadTable) "__getattribute__" = some (some (.builtin "BaseException.__getattribute__")))
    (xa_BadTable : PySem.W.findIn K (.ref C_BadTable) "__getattr__" = some none)
    (xd_BadTable : PySem.W.hasDictIn K C_BadTable = true)
    (xc_BadTable : PySem.W.findIn K (.ref C_BadTable) "__class__" = some (some (.builtin "object.__class__")))
    (xm_BadTable : PySem.W.mroIn K C_BadTable (.type "object") = some true)
    (x_NotClean : PySem.W.excIn K C_NotClean [.type "ValueError", .type "Exception", .type "BaseException", .type "object"] "ValueError.__new__" = true)
    (xk_NotClean : PySem.W.keepIn K (.ref C_NotClean) = true)
    (xb_NotClean : PySem.W.subIn K (.ref C_NotClean) (.type "BaseException") = some true)
    (xt_NotClean : PySem.W.typeIn K (.ref C_NotClean) = some (.type "type"))
    (xg_NotClean : PySem.W.findIn K (.ref C_NotClean) "__getattribute__" = some (some (.builtin "BaseException.__getattribute__")))
    (xa_NotClean : PySem.W.findIn K (.ref C_NotClean) "__getattr__" = some none)
    (xd_NotClean : PySem.W.hasDictIn K C_NotClean = true)
    (xc_NotClean : PySem.W.findIn K (.ref C_NotClean) "__class__" = some (some (.builtin "object.__class__")))
    (xm_NotClean : PySem.W.mroIn K C_NotClean (.type "object") = some true)
    (xn_0 : PySem.W.specialIn K (.builtin "object.__class__") "__get__" = some (some (.builtin "getset_descriptor.__get__")))
    (xs_0 : PySem.W.takesIn K (.builtin "object.__class__") = some true)
    (e_BadNet_BackError : PySem.W.exmOne K (.ref C_BadNet) (.ref C_BackError) = some true)
    (e_BadBits_BackError : PySem.W.exmOne K (.ref C_BadBits) (.ref C_BackError) = some true)
    (e_BadTable_BackError : PySem.W.exmOne K (.ref C_BadTable) (.ref C_BackError) = some true)
    (e_NotClean_BackError : PySem.W.exmOne K (.ref C_NotClean) (.ref C_BackError) = some true)
    (k_BadNet_BadTable : PySem.W.kitOne K (.ref C_BadNet) (.ref C_BadTable) = some false)
    (k_BadNet_NotClean : PySem.W.kitOne K (.ref C_BadNet) (.ref C_NotClean) = some false)
    (k_BadBits_BadTable : PySem.W.kitOne K (.ref C_BadBits) (.ref C_BadTable) = some false)
    (k_BadBits_NotClean : PySem.W.kitOne K (.ref C_BadBits) (.ref C_NotClean) = some false)
    (k_BadTable_BadTable : PySem.W.kitOne K (.ref C_BadTable) (.ref C_BadTable) = some true)
    (k_BadTable_NotClean : PySem.W.kitOne K (.ref C_BadTable) (.ref C_NotClean) = some false)
    (k_NotClean_BadTable : PySem.W.kitOne K (.ref C_NotClean) (.ref C_BadTable) = some false)
    (k_NotClean_NotClean : PySem.W.kitOne K (.ref C_NotClean) (.ref C_NotClean) = some true)
    (m_MOST_BITS : PySem.W.nsIn K mainGlobals (PySem.Str.ofString "MOST_BITS") = some (some (.int 6 tk_MOST_BITS)))
    (m_MOST_GATES : PySem.W.nsIn K mainGlobals (PySem.Str.ofString "MOST_GATES") = some (some (.int 100000 tk_MOST_GATES)))
    (m_MOST_LINES : PySem.W.nsIn K mainGlobals (PySem.Str.ofString "MOST_LINES") = some (some (.int 400 tk_MOST_LINES)))
    (z_abs : PySem.W.nsIn K mainGlobals (PySem.Str.ofString "abs") = some none)
    (z_all : PySem.W.nsIn K mainGlobals (PySem.Str.ofString "all") = some none)
    (z_any : PySem.W.nsIn K mainGlobals (PySem.Str.ofString "any") = some none)
    (z_bool : PySem.W.nsIn K mainGlobals (PySem.Str.ofString "bool") = some none)
    (z_int : PySem.W.nsIn K mainGlobals (PySem.Str.ofString "int") = some none)
    (z_isinstance : PySem.W.nsIn K mainGlobals (PySem.Str.ofString "isinstance") = some none)
    (z_len : PySem.W.nsIn K mainGlobals (PySem.Str.ofString "len") = some none)
    (z_list : PySem.W.nsIn K mainGlobals (PySem.Str.ofString "list") = some none)
    (z_max : PySem.W.nsIn K mainGlobals (PySem.Str.ofString "max") = some none)
    (z_min : PySem.W.nsIn K mainGlobals (PySem.Str.ofString "min") = some none)
    (z_range : PySem.W.nsIn K mainGlobals (PySem.Str.ofString "range") = some none)
    (z_reversed : PySem.W.nsIn K mainGlobals (PySem.Str.ofString "reversed") = some none)
    (z_sorted : PySem.W.nsIn K mainGlobals (PySem.Str.ofString "sorted") = some none)
    (z_tuple : PySem.W.nsIn K mainGlobals (PySem.Str.ofString "tuple") = some none)
    : ∃ fd : FuncData, (∀ (s : Shared) (v : Value), BindsTo s fd ⟨[v], []⟩ [("script", v)]) ∧ ∀ base : Heap, K.In base → base.Ns mainGlobals mg → FnOk l.prog w K mg base (L2.CX l.prog w) 8 fa fd ["script"] (lift K 1 sp_top) := by
  have e := hfa.symm.trans (PySem.W.mg_of X G a_law)
  cases e
  let Γ : Ctx := ⟨C_Net, C_BackError, C_BadNet, C_BadBits, C_BadTable, C_NotClean, (fun C X => if C ∈ [C_BadNet, C_BadBits, C_BadTable, C_NotClean] then PySem.W.exmOne K (.ref C) (.ref X) else none), (fun C v => PySem.W.kitOne K (.ref C) v), (if_pos (by simp)).trans e_BadNet_BackError, (if_pos (by simp)).trans e_BadBits_BackError, (if_pos (by simp)).trans e_BadTable_BackError, (if_pos (by simp)).trans e_NotClean_BackError, k_BadNet_BadTable, k_BadNet_NotClean, k_BadBits_BadTable, k_BadBits_NotClean, k_BadTable_BadTable, k_BadTable_NotClean, k_NotClean_BadTable, k_NotClean_NotClean⟩
  have g_BackError : mg (PySem.Str.ofString "BackError") = some (.ref C_BackError) := PySem.W.mg_of X G A_BackError
  have g_BadNet : mg (PySem.Str.ofString "BadNet") = some (.ref C_BadNet) := PySem.W.mg_of X G A_BadNet
  have g_BadBits : mg (PySem.Str.ofString "BadBits") = some (.ref C_BadBits) := PySem.W.mg_of X G A_BadBits
  have g_BadTable : mg (PySem.Str.ofString "BadTable") = some (.ref C_BadTable) := PySem.W.mg_of X G A_BadTable
  have g_NotClean : mg (PySem.Str.ofString "NotClean") = some (.ref C_NotClean) := PySem.W.mg_of X G A_NotClean
  have ro_BadNet : OwnErr K C_BadNet := ⟨x_BadNet, xk_BadNet, xb_BadNet, xt_BadNet⟩
  have xe_BadNet : ExcC K C_BadNet := ⟨xg_BadNet, xa_BadNet, xb_BadNet, xd_BadNet, xc_BadNet, xn_0, xs_0, xm_BadNet⟩
  have ro_BadBits : OwnErr K C_BadBits := ⟨x_BadBits, xk_BadBits, xb_BadBits, xt_BadBits⟩
  have xe_BadBits : ExcC K C_BadBits := ⟨xg_BadBits, xa_BadBits, xb_BadBits, xd_BadBits, xc_BadBits, xn_0, xs_0, xm_BadBits⟩
  have ro_BadTable : OwnErr K C_BadTable := ⟨x_BadTable, xk_BadTable, xb_BadTable, xt_BadTable⟩
  have xe_BadTable : ExcC K C_BadTable := ⟨xg_BadTable, xa_BadTable, xb_BadTable, xd_BadTable, xc_BadTable, xn_0, xs_0, xm_BadTable⟩
  have ro_NotClean : OwnErr K C_NotClean := ⟨x_NotClean, xk_NotClean, xb_NotClean, xt_NotClean⟩
  have xe_NotClean : ExcC K C_NotClean := ⟨xg_NotClean, xa_NotClean, xb_NotClean, xd_NotClean, xc_NotClean, xn_0, xs_0, xm_NotClean⟩
  have exm_ok : ∀ C X b, Γ.exm C X = some b → PySem.W.exmOne K (.ref C) (.ref X) = some b := fun C X b h => by
    have h' : (if C ∈ [C_BadNet, C_BadBits, C_BadTable, C_NotClean] then PySem.W.exmOne K (.ref C) (.ref X) else none) = some b := h
    by_cases hc : C ∈ [C_BadNet, C_BadBits, C_BadTable, C_NotClean]
    · rw [if_pos hc] at h'
      exact h'
    · rw [if_neg hc] at h'
      cases h'
  have exm_cls : ∀ C X b, Γ.exm C X = some b → ExcC K C := fun C X b h => by
    have h' : (if C ∈ [C_BadNet, C_BadBits, C_BadTable, C_NotClean] then PySem.W.exmOne K (.ref C) (.ref X) else none) = some b := h
    by_cases hc : C ∈ [C_BadNet, C_BadBits, C_BadTable, C_NotClean]
    · simp only [List.mem_cons, List.not_mem_nil, or_false] at hc
      rcases hc with rfl | rfl | rfl | rfl
      · exact xe_BadNet
      · exact xe_BadBits
      · exact xe_BadTable
      · exact xe_NotClean
    · rw [if_neg hc] at h'
      cases h'

  have b_abs : mg (PySem.Str.ofString "abs") = none := PySem.W.mg_none_of X G z_abs
  have b_all : mg (PySem.Str.ofString "all") = none := PySem.W.mg_none_of X G z_all
  have b_any : mg (PySem.Str.ofString "any") = none := PySem.W.mg_none_of X G z_any
  have b_bool : mg (PySem.Str.ofString "bool") = none := PySem.W.mg_none_of X G z_bool
  have b_int : mg (PySem.Str.ofString "int") = none := PySem.W.mg_none_of X G z_int
  have b_isinstance : mg (PySem.Str.ofString "isinstance") = none := PySem.W.mg_none_of X G z_isinstance
  have b_len : mg (PySem.Str.ofString "len") = none := PySem.W.mg_none_of X G z_len
  have b_list : mg (PySem.Str.ofString "list") = none := PySem.W.mg_none_of X G z_list
  have b_max : mg (PySem.Str.ofString "max") = none := PySem.W.mg_none_of X G z_max
  have b_min : mg (PySem.Str.ofString "min") = none := PySem.W.mg_none_of X G z_min
  have b_range : mg (PySem.Str.ofString "range") = none := PySem.W.mg_none_of X G z_range
  have b_reversed : mg (PySem.Str.ofString "reversed") = none := PySem.W.mg_none_of X G z_reversed
  have b_sorted : mg (PySem.Str.ofString "sorted") = none := PySem.W.mg_none_of X G z_sorted
  have b_tuple : mg (PySem.Str.ofString "tuple") = none := PySem.W.mg_none_of X G z_tuple
  have cl_Net : ClNet K Γ.Net := ⟨⟨pg_Net, hd_Net, po_Net, sa_Net⟩, n_Net_gates, n_Net_join, n_Net_lines⟩
  have T : Txt K mg Γ := ⟨b_abs, b_all, b_any, b_bool, b_int, b_isinstance, b_len, b_list, b_max, b_min, b_range, b_reversed, b_sorted, b_tuple, ⟨_, PySem.W.mg_of X G m_MOST_BITS⟩, ⟨_, PySem.W.mg_of X G m_MOST_GATES⟩, ⟨_, PySem.W.mg_of X G m_MOST_LINES⟩, cl_Net, g_BackError, g_BadNet, g_BadBits, g_BadTable, g_NotClean, ro_BadNet, ro_BadBits, ro_BadTable, ro_NotClean, exm_ok, exm_cls, fun C v b h => h⟩
  have F_law_draws := fun_mk (st := s_law_draws) l_law_draws c_law_draws k_law_draws
  have B_law_draws := F_law_draws.binds (ps := ["script", "many"]) fun _ _ _ _ _ _ us hl => match us, hl with | [_, _], _ => rfl
  have F_law_gates := fun_mk (st := s_law_gates) l_law_gates c_law_gates k_law_gates
  have B_law_gates := F_law_gates.binds (ps := ["draws", "at", "many", "lines"]) fun _ _ _ _ _ _ us hl => match us, hl with | [_, _, _, _], _ => rfl
  have F_is_whole := fun_mk (st := s_is_whole) l_is_whole c_is_whole k_is_whole
  have B_is_whole := F_is_whole.binds (ps := ["value"]) fun _ _ _ _ _ _ us hl => match us, hl with | [_], _ => rfl
  have F_is_number := fun_mk (st := s_is_number) l_is_number c_is_number k_is_number
  have B_is_number := F_is_number.binds (ps := ["value", "low", "high"]) fun _ _ _ _ _ _ us hl => match us, hl with | [_, _, _], _ => rfl
  have F_are_numbers := fun_mk (st := s_are_numbers) l_are_numbers c_are_numbers k_are_numbers
  have B_are_numbers := F_are_numbers.binds (ps := ["value", "low", "high"]) fun _ _ _ _ _ _ us hl => match us, hl with | [_, _, _], _ => rfl
  have F_are_controls := fun_mk (st := s_are_controls) l_are_controls c_are_controls k_are_controls
  have B_are_controls := F_are_controls.binds (ps := ["value", "lines"]) fun _ _ _ _ _ _ us hl => match us, hl with | [_, _], _ => rfl
  have F_is_gate := fun_mk (st := s_is_gate) l_is_gate c_is_gate k_is_gate
  have B_is_gate := F_is_gate.binds (ps := ["value", "lines"]) fun _ _ _ _ _ _ us hl => match us, hl with | [_, _], _ => rfl
  have F_Net_init := fun_mk (st := s_Net_init) l_Net_init c_Net_init k_Net_init
  have B_Net_init := F_Net_init.binds (ps := ["self", "lines", "gates"]) fun _ _ _ _ _ _ us hl => match us, hl with | [_, _, _], _ => rfl
  have F_bits_of_number := fun_mk (st := s_bits_of_number) l_bits_of_number c_bits_of_number k_bits_of_number
  have B_bits_of_number := F_bits_of_number.binds (ps := ["number", "many"]) fun _ _ _ _ _ _ us hl => match us, hl with | [_, _], _ => rfl
  have F_words_in := fun_mk (st := s_words_in) l_words_in c_words_in k_words_in
  have B_words_in := F_words_in.binds (ps := ["many"]) fun _ _ _ _ _ _ us hl => match us, hl with | [_], _ => rfl
  have F_Net__need_bits := fun_mk (st := s_Net__need_bits) l_Net__need_bits c_Net__need_bits k_Net__need_bits
  have B_Net__need_bits := F_Net__need_bits.binds (ps := ["self", "bits"]) fun _ _ _ _ _ _ us hl => match us, hl with | [_, _], _ => rfl
  have F_passed := fun_mk (st := s_passed) l_passed c_passed k_passed
  have B_passed := F_passed.binds (ps := ["gates", "bits"]) fun _ _ _ _ _ _ us hl => match us, hl with | [_, _], _ => rfl
  have F_Net_run := fun_mk (st := s_Net_run) l_Net_run c_Net_run k_Net_run
  have B_Net_run := F_Net_run.binds (ps := ["self", "bits"]) fun _ _ _ _ _ _ us hl => match us, hl with | [_, _], _ => rfl
  have F_table_of := fun_mk (st := s_table_of) l_table_of c_table_of k_table_of
  have B_table_of := F_table_of.binds (ps := ["net", "k", "m"]) fun _ _ _ _ _ _ us hl => match us, hl with | [_, _, _], _ => rfl
  have F_law_found := fun_mk (st := s_law_found) l_law_found c_law_found k_law_found
  have B_law_found := F_law_found.binds (ps := ["net", "k", "m"]) fun _ _ _ _ _ _ us hl => match us, hl with | [_, _, _], _ => rfl
  have F_law_words := fun_mk (st := s_law_words) l_law_words c_law_words k_law_words
  have B_law_words := F_law_words.binds (ps := ["many"]) fun _ _ _ _ _ _ us hl => match us, hl with | [_], _ => rfl
  have F_law_taken := fun_mk (st := s_law_taken) l_law_taken c_law_taken k_law_taken
  have B_law_taken := F_law_taken.binds (ps := ["gates", "bits"]) fun _ _ _ _ _ _ us hl => match us, hl with | [_, _], _ => rfl
  have F_law_due := fun_mk (st := s_law_due) l_law_due c_law_due k_law_due
  have B_law_due := F_law_due.binds (ps := ["gates", "lines", "k", "m"]) fun _ _ _ _ _ _ us hl => match us, hl with | [_, _, _, _], _ => rfl
  have F_Net_gates := fun_mk (st := s_Net_gates) l_Net_gates c_Net_gates k_Net_gates
  have B_Net_gates := F_Net_gates.binds (ps := ["self"]) fun _ _ _ _ _ _ us hl => match us, hl with | [_], _ => rfl
  have F_law := fun_mk (st := s_law) l_law c_law k_law
  have B_law := F_law.binds (ps := ["script"]) fun _ _ _ _ _ _ us hl => match us, hl with | [_], _ => rfl
  refine ⟨PySem.W.fnOf "law" "law" (defArgs s_law) (defBody s_law) (defScope s_law) .none kV_law dc_law pm_law an_law cd_law ct_law, fun s v => .of_eq rfl, fun base _ _ => ?_⟩
  have G_law_draws : GFn l.prog w K mg base (PySem.Str.ofString "_law_draws") 1 ["script", "many"] (sp_law_draws Γ) := ⟨⟨f_law_draws, _, ok_law_draws F_law_draws T , PySem.W.mg_of X G a_law_draws, k_law_draws, B_law_draws⟩⟩
  have G_law_gates : GFn l.prog w K mg base (PySem.Str.ofString "_law_gates") 1 ["draws", "at", "many", "lines"] (sp_law_gates Γ) := ⟨⟨f_law_gates, _, ok_law_gates F_law_gates T , PySem.W.mg_of X G a_law_gates, k_law_gates, B_law_gates⟩⟩
  have G_is_whole : GFn l.prog w K mg base (PySem.Str.ofString "is_whole") 1 ["value"] (sp_is_whole Γ) := ⟨⟨f_is_whole, _, ok_is_whole F_is_whole T , PySem.W.mg_of X G a_is_whole, k_is_whole, B_is_whole⟩⟩
  have G_is_number : GFn l.prog w K mg base (PySem.Str.ofString "is_number") 2 ["value", "low", "high"] (sp_is_number Γ) := ⟨⟨f_is_number, _, ok_is_number F_is_number T G_is_whole, PySem.W.mg_of X G a_is_number, k_is_number, B_is_number⟩⟩
  have G_are_numbers : GFn l.prog w K mg base (PySem.Str.ofString "are_numbers") 3 ["value", "low", "high"] (sp_are_numbers Γ) := ⟨⟨f_are_numbers, _, ok_are_numbers F_are_numbers T G_is_number, PySem.W.mg_of X G a_are_numbers, k_are_numbers, B_are_numbers⟩⟩
  have G_are_controls : GFn l.prog w K mg base (PySem.Str.ofString "are_controls") 1 ["value", "lines"] (sp_are_controls Γ) := ⟨⟨f_are_controls, _, ok_are_controls F_are_controls T , PySem.W.mg_of X G a_are_controls, k_are_controls, B_are_controls⟩⟩
  have G_is_gate : GFn l.prog w K mg base (PySem.Str.ofString "is_gate") 4 ["value", "lines"] (sp_is_gate Γ) := ⟨⟨f_is_gate, _, ok_is_gate F_is_gate T G_are_numbers G_are_controls, PySem.W.mg_of X G a_is_gate, k_is_gate, B_is_gate⟩⟩
  have G_Net_init : GMk l.prog w K mg base (PySem.Str.ofString "Net") Γ.Net 5 ["self", "lines", "gates"] (sp_Net_init Γ) := ⟨⟨f_Net_init, _, ok_Net_init F_Net_init T G_is_number G_is_gate, PySem.W.mg_of X G A_Net, ⟨mk_Net, a_Net_init, i_Net_init, kc_Net⟩, B_Net_init⟩⟩
  have G_bits_of_number : GFn l.prog w K mg base (PySem.Str.ofString "bits_of_number") 1 ["number", "many"] (sp_bits_of_number Γ) := ⟨⟨f_bits_of_number, _, ok_bits_of_number F_bits_of_number T , PySem.W.mg_of X G a_bits_of_number, k_bits_of_number, B_bits_of_number⟩⟩
  have G_words_in : GFn l.prog w K mg base (PySem.Str.ofString "words_in") 2 ["many"] (sp_words_in Γ) := ⟨⟨f_words_in, _, ok_words_in F_words_in T G_bits_of_number, PySem.W.mg_of X G a_words_in, k_words_in, B_words_in⟩⟩
  have G_Net__need_bits : GMt l.prog w K mg base Γ.Net (PySem.Str.ofString "_need_bits") 4 ["self", "bits"] (sp_Net__need_bits Γ) := ⟨⟨f_Net__need_bits, _, ok_Net__need_bits F_Net__need_bits T G_are_numbers, ⟨a_Net__need_bits, i_Net__need_bits, k_Net__need_bits⟩, B_Net__need_bits⟩⟩
  have G_passed : GFn l.prog w K mg base (PySem.Str.ofString "passed") 1 ["gates", "bits"] (sp_passed Γ) := ⟨⟨f_passed, _, ok_passed F_passed T , PySem.W.mg_of X G a_passed, k_passed, B_passed⟩⟩
  have G_Net_run : GMt l.prog w K mg base Γ.Net (PySem.Str.ofString "run") 5 ["self", "bits"] (sp_Net_run Γ) := ⟨⟨f_Net_run, _, ok_Net_run F_Net_run T G_Net__need_bits G_passed, ⟨a_Net_run, i_Net_run, k_Net_run⟩, B_Net_run⟩⟩
  have G_table_of : GFn l.prog w K mg base (PySem.Str.ofString "table_of") 6 ["net", "k", "m"] (sp_table_of Γ) := ⟨⟨f_table_of, _, ok_table_of F_table_of T G_words_in G_Net_run G_is_number, PySem.W.mg_of X G a_table_of, k_table_of, B_table_of⟩⟩
  have G_law_found : GFn l.prog w K mg base (PySem.Str.ofString "_law_found") 7 ["net", "k", "m"] (sp_law_found Γ) := ⟨⟨f_law_found, _, ok_law_found F_law_found T G_table_of, PySem.W.mg_of X G a_law_found, k_law_found, B_law_found⟩⟩
  have G_law_words : GFn l.prog w K mg base (PySem.Str.ofString "_law_words") 1 ["many"] (sp_law_words Γ) := ⟨⟨f_law_words, _, ok_law_words F_law_words T , PySem.W.mg_of X G a_law_words, k_law_words, B_law_words⟩⟩
  have G_law_taken : GFn l.prog w K mg base (PySem.Str.ofString "_law_taken") 1 ["gates", "bits"] (sp_law_taken Γ) := ⟨⟨f_law_taken, _, ok_law_taken F_law_taken T , PySem.W.mg_of X G a_law_taken, k_law_taken, B_law_taken⟩⟩
  have G_law_due : GFn l.prog w K mg base (PySem.Str.ofString "_law_due") 2 ["gates", "lines", "k", "m"] (sp_law_due Γ) := ⟨⟨f_law_due, _, ok_law_due F_law_due T G_law_words G_law_taken, PySem.W.mg_of X G a_law_due, k_law_due, B_law_due⟩⟩
  have G_Net_gates : GMt l.prog w K mg base Γ.Net (PySem.Str.ofString "gates") 1 ["self"] (sp_Net_gates Γ) := ⟨⟨f_Net_gates, _, ok_Net_gates F_Net_gates T , ⟨a_Net_gates, i_Net_gates, k_Net_gates⟩, B_Net_gates⟩⟩
  have r := ok_law (P := l.prog) (w := w) (base := base) F_law T G_law_draws G_law_gates G_Net_init G_law_found G_law_due G_Net_gates
  exact r
theorem walk {l : PySem.W.OpenLaw} {q : Program} {loose : List Str} {XP : (Str → Option Value) → Heap → Prop} {YP : World → Heap → Prop} {d : DefRec} {K : Params → PySem.W.Frag} (hn : l.most = some 63) (hdf : d.params.defaults = [])
    (hY : ∀ (w : World) (h : Heap), YP w h → (K w.params).In h)
    (F : ∀ (w : World) (mg : Str → Option Value) (fa : Addr) (h : Heap), (K w.params).In h → h.Ns mainGlobals mg → mg d.name = some (.ref fa) →
      ∃ fd : FuncData, (∀ (s : Shared) (u : Value), BindsTo s fd ⟨[u], []⟩ [("script", u)]) ∧ ∀ base : Heap, (K w.params).In base → base.Ns mainGlobals mg → FnOk l.prog w (K w.params) mg base (L2.CX l.prog w) 8 fa fd ["script"] (lift (K w.params) 1 sp_top)) :
    PySem.W.WalkO q loose XP YP l.row.toRowW d [] (fun f vs => PySem.call f vs) :=
  L2.walk_of (n := 63) (k := 8) (x := "script") (CX := fun w => L2.CX l.prog w) (sp := fun w => lift (K w.params) 1 sp_top) hn (by decide) hdf ⟨rfl, by decide, by decide⟩ hY F (fun w H a ns hl _ hS => top_law hl hS) fun _ _ _ _ _ z => top_cx z
end My
set_option Elab.async false
set_option linter.all false
open PySem PySem.W PyProof.Rows
set_option maxRecDepth 100000 in
set_option maxHeartbeats 0 in
theorem PySem.Challenge.cw_backstair_k51_clean_nets_holds : PySem.Challenge.rw_backstair_k51_clean_nets.Holds := by
  w_on; o_law; k_head; (case hw => w_witness2)
  k_fill
  refine My.walk (l := PySem.Challenge.rw_backstair_k51_clean_nets) rfl rfl (fun w h Y => PySem.W.kIn_of Y) ?F
  case F =>
    intro w mg fa h KX G hmg
    refine' My.all_mk KX G hmg ?A_BackError ?A_BadNet ?A_BadBits ?A_BadTable ?A_NotClean ?A_Net ?a_law_draws ?l_law_draws ?c_law_draws ?k_law_draws ?a_law_gates ?l_law_gates ?c_law_gates ?k_law_gates ?a_is_whole ?l_is_whole ?c_is_whole ?k_is_whole ?a_is_number ?l_is_number ?c_is_number ?k_is_number ?a_are_numbers ?l_are_numbers ?c_are_numbers ?k_are_numbers ?a_are_controls ?l_are_controls ?c_are_controls ?k_are_controls ?a_is_gate ?l_is_gate ?c_is_gate ?k_is_gate ?a_Net_init ?i_Net_init ?l_Net_init ?c_Net_init ?k_Net_init ?a_bits_of_number ?l_bits_of_number ?c_bits_of_number ?k_bits_of_number ?a_words_in ?l_words_in ?c_words_in ?k_words_in ?a_Net__need_bits ?i_Net__need_bits ?l_Net__need_bits ?c_Net__need_bits ?k_Net__need_bits ?a_passed ?l_passed ?c_passed ?k_passed ?a_Net_run ?i_Net_run ?l_Net_run ?c_Net_run ?k_Net_run ?a_table_of ?l_table_of ?c_table_of ?k_table_of ?a_law_found ?l_law_found ?c_law_found ?k_law_found ?a_law_words ?l_law_words ?c_law_words ?k_law_words ?a_law_taken ?l_law_taken ?c_law_taken ?k_law_taken ?a_law_due ?l_law_due ?c_law_due ?k_law_due ?a_Net_gates ?i_Net_gates ?l_Net_gates ?c_Net_gates ?k_Net_gates ?a_law ?l_law ?c_law ?k_law ?pg_Net ?hd_Net ?po_Net ?sa_Net ?mk_Net ?kc_Net ?n_Net_gates ?n_Net_join ?n_Net_lines ?x_BadNet ?xk_BadNet ?xb_BadNet ?xt_BadNet ?xg_BadNet ?xa_BadNet ?xd_BadNet ?xc_BadNet ?xm_BadNet ?x_BadBits ?xk_BadBits ?xb_BadBits ?xt_BadBits ?xg_BadBits ?xa_BadBits ?xd_BadBits ?xc_BadBits ?xm_BadBits ?x_BadTable ?xk_BadTable ?xb_BadTable ?xt_BadTable ?xg_BadTable ?xa_BadTable ?xd_BadTable ?xc_BadTable ?xm_BadTable ?x_NotClean ?xk_NotClean ?xb_NotClean ?xt_NotClean ?xg_NotClean ?xa_NotClean ?xd_NotClean ?xc_NotClean ?xm_NotClean ?xn_0 ?xs_0 ?e_BadNet_BackError ?e_BadBits_BackError ?e_BadTable_BackError ?e_NotClean_BackError ?k_BadNet_BadTable ?k_BadNet_NotClean ?k_BadBits_BadTable ?k_BadBits_NotClean ?k_BadTable_BadTable ?k_BadTable_NotClean ?k_NotClean_BadTable ?k_NotClean_NotClean ?m_MOST_BITS ?m_MOST_GATES ?m_MOST_LINES ?z_abs ?z_all ?z_any ?z_bool ?z_int ?z_isinstance ?z_len ?z_list ?z_max ?z_min ?z_range ?z_reversed ?z_sorted ?z_tuple
    (case A_BackError => k_is)
    (case A_BadNet => k_is)
    (case A_BadBits => k_is)
    (case A_BadTable => k_is)
    (case A_NotClean => k_is)
    (case A_Net => k_is)
    (case a_law_draws => k_is)
    (case l_law_draws => k_is)
    (case c_law_draws => k_is)
    (case k_law_draws => k_is)
    (case a_law_gates => k_is)
    (case l_law_gates => k_is)
    (case c_law_gates => k_is)
    (case k_law_gates => k_is)
    (case a_is_whole => k_is)
    (case l_is_whole => k_is)
    (case c_is_whole => k_is)
    (case k_is_whole => k_is)
    (case a_is_number => k_is)
    (case l_is_number => k_is)
    (case c_is_number => k_is)
    (case k_is_number => k_is)
    (case a_are_numbers => k_is)
    (case l_are_numbers => k_is)
    (case c_are_numbers => k_is)
    (case k_are_numbers => k_is)
    (case a_are_controls => k_is)
    (case l_are_controls => k_is)
    (case c_are_controls => k_is)
    (case k_are_controls => k_is)
    (case a_is_gate => k_is)
    (case l_is_gate => k_is)
    (case c_is_gate => k_is)
    (case k_is_gate => k_is)
    (case a_Net_init => k_is)
    (case i_Net_init => k_is)
    (case l_Net_init => k_is)
    (case c_Net_init => k_is)
    (case k_Net_init => k_is)
    (case a_bits_of_number => k_is)
    (case l_bits_of_number => k_is)
    (case c_bits_of_number => k_is)
    (case k_bits_of_number => k_is)
    (case a_words_in => k_is)
    (case l_words_in => k_is)
    (case c_words_in => k_is)
    (case k_words_in => k_is)
    (case a_Net__need_bits => k_is)
    (case i_Net__need_bits => k_is)
    (case l_Net__need_bits => k_is)
    (case c_Net__need_bits => k_is)
    (case k_Net__need_bits => k_is)
    (case a_passed => k_is)
    (case l_passed => k_is)
    (case c_passed => k_is)
    (case k_passed => k_is)
    (case a_Net_run => k_is)
    (case i_Net_run => k_is)
    (case l_Net_run => k_is)
    (case c_Net_run => k_is)
    (case k_Net_run => k_is)
    (case a_table_of => k_is)
    (case l_table_of => k_is)
    (case c_table_of => k_is)
    (case k_table_of => k_is)
    (case a_law_found => k_is)
    (case l_law_found => k_is)
    (case c_law_found => k_is)
    (case k_law_found => k_is)
    (case a_law_words => k_is)
    (case l_law_words => k_is)
    (case c_law_words => k_is)
    (case k_law_words => k_is)
    (case a_law_taken => k_is)
    (case l_law_taken => k_is)
    (case c_law_taken => k_is)
    (case k_law_taken => k_is)
    (case a_law_due => k_is)
    (case l_law_due => k_is)
    (case c_law_due => k_is)
    (case k_law_due => k_is)
    (case a_Net_gates => k_is)
    (case i_Net_gates => k_is)
    (case l_Net_gates => k_is)
    (case c_Net_gates => k_is)
    (case k_Net_gates => k_is)
    (case a_law => k_is)
    (case l_law => k_is)
    (case c_law => k_is)
    (case k_law => k_is)
    (case pg_Net => k_is)
    (case hd_Net => k_is)
    (case po_Net => k_is)
    (case sa_Net => k_is)
    (case mk_Net => k_is)
    (case kc_Net => k_is)
    (case n_Net_gates => k_is)
    (case n_Net_join => k_is)
    (case n_Net_lines => k_is)
    (case x_BadNet => k_exc)
    (case xk_BadNet => k_is)
    (case xb_BadNet => k_is)
    (case xt_BadNet => k_is)
    (case xg_BadNet => k_is)
    (case xa_BadNet => k_is)
    (case xd_BadNet => k_is)
    (case xc_BadNet => k_is)
    (case xm_BadNet => k_is)
    (case x_BadBits => k_exc)
    (case xk_BadBits => k_is)
    (case xb_BadBits => k_is)
    (case xt_BadBits => k_is)
    (case xg_BadBits => k_is)
    (case xa_BadBits => k_is)
    (case xd_BadBits => k_is)
    (case xc_BadBits => k_is)
    (case xm_BadBits => k_is)
    (case x_BadTable => k_exc)
    (case xk_BadTable => k_is)
    (case xb_BadTable => k_is)
    (case xt_BadTable => k_is)
    (case xg_BadTable => k_is)
    (case xa_BadTable => k_is)
    (case xd_BadTable => k_is)
    (case xc_BadTable => k_is)
    (case xm_BadTable => k_is)
    (case x_NotClean => k_exc)
    (case xk_NotClean => k_is)
    (case xb_NotClean => k_is)
    (case xt_NotClean => k_is)
    (case xg_NotClean => k_is)
    (case xa_NotClean => k_is)
    (case xd_NotClean => k_is)
    (case xc_NotClean => k_is)
    (case xm_NotClean => k_is)
    (case xn_0 => k_is)
    (case xs_0 => k_is)
    (case e_BadNet_BackError => kts_exm)
    (case e_BadBits_BackError => kts_exm)
    (case e_BadTable_BackError => kts_exm)
    (case e_NotClean_BackError => kts_exm)
    (case k_BadNet_BadTable => kit_is)
    (case k_BadNet_NotClean => kit_is)
    (case k_BadBits_BadTable => kit_is)
    (case k_BadBits_NotClean => kit_is)
    (case k_BadTable_BadTable => kit_is)
    (case k_BadTable_NotClean => kit_is)
    (case k_NotClean_BadTable => kit_is)
    (case k_NotClean_NotClean => kit_is)
    (case m_MOST_BITS => k_is)
    (case m_MOST_GATES => k_is)
    (case m_MOST_LINES => k_is)
    (case z_abs => k_is)
    (case z_all => k_is)
    (case z_any => k_is)
    (case z_bool => k_is)
    (case z_int => k_is)
    (case z_isinstance => k_is)
    (case z_len => k_is)
    (case z_list => k_is)
    (case z_max => k_is)
    (case z_min => k_is)
    (case z_range => k_is)
    (case z_reversed => k_is)
    (case z_sorted => k_is)
    (case z_tuple => k_is)
