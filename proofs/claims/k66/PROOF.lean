import PyProof.Rows.All
import Wide.All
import OpenK.AllK
import Wide.FinOn
import KE.KeyNested
import PyProof.DictRoadsH
import HandS.Dict
import HandS.ForMost
import HandS.ForExc
import HandS.TupAny
import HandS.Rev
import HandS.Conv
import HandS.IsInst
import HandS.EndBits
import PyProof.WalksMore
import HandS.TupMul
import HandS.ExcInit
import HandS.ExcIs
import HandS.ExcOwn
import HandS.Style
import HandS.SortInts
import HandS.Flow
import PyProof.P3In
import HandS.Zip
import HandS.RevRange
import HandS.Text
import HandS.ExcField
import HandS.FStr
import HandS.Deep
import HandS.Codes
import HandS.Sort
import HandS.Strs
import KE.SortData
import HandS.DictComp
import KE.GoesMore
import KE.GoesEnum
import KE.KDictCopyH
import KE.KDictOf
import KE.KDictDisplayH
import HandS.TupLen
import PySem.Challenge.RW_backstair_k66_pasts_that_are_none
set_option Elab.async false
section
open PySem PySem.W PyProof.Rows
set_option maxRecDepth 100000 in
set_option maxHeartbeats 0 in
theorem My.early (H : PySem.Challenge.rw_backstair_k66_pasts_that_are_none.row.wellSaid = true → PySem.Challenge.rw_backstair_k66_pasts_that_are_none.row.Holds) : PySem.Challenge.rw_backstair_k66_pasts_that_are_none.Holds := by
  w_on; o_law
  exact H (by assumption)
end
set_option Elab.async false
set_option linter.all false
set_option maxRecDepth 100000
set_option maxHeartbeats 2000000
/-! PD: dicts whose keys are any values up to ==: ints beside (nested) tuples, in one dict. -/
namespace PD
open PySem
open Sem (wp)
abbrev Row := NestedKey × Value × Value
def ent (w : World) (x : Row) : DictEntry := ⟨x.1.hash w, x.2.1, x.2.2⟩
def Keyed (h : Heap) (xs : List Row) : Prop := ∀ x ∈ xs, NestedIs h x.1 x.2.1 ∧ x.1.depth ≤ 8
def TabE (w : World) (h : Heap) (d : Addr) (ep : Nat) (xs : List Row) : Prop :=
  ∃ ob es, h.get? d = some ob ∧ ob.ExactDict ∧ ob.data = .dict es ep ∧ es.toList = xs.map (ent w) ∧ (xs.map (·.1)).Nodup
def Tab (w : World) (h : Heap) (d : Addr) (xs : List Row) : Prop :=
  ∃ ob es ep, h.get? d = some ob ∧ ob.ExactDict ∧ ob.data = .dict es ep ∧ es.toList = xs.map (ent w) ∧ (xs.map (·.1)).Nodup
theorem TabE.tab {w : World} {h : Heap} {d : Addr} {ep : Nat} {xs : List Row} (t : TabE w h d ep xs) : Tab w h d xs := let ⟨ob, es, q⟩ := t; ⟨ob, es, ep, q⟩
def at_ (xs : List Row) (k : NestedKey) : Option Value := (xs.find? fun x => decide (x.1 = k)).map (·.2.2)
theorem ent_at {w : World} {es : Array DictEntry} {xs : List Row} (hE : es.toList = xs.map (ent w)) (j : Nat) : es[j]? = (xs[j]?).map (ent w) := by
  have h := congrArg (fun l => l[j]?) hE
  simp only [List.getElem?_map] at h
  rw [← h]
  simp
theorem ent_size {w : World} {es : Array DictEntry} {xs : List Row} (hE : es.toList = xs.map (ent w)) : es.size = xs.length := by
  have h := congrArg List.length hE
  simpa using h
theorem mem_places {n : Nat} {f : Nat → Option Int} {h : Int} {i : Nat} : i ∈ placesWithHash n f h ↔ i < n ∧ f i = some h := by
  unfold placesWithHash
  rw [List.mem_filter, List.mem_range, beq_iff_eq]
theorem at_some : ∀ {xs : List Row} {j : Nat} {k : NestedKey} {p : Value × Value}, (xs.map (·.1)).Nodup → xs[j]? = some (k, p) → at_ xs k = some p.2
  | [], _, _, _, _, h => by simp at h
  | x :: r, 0, k, p, _, h => by
    have e : x = (k, p) := by simpa using h
    subst e
    unfold at_
    rw [List.find?_cons, decide_eq_true rfl]
    rfl
  | x :: r, j + 1, k, p, hn, h => by
    rw [List.map_cons, List.nodup_cons] at hn
    have h' : r[j]? = some (k, p) := h
    have ne : x.1 ≠ k := fun e => hn.1 (by rw [e]; exact List.mem_map.mpr ⟨_, List.mem_of_getElem? h', rfl⟩)
    have ih := at_some hn.2 h'
    unfold at_ at ih ⊢
    rw [List.find?_cons, decide_eq_false ne]
    exact ih
theorem at_none {xs : List Row} {k : NestedKey} (h : ∀ (j : Nat) (p : Value × Value), xs[j]? ≠ some (k, p)) : at_ xs k = none := by
  unfold at_
  rw [Option.map_eq_none_iff, List.find?_eq_none]
  intro x hx
  obtain ⟨j, hj⟩ := List.getElem?_of_mem hx
  intro e
  have e' : x.1 = k := by simpa using e
  exact h j x.2 (by rw [hj, ← e'])
section
variable {prog : Program} {w : World} {A : Around} {E : Value → Shared → Prop} {s : Shared}
/-- u == v of keys -/
theorem eq_keys {x y : NestedKey} {a b : Value} {Q : Bool → Shared → Prop} (hu : A.units + 8 < cLine) (hx : NestedIs s.heap x a) (hy : NestedIs s.heap y b) (dx : x.depth ≤ 8) (hQ : Q (decide (x = y)) s) : wpAny (model prog w) A (eqBool a b) Q E s :=
  eqAt_key x y A s _ _ hx hy (by omega) _ _ _ _ (by rw [← NestedKey.decide_eq]; exact hQ)
/-- the walk over the places of one hash -/
theorem walk_plain {d : Addr} {ob : Obj} {es : Array DictEntry} {ep : Nat} {xs : List Row} {k : NestedKey} {v : Value} {Q : Option Nat → Shared → Prop} (hu : A.units + 8 < cLine) (hk : NestedIs s.heap k v)
    (hO : s.heap.get? d = some ob) (hD : ob.data = .dict es ep) (hE : es.toList = xs.map (ent w)) (hI : Keyed s.heap xs)
    (h0 : (∀ (j : Nat) (p : Value × Value), xs[j]? ≠ some (k, p)) → Q none s) (h1 : ∀ (j : Nat) (p : Value × Value), xs[j]? = some (k, p) → Q (some j) s) :
    wpAny (model prog w) A (dictWalkPlain d v (k.hash w) es (placesWithHash es.size (fun i => es[i]?.map (·.hash)) (k.hash w))) Q E s := by
  generalize hpl : placesWithHash es.size (fun i => es[i]?.map (·.hash)) (k.hash w) = places
  have hp : ∀ i, i ∈ places ↔ i < es.size ∧ es[i]?.map (·.hash) = some (k.hash w) := fun i => by rw [← hpl]; exact mem_places
  unfold dictWalkPlain
  refine wpAny_bind ?_
  refine wpAny_forIn_list _ (fun rest r s' => s' = s ∧ r = (none, ()) ∧ ∃ pre, places = pre ++ rest ∧ ∀ j ∈ pre, ∀ p, xs[j]? ≠ some (k, p)) _ ?_ ?_ _ _ ⟨rfl, rfl, [], rfl, fun _ h => absurd h List.not_mem_nil⟩
  · rintro i rest r s' ⟨rfl, rfl, pre, hpre, hno⟩
    obtain ⟨hi, hh⟩ := (hp i).mp (by rw [hpre]; simp)
    obtain ⟨⟨k', u, x⟩, hx⟩ : ∃ y, xs[i]? = some y := ⟨_, List.getElem?_eq_getElem (by rw [← ent_size hE]; exact hi)⟩
    have hex : es[i]? = some ⟨k'.hash w, u, x⟩ := by rw [ent_at hE, hx]; rfl
    obtain ⟨ik, dk⟩ := hI _ (List.mem_of_getElem? hx)
    rw [hex] at hh ⊢
    dsimp only
    have hh' : k'.hash w = k.hash w := by simpa using hh
    rw [if_pos (by rw [hh']; simp)]
    refine wpAny_bind (wpAny_dictEpoch hO hD (wpAny_bind (eq_keys hu ik hk dk (wpAny_bind (wpAny_dictEpoch hO hD ?_)))))
    rw [if_neg (by simp)]
    by_cases e : k' = k
    · rw [if_pos (decide_eq_true e)]
      subst e
      exact wpAny_bind (wpAny_rule (wpAny_pure (wpAny_pure (h1 i _ hx))))
    · rw [if_neg (by rw [decide_eq_false e]; exact Bool.false_ne_true)]
      refine wpAny_bind (wpAny_rule (wpAny_pure ⟨rfl, rfl, pre ++ [i], by rw [hpre, List.append_assoc]; rfl, fun j hj p hxj => ?_⟩))
      rcases List.mem_append.mp hj with h | h
      · exact hno j h p hxj
      · rw [List.mem_singleton.mp h, hx] at hxj
        cases hxj
        exact e rfl
  · rintro r s' ⟨rfl, rfl, pre, hpre, hno⟩
    refine wpAny_pure (h0 fun j p hj => ?_)
    have hlt : j < es.size := by rw [ent_size hE]; exact (List.getElem?_eq_some_iff.mp hj).1
    have hmem : j ∈ places := (hp j).mpr ⟨hlt, by rw [ent_at hE, hj]; rfl⟩
    rw [hpre, List.append_nil] at hmem
    exact hno j hmem p hj
theorem may_tell {k : NestedKey} {v : Value} {stored : List Value} {Q : Bool → Shared → Prop} (hk : NestedIs s.heap k v) (kd : k.depth ≤ 8) (hst : ∀ u ∈ stored, ∃ k', NestedIs s.heap k' u ∧ k'.depth ≤ 8) (hQ : Q false s) :
    wpAny (model prog w) A (tableMayTell v stored) Q E s := by
  unfold tableMayTell
  split
  · exact wpAny_pure hQ
  refine wpAny_bind (quiet_key k v 8 s hk kd _ _ _ ?_)
  rw [if_neg (by simp)]
  refine wpAny_bind ?_
  refine wpAny_forIn_list _ (fun rest r s' => (s' = s ∧ r = (none, ())) ∧ ∀ u ∈ rest, ∃ k', NestedIs s.heap k' u ∧ k'.depth ≤ 8) _ ?_ ?_ _ _ ⟨⟨rfl, rfl⟩, hst⟩
  · rintro x rest r s' ⟨⟨rfl, rfl⟩, hr⟩
    obtain ⟨k', ik, dk⟩ := hr x List.mem_cons_self
    refine wpAny_bind (quiet_key k' x 8 s' ik dk _ _ _ ?_)
    rw [if_neg (by simp)]
    exact wpAny_pure ⟨⟨rfl, rfl⟩, fun u hu' => hr u (List.mem_cons_of_mem _ hu')⟩
  · rintro r s' ⟨⟨rfl, rfl⟩, _⟩
    exact wpAny_pure hQ
def notText : NestedKey → Prop
  | .text _ => False
  | _ => True
theorem find_key {d : Addr} {ob : Obj} {es : Array DictEntry} {ep : Nat} {xs : List Row} {k : NestedKey} {v : Value} {Q : Option Nat → Shared → Prop} (hu : A.units + 8 < cLine) (hk : NestedIs s.heap k v) (kd : k.depth ≤ 8) (nt : notText k)
    (hO : s.heap.get? d = some ob) (hD : ob.data = .dict es ep) (hE : es.toList = xs.map (ent w)) (hI : Keyed s.heap xs) (hN : (xs.map (·.1)).Nodup)
    (h0 : (∀ (j : Nat) (p : Value × Value), xs[j]? ≠ some (k, p)) → Q none s) (h1 : ∀ (j : Nat) (p : Value × Value), xs[j]? = some (k, p) → Q (some j) s) :
    wpAny (model prog w) A (dictFind d v (k.hash w)) Q E s := by
  have plain := walk_plain (prog := prog) (w := w) (A := A) (E := E) (s := s) (Q := Q) hu hk hO hD hE hI h0 h1
  have hmem : ∀ e ∈ es, ∃ x ∈ xs, e = ent w x := by
    intro e he
    have h2 : e ∈ es.toList := Array.mem_toList_iff.mpr he
    rw [hE] at h2
    obtain ⟨x, hx, rfl⟩ := List.mem_map.mp h2
    exact ⟨x, hx, rfl⟩
  have hstored : ∀ u ∈ (placesWithHash es.size (fun i => es[i]?.map (·.hash)) (k.hash w)).filterMap (fun i => es[i]?.map (·.key)), ∃ k', NestedIs s.heap k' u ∧ k'.depth ≤ 8 := by
    intro u hu2
    obtain ⟨i, _, h3⟩ := List.mem_filterMap.mp hu2
    obtain ⟨e, he, rfl⟩ := Option.map_eq_some_iff.mp h3
    obtain ⟨x, hx, rfl⟩ := hmem e (Array.mem_of_getElem? he)
    exact ⟨x.1, hI x hx⟩
  unfold dictFind
  try with_reducible refine wpAny_holding ?_
  refine wpAny_bind (wpAny_dictEntries hO hD ?_)
  have notStr : ∀ (x : Str) (t : Tok), v ≠ .str x t := by
    rintro x t rfl
    cases hk
    exact nt
  have hpn : (placesWithHash es.size (fun i => es[i]?.map (·.hash)) (k.hash w)).Nodup := by
    unfold placesWithHash
    exact List.nodup_range.filter _
  have hp : ∀ i, i ∈ placesWithHash es.size (fun i => es[i]?.map (·.hash)) (k.hash w) ↔ i < es.size ∧ es[i]?.map (·.hash) = some (k.hash w) := fun i => mem_places
  have uniq : ∀ {i j : Nat} {p q : Value × Value}, xs[i]? = some (k, p) → xs[j]? = some (k, q) → i = j := by
    intro i j p q hi hj
    have hi' : (xs.map (·.1))[i]? = some k := by rw [List.getElem?_map, hi]; rfl
    have hj' : (xs.map (·.1))[j]? = some k := by rw [List.getElem?_map, hj]; rfl
    exact (List.getElem?_inj (List.getElem?_eq_some_iff.mp hi').1 hN).mp (hi'.trans hj'.symm)
  have same_hash : ∀ e ∈ es, ∀ a, v = .ref a → e.key = v → e.hash = k.hash w := by
    rintro e he a rfl ek
    obtain ⟨x, hx, rfl⟩ := hmem e he
    have := (hI x hx).1
    rw [show x.2.1 = Value.ref a from ek] at this
    show x.1.hash w = _
    rw [NestedIs.inj _ _ _ this hk]
  dsimp only at plain ⊢
  generalize placesWithHash es.size (fun i => es[i]?.map (·.hash)) (k.hash w) = places at hp hpn plain hstored ⊢
  generalize hst : places.filterMap (fun i => es[i]?.map (·.key)) = stored at hstored ⊢
  have reach : ∀ {jp : Unit → Sem (Option Nat)}, wpAny (model prog w) A (jp ()) Q E s → wpAny (model prog w) A (match v with
      | .ref a => if (es.any fun e => e.key == v && e.hash != k.hash w) = true then do
            let r ← unsupported "dict.find:a-stored-key-whose-hash-has-changed"
            jp r
          else jp ()
      | x => jp ()) Q E s := by
    intro jp h
    split
    · rename_i a
      rw [if_neg]
      · exact h
      · rw [← Array.any_toList, List.any_eq_true]
        rintro ⟨e, he, hc⟩
        rw [Bool.and_eq_true] at hc
        have ek : e.key = Value.ref a := eq_of_beq hc.1
        have := same_hash e (Array.mem_toList_iff.mp he) a rfl ek
        rw [this] at hc
        exact absurd hc.2 (by rw [bne_self_eq_false]; exact Bool.false_ne_true)
    · exact h
  split
  · rename_i x t
    exact absurd rfl (notStr x t)
  · by_cases hall : (v :: stored).all carriedByValue = true
    · rw [if_pos hall]
      exact plain
    · rw [if_neg hall]
      refine reach ?_
      have tells : ∀ {jp : Bool → Sem (Option Nat)}, wpAny (model prog w) A (jp false) Q E s → wpAny (model prog w) A (if (stored == [v]) = true then do
            let t ← pure false
            jp t
          else do
            let t ← tableMayTell v stored
            jp t) Q E s := by
        intro jp h
        split
        · exact wpAny_bind (wpAny_pure h)
        · exact wpAny_bind (may_tell hk kd hstored h)
      refine tells ?_
      rw [if_neg (by simp)]
      refine wpAny_bind ?_
      refine wpAny_forIn_list _ (fun rest r s' => s' = s ∧ ∃ hit, r = (none, hit) ∧ ∃ pre, places = pre ++ rest ∧
        ((hit = none ∧ ∀ j ∈ pre, ∀ p, xs[j]? ≠ some (k, p)) ∨ ∃ j p, hit = some j ∧ j ∈ pre ∧ xs[j]? = some (k, p))) _ ?_ ?_ _ _ ⟨rfl, none, rfl, [], rfl, .inl ⟨rfl, fun _ h => absurd h List.not_mem_nil⟩⟩
      · rintro i rest r s' ⟨rfl, hit, rfl, pre, hpre, hH⟩
        obtain ⟨hi, hh⟩ := (hp i).mp (by rw [hpre]; simp)
        obtain ⟨⟨k', u, x⟩, hx⟩ : ∃ y, xs[i]? = some y := ⟨_, List.getElem?_eq_getElem (by rw [← ent_size hE]; exact hi)⟩
        have hex : es[i]? = some ⟨k'.hash w, u, x⟩ := by rw [ent_at hE, hx]; rfl
        obtain ⟨ik, dk⟩ := hI _ (List.mem_of_getElem? hx)
        have inot : i ∉ pre := by
          rw [hpre, List.nodup_append] at hpn
          exact fun h => hpn.2.2 i h i List.mem_cons_self rfl
        rw [hex] at hh
        have hh' : k'.hash w = k.hash w := by simpa using hh
        dsimp only
        rw [hex]
        dsimp only
        rw [if_pos (by rw [hh']; simp)]
        refine wpAny_bind (wpAny_dictEpoch hO hD (wpAny_bind (eq_keys hu ik hk dk (wpAny_bind (wpAny_dictEpoch hO hD ?_)))))
        rw [if_neg (by simp)]
        by_cases e : k' = k
        · rw [if_pos (decide_eq_true e)]
          subst e
          rcases hH with ⟨rfl, hno⟩ | ⟨j, p, rfl, hj, hxj⟩
          · rw [if_neg (by simp)]
            refine wpAny_bind (wpAny_rule ?_)
            split
            · exact wpAny_pure (wpAny_pure (h1 i _ hx))
            · exact wpAny_pure ⟨rfl, some i, rfl, pre ++ [i], by rw [hpre, List.append_assoc]; rfl, .inr ⟨i, _, rfl, by simp, hx⟩⟩
          · exact absurd (uniq hxj hx ▸ hj) inot
        · rw [if_neg (by rw [decide_eq_false e]; exact Bool.false_ne_true)]
          refine wpAny_bind (wpAny_rule ?_)
          rw [if_neg (by simp)]
          refine wpAny_pure ⟨rfl, hit, rfl, pre ++ [i], by rw [hpre, List.append_assoc]; rfl, ?_⟩
          rcases hH with ⟨h2, hno⟩ | ⟨j, p, h2, hj, hxj⟩
          · refine .inl ⟨h2, fun j hj p hxj => ?_⟩
            rcases List.mem_append.mp hj with h | h
            · exact hno j h p hxj
            · rw [List.mem_singleton.mp h, hx] at hxj
              cases hxj
              exact e rfl
          · exact .inr ⟨j, p, h2, List.mem_append_left _ hj, hxj⟩
      · rintro r s' ⟨rfl, hit, rfl, pre, hpre, hH⟩
        rcases hH with ⟨rfl, hno⟩ | ⟨j, p, rfl, _, hxj⟩
        · refine wpAny_pure (h0 fun j p hj => ?_)
          have hlt : j < es.size := by rw [ent_size hE]; exact (List.getElem?_eq_some_iff.mp hj).1
          have hm : j ∈ places := (hp j).mpr ⟨hlt, by rw [ent_at hE, hj]; rfl⟩
          rw [hpre, List.append_nil] at hm
          exact hno j hm p hj
        · exact wpAny_pure (h1 j p hxj)
theorem get_key {d : Addr} {xs : List Row} {k : NestedKey} {v : Value} {Q : Option Value → Shared → Prop} (hu : A.units + 8 < cLine) (hk : NestedIs s.heap k v) (kd : k.depth ≤ 8) (nt : notText k)
    (hT : Tab w s.heap d xs) (hI : Keyed s.heap xs) (h : Q (at_ xs k) { s with toks := s.toks + k.draws }) : wpAny (model prog w) A (dictGet d v) Q E s := by
  obtain ⟨ob, es, ep, hO, _, hD, hE, hN⟩ := hT
  unfold dictGet
  try with_reducible refine wpAny_holding ?_
  refine wpAny_bind (pyHash_key k v A s _ hk (by omega) (wpAny_bind (find_key (s := { s with toks := s.toks + k.draws }) hu hk kd nt hO hD hE hI hN ?_ ?_)))
  · intro hno
    rw [at_none hno] at h
    exact wpAny_pure h
  · intro j p hj
    rw [at_some hN hj] at h
    refine wpAny_bind (wpAny_dictEntries (s := { s with toks := s.toks + k.draws }) hO hD ?_)
    rw [ent_at hE j, hj]
    exact wpAny_pure h
def repl (xs : List Row) (k : NestedKey) (x : Value) : List Row := xs.map fun y => if y.1 = k then (y.1, y.2.1, x) else y
def put (xs : List Row) (k : NestedKey) (v x : Value) : List Row := if (at_ xs k).isSome then repl xs k x else xs ++ [(k, v, x)]
theorem repl_keys (xs : List Row) (k : NestedKey) (x : Value) : (repl xs k x).map (·.1) = xs.map (·.1) := by
  unfold repl
  rw [List.map_map]
  refine List.map_congr_left fun y _ => ?_
  show (if y.1 = k then _ else _ : Row).1 = _
  split <;> rfl
theorem repl_modify {xs : List Row} {k : NestedKey} {p : Value × Value} {x : Value} {j : Nat} (hN : (xs.map (·.1)).Nodup) (hj : xs[j]? = some (k, p)) :
    (xs.map (ent w)).modify j (fun e : DictEntry => { e with val := x }) = (repl xs k x).map (ent w) := by
  refine List.ext_getElem? fun i => ?_
  rw [List.getElem?_modify]
  unfold repl
  rw [List.getElem?_map, List.getElem?_map, List.getElem?_map]
  cases hi : xs[i]? with
  | none => simp
  | some y =>
    by_cases e : j = i
    · subst e
      rw [hj] at hi
      cases hi
      simp [ent]
    · have ne : y.1 ≠ k := fun z => by
        have hi' : (xs.map (·.1))[i]? = some k := by rw [List.getElem?_map, hi, ← z]; rfl
        have hj' : (xs.map (·.1))[j]? = some k := by rw [List.getElem?_map, hj]; rfl
        exact e ((List.getElem?_inj (List.getElem?_eq_some_iff.mp hj').1 hN).mp (hj'.trans hi'.symm))
      simp [e, ne]
theorem set_key {d : Addr} {xs : List Row} {k : NestedKey} {v x : Value} {Q : Unit → Shared → Prop} (hu : A.units + 8 < cLine) (hk : NestedIs s.heap k v) (kd : k.depth ≤ 8) (nt : notText k)
    (hT : Tab w s.heap d xs) (hI : Keyed s.heap xs) (hz : xs.length ≤ sizeLine) (hQ : ∀ h', Tab w h' d (put xs k v x) → Heap.SameBut d s.heap h' → Q () { s with heap := h', toks := s.toks + k.draws }) :
    wpAny (model prog w) A (dictSet d v x) Q E s := by
  obtain ⟨ob, es, ep, hO, hX, hD, hE, hN⟩ := hT
  have hes : es.size ≤ sizeLine := by rw [ent_size hE]; exact hz
  unfold dictSet
  try with_reducible refine wpAny_holding ?_
  refine wpAny_bind (pyHash_key k v A s _ hk (by omega) ?_)
  unfold dictSetHashed
  try with_reducible refine wpAny_holding ?_
  refine wpAny_bind (find_key (s := { s with toks := s.toks + k.draws }) hu hk kd nt hO hD hE hI hN ?_ ?_)
  · intro hno
    have en := at_none hno
    have hnot : k ∉ xs.map (·.1) := by
      intro hm
      obtain ⟨y, hy, ey⟩ := List.mem_map.mp hm
      obtain ⟨j, hj⟩ := List.getElem?_of_mem hy
      exact hno j y.2 (by rw [hj, ← ey])
    refine wpAny_bind (wpAny_rule (wpAny_updateDictKeys (hz := hes) (s := { s with toks := s.toks + k.draws }) hO hD (hQ _ ⟨_, _, ep + 1, Heap.get?_update_self _ hO (Obj.isFreed_of_dict (Obj.data_mapDictKeys hD _)),
      hX.mapDictKeys _, Obj.data_mapDictKeys hD _, ?_, ?_⟩ (Heap.SameBut.update ..))))
    · unfold put
      rw [en, if_neg (by simp)]
      simp [hE, ent]
    · unfold put
      rw [en, if_neg (by simp), List.map_append, List.nodup_append]
      refine ⟨hN, by simp, fun a ha b hb => ?_⟩
      have : b = k := by simpa using hb
      subst this
      exact fun e => hnot (e ▸ ha)
  · intro j p hj
    have en := at_some hN hj
    refine wpAny_bind (wpAny_rule (wpAny_bind (wpAny_updateDict (s := { s with toks := s.toks + k.draws }) hO hD (wpAny_point (hQ _ ⟨_, _, ep, Heap.get?_update_self _ hO (Obj.isFreed_of_dict (Obj.data_mapDict hD _)),
      hX.mapDict _, Obj.data_mapDict hD _, ?_, ?_⟩ (Heap.SameBut.update ..))))))
    · unfold put
      rw [en, if_pos (show (some p.2).isSome = true from rfl), ← repl_modify hN hj, ← hE]
      simp
    · unfold put
      rw [en, if_pos (show (some p.2).isSome = true from rfl), repl_keys]
      exact hN
theorem Tab.typeIs {d : Addr} {xs : List Row} (h : Tab w s.heap d xs) : s.TypeIs (.ref d) "dict" := by
  obtain ⟨ob, _, _, hO, hX, _⟩ := h
  exact ⟨ob, hO, hX.1⟩
/-- d[k] -/
theorem getItem_key {d : Addr} {xs : List Row} {k : NestedKey} {v x : Value} {Q : Value → Shared → Prop} (hu : A.units + 9 < cLine) (hk : NestedIs s.heap k v) (kd : k.depth ≤ 8) (nt : notText k)
    (hT : Tab w s.heap d xs) (hI : Keyed s.heap xs) (hx : at_ xs k = some x) (h : Q x { s with toks := s.toks + k.draws }) : wpAny (model prog w) A (getItem (.ref d) v) Q E s := by
  unfold getItem
  try with_reducible refine wpAny_holding ?_
  refine wpAny_bind (wpAny_sequenceKey hT.typeIs (by decide) ?_)
  refine wpAny_bind (wpAny_callSpecial?_slot (name := Str.ofString "__getitem__") hT.typeIs slot_dict_getitem
    (wpAny_call_entry slot_dict_getitem hT.typeIs entry_dict_getitem ?_ (args_dict_getitem _ _)))
  show wpAny _ _ (dictGet d v >>= _) _ _ s
  refine wpAny_bind (get_key (by rw [Around.in1_units]; omega) hk kd nt hT hI ?_)
  rw [hx]
  exact wpAny_pure ⟨x, rfl, wpAny_pure h⟩
/-- d[k] = x -/
theorem setItem_key {d : Addr} {xs : List Row} {k : NestedKey} {v x : Value} {Q : Unit → Shared → Prop} (hu : A.units + 9 < cLine) (hk : NestedIs s.heap k v) (kd : k.depth ≤ 8) (nt : notText k)
    (hT : Tab w s.heap d xs) (hI : Keyed s.heap xs) (hz : xs.length ≤ sizeLine) (hQ : ∀ h', Tab w h' d (put xs k v x) → Heap.SameBut d s.heap h' → Q () { s with heap := h', toks := s.toks + k.draws }) :
    wpAny (model prog w) A (setItem (.ref d) v x) Q E s := by
  unfold setItem
  try with_reducible refine wpAny_holding ?_
  refine wpAny_bind (wpAny_sequenceKey hT.typeIs (by decide) ?_)
  refine wpAny_bind (wpAny_callSpecial?_slot (name := Str.ofString "__setitem__") hT.typeIs slot_dict_setitem
    (wpAny_call_entry slot_dict_setitem hT.typeIs entry_dict_setitem ?_ (args_dict_setitem _ _ _)))
  show wpAny _ _ (Builtin.Dict.notOrdered "__setitem__" ⟨[.ref d, v, x], []⟩ >>= _) _ _ s
  refine wpAny_bind (wpAny_notOrdered_dict hT.typeIs ?_)
  show wpAny _ _ (dictSet d v x >>= _) _ _ s
  exact wpAny_bind (set_key (by rw [Around.in1_units]; omega) hk kd nt hT hI hz fun h' q1 q2 => wpAny_pure ⟨.none, rfl, wpAny_pure (hQ h' q1 q2)⟩)
/-- d.get(k), d.get(k, x) -/
theorem meet_get {d : Addr} {v : Value} (hd : (d == sysModules) = false) :
    MeetsIn prog w (Builtin.«dict.get» ⟨[.ref d, v], []⟩) (fun A R s => A.units + 9 < cLine ∧ ∃ k xs, NestedIs s.heap k v ∧ k.depth ≤ 8 ∧ notText k ∧ Tab w s.heap d xs ∧ Keyed s.heap xs ∧
      R (.ok (.ret ((at_ xs k).getD .none))) { s with toks := s.toks + k.draws }) :=
  .of_wp fun A R s ⟨hu, k, xs, hk, kd, nt, hT, hI, h⟩ => by
    show wpAny _ _ (dictGet d v >>= _) _ _ s
    refine wpAny_bind (get_key (by rw [Around.in1_units]; omega) hk kd nt hT hI ?_)
    cases hf : at_ xs k with
    | some y =>
      rw [hf] at h
      exact wpAny_pure ⟨y, rfl, h⟩
    | none =>
      rw [hf] at h
      show wpAny _ _ (Builtin.Dict.missed d v >>= _) _ _ _
      exact wpAny_bind (wpAny_missed_other hd (wpAny_pure ⟨.none, rfl, h⟩))
/-- k in d -/
theorem in_key {d : Addr} {xs : List Row} {k : NestedKey} {v : Value} {Q : Value → Shared → Prop} (hu : A.units + 9 < cLine) (hd : (d == sysModules) = false) (hk : NestedIs s.heap k v) (kd : k.depth ≤ 8) (nt : notText k)
    (hT : Tab w s.heap d xs) (hI : Keyed s.heap xs) (h : Q (.bool (at_ xs k).isSome) { s with toks := s.toks + k.draws }) : wpAny (model prog w) A (compareOp .In v (.ref d)) Q E s := by
  show wpAny _ _ (do return .bool (← contains (.ref d) v)) Q E s
  refine wpAny_bind ?_
  unfold contains
  try with_reducible refine wpAny_holding ?_
  refine wpAny_bind (wpAny_specialOf hT.typeIs slot_dict_contains.lookup ?_)
  show wpAny _ _ (if (some (Value.builtin "dict.__contains__") == some Value.none) = true then _ else _) _ E s
  rw [if_neg (by rw [beq_builtin_none]; exact Bool.false_ne_true)]
  refine wpAny_bind (wpAny_callSpecialUnlessNone?_slot (name := Str.ofString "__contains__") hT.typeIs slot_dict_contains
    (wpAny_call_entry slot_dict_contains hT.typeIs entry_dict_contains ?_ (args_dict_contains _ _)))
  show wpAny _ _ (dictGet d v >>= _) _ _ s
  refine wpAny_bind (get_key (by rw [Around.in1_units]; omega) hk kd nt hT hI ?_)
  cases hf : at_ xs k with
  | some p =>
    rw [hf] at h
    show wpAny _ _ (ret (.bool true)) _ _ _
    exact wpAny_pure ⟨_, rfl, wpAny_truthy_bool (wpAny_pure h)⟩
  | none =>
    rw [hf] at h
    show wpAny _ _ (Builtin.Dict.pendingKey? d v >>= _) _ _ _
    exact wpAny_bind (wpAny_pendingKey_other hd (wpAny_pure ⟨_, rfl, wpAny_truthy_bool (wpAny_pure h)⟩))
end
/-! the hash of a key without texts is the same in every world -/
mutual
def plainK : NestedKey → Prop
  | .none => True
  | .num _ => True
  | .text _ => False
  | .tup ks => plainKs ks
def plainKs : List NestedKey → Prop
  | [] => True
  | k :: ks => plainK k ∧ plainKs ks
end
mutual
theorem hash_any (w w' : World) : ∀ k : NestedKey, plainK k → k.hash w = k.hash w'
  | .none, _ => rfl
  | .num _, _ => rfl
  | .text _, h => h.elim
  | .tup ks, h => by
    show reduceHash (Builtin.Tuple.tupleHashOf (NestedKey.hashes w ks)) = reduceHash (Builtin.Tuple.tupleHashOf (NestedKey.hashes w' ks))
    rw [hashes_any w w' ks h]
theorem hashes_any (w w' : World) : ∀ ks : List NestedKey, plainKs ks → NestedKey.hashes w ks = NestedKey.hashes w' ks
  | [], _ => rfl
  | k :: ks, h => by
    show k.hash w :: NestedKey.hashes w ks = k.hash w' :: NestedKey.hashes w' ks
    rw [hash_any w w' k h.1, hashes_any w w' ks h.2]
end
theorem plainK.notText : ∀ {k : NestedKey}, plainK k → notText k
  | .none, _ => trivial
  | .num _, _ => trivial
  | .text _, h => h.elim
  | .tup _, _ => trivial
theorem Tab.world {w w' : World} {h : Heap} {d : Addr} {xs : List Row} (hp : ∀ x ∈ xs, plainK x.1) (t : Tab w h d xs) : Tab w' h d xs := by
  obtain ⟨ob, es, ep, a, b, c, e, f⟩ := t
  refine ⟨ob, es, ep, a, b, c, ?_, f⟩
  rw [e]
  refine List.map_congr_left fun x hx => ?_
  show (⟨x.1.hash w, x.2.1, x.2.2⟩ : DictEntry) = ⟨x.1.hash w', x.2.1, x.2.2⟩
  rw [hash_any w w' x.1 (hp x hx)]
end PD
namespace PD
open PySem PySem.Spec PyProof.Rows L2
/-- a key that may be asked for -/
def okK (k : NestedKey) : Prop := plainK k ∧ k.depth ≤ 8
abbrev VRow := NestedKey × V × V
def Same2 (p : VRow) (q : Row) : Prop := p.1 = q.1 ∧ RelV p.2.1 q.2.1 ∧ RelV p.2.2 q.2.2
def dPhi (a : Addr) (ep : Nat) (es : List VRow) (h : Heap) : Prop := es.length ≤ sizeLine ∧ (a == sysModules) = false ∧ (∀ x ∈ es, okK x.1) ∧ ∃ (w : World) (xs : List Row), Paired Same2 es xs ∧ TabE w h a ep xs
def dO (a : Addr) (ep : Nat) (es : List VRow) : HO := .ext (dPhi a ep es)
theorem Paired.same_keys {es : List VRow} {xs : List Row} (r : Paired Same2 es xs) : ∀ x ∈ xs, ∃ e ∈ es, e.1 = x.1 := by
  induction r with
  | nil => exact fun _ h => absurd h List.not_mem_nil
  | cons h t ih =>
    rename_i a b l1 l2
    intro x hx
    rcases List.mem_cons.mp hx with e | e
    · rw [e]; exact ⟨a, List.mem_cons_self, h.1⟩
    · obtain ⟨y, hy, ey⟩ := ih x e
      exact ⟨y, List.mem_cons_of_mem _ hy, ey⟩
theorem dPhi.at {a : Addr} {ep : Nat} {es : List VRow} {h h' : Heap} (p : dPhi a ep es h) (hh : ∀ o, h.get? a = some o → h'.get? a = some o) : dPhi a ep es h' := by
  obtain ⟨h1, h2, h3, w, xs, r, ob, en, q1, q2⟩ := p
  exact ⟨h1, h2, h3, w, xs, r, ob, en, hh _ q1, q2⟩
theorem dO_ok {P : Program} {w : World} {H : Hp} {h : Heap} {a : Addr} {ep : Nat} {es : List VRow} (p : dPhi a ep es h) : ObjOk P w H h a (dO a ep es) := by
  obtain ⟨h1, h2, h3, w', xs, r, ob, en, q1, q2⟩ := p
  exact ⟨⟨h1, h2, h3, w', xs, r, ob, en, q1, q2⟩, ⟨ob, q1⟩, fun h1 h2 p hh => p.at hh⟩
theorem dO_phi {P : Program} {w : World} {H : Hp} {h : Heap} {a : Addr} {ep : Nat} {es : List VRow} (p : ObjOk P w H h a (dO a ep es)) : dPhi a ep es h := p.1
def dAt (H : Hp) (a : Addr) (es : List VRow) : Prop := ∃ ep, H a = some (dO a ep es)
end PD
set_option Elab.async false
set_option linter.all false
set_option maxRecDepth 100000
/-! PL: values as trees over what never changes, a small store of what may; readings that compute. -/
namespace PL
open PySem PySem.Spec PyProof.Rows L2
inductive PV where
  | non | bl (b : Bool) | int (i : Int) | str (x : Str) | ty (n : String)
  | tup (xs : List PV) | lst (xs : List PV) | scr (xs : List PV)
  | obj (C : Addr) (fs : List (Str × PV))
  | ptr (a : Addr)
  | dct (kvs : List (NestedKey × PV))
  /-- a caught exception at a, with its fields, which lie at d -/
  | exc (a d : Addr) (fs : List (Str × PV))
  /-- a range object: lo, lo + 1, .. below hi -/
  | rng (lo hi : Int)
  /-- a tuple that the program made, of which it is known that it has no dict -/
  | tpd (xs : List PV)
mutual
/-- the value of a key -/
def pvK : NestedKey → PV
  | .none => .non
  | .num i => .int i
  | .text x => .str x
  | .tup ks => .tup (pvKs ks)
def pvKs : List NestedKey → List PV
  | [] => []
  | k :: ks => pvK k :: pvKs ks
end
mutual
inductive R (K : PySem.W.Frag) (F : Hp) : PV → V → Prop
  | non : R K F .non .non
  | bl (b : Bool) : R K F (.bl b) (.bl b)
  | int (i : Int) : R K F (.int i) (.int i)
  | str (x : Str) : R K F (.str x) (.str x)
  | ty (n : String) : R K F (.ty n) (.ty n)
  | tup {a : Addr} {xs : List PV} {vs : List V} : SqT K F a vs → RAll K F xs vs → R K F (.tup xs) (.ref a)
  | lst {a : Addr} {xs : List PV} {vs : List V} : F a = some (.lst vs) → RAll K F xs vs → R K F (.lst xs) (.ref a)
  | scr {a : Addr} {xs : List PV} {vs : List V} : SqL K F a vs → RAll K F xs vs → R K F (.scr xs) (.ref a)
  | obj {a C dx : Addr} {fs : List (Str × PV)} {vs : List (Str × V)} : F a = some (.ins C dx vs) → RFs K F fs vs → R K F (.obj C fs) (.ref a)
  | ptr (a : Addr) : R K F (.ptr a) (.ref a)
  | dct {a : Addr} {ep : Nat} {kvs : List (NestedKey × PV)} {es : List PD.VRow} : F a = some (PD.dO a ep es) → RKs K F kvs es → R K F (.dct kvs) (.ref a)
  | exc {a d : Addr} {fs : List (Str × PV)} {vs : List (Str × V)} : F d = some (.xd vs) → RFs K F fs vs → R K F (.exc a d fs) (.ref a)
  | rng {a : Addr} {lo hi : Int} : F a = some (.rng lo hi) → R K F (.rng lo hi) (.ref a)
  | tpd {a : Addr} {o : Obj} {xs : List PV} {vs : List V} : F a = some (.frz o (.tup vs)) → o.dict = none → RAll K F xs vs → R K F (.tpd xs) (.ref a)
inductive RAll (K : PySem.W.Frag) (F : Hp) : List PV → List V → Prop
  | nil : RAll K F [] []
  | cons {x : PV} {xs : List PV} {v : V} {vs : List V} : R K F x v → RAll K F xs vs → RAll K F (x :: xs) (v :: vs)
inductive RFs (K : PySem.W.Frag) (F : Hp) : List (Str × PV) → List (Str × V) → Prop
  | nil : RFs K F [] []
  | cons {n : Str} {x : PV} {fs : List (Str × PV)} {v : V} {vs : List (Str × V)} : R K F x v → RFs K F fs vs → RFs K F ((n, x) :: fs) ((n, v) :: vs)
inductive RKs (K : PySem.W.Frag) (F : Hp) : List (NestedKey × PV) → List PD.VRow → Prop
  | nil : RKs K F [] []
  | cons {k : NestedKey} {x : PV} {kvs : List (NestedKey × PV)} {u v : V} {es : List PD.VRow} : R K F (pvK k) u → R K F x v → RKs K F kvs es → RKs K F ((k, x) :: kvs) ((k, u, v) :: es)
end
theorem sqT_same {K : PySem.W.Frag} {H H' : Hp} {a : Addr} {xs : List V} (e : Same H H') (h : SqT K H a xs) : SqT K H' a xs := by
  rcases h with h | h
  · rcases h with h | ⟨o, h⟩
    · exact .inl (.inl (e _ _ h))
    · exact .inl (.inr ⟨o, e _ _ h⟩)
  · exact .inr h
mutual
theorem R.same {K : PySem.W.Frag} {F F' : Hp} (e : Same F F') : ∀ {x : PV} {v : V}, R K F x v → R K F' x v
  | _, _, .non => .non
  | _, _, .bl b => .bl b
  | _, _, .int i => .int i
  | _, _, .str x => .str x
  | _, _, .ty n => .ty n
  | _, _, .tup h r => .tup (sqT_same e h) (RAll.same e r)
  | _, _, .lst h r => .lst (e _ _ h) (RAll.same e r)
  | _, _, .scr h r => .scr (e.seq h) (RAll.same e r)
  | _, _, .obj h r => .obj (e _ _ h) (RFs.same e r)
  | _, _, .ptr a => .ptr a
  | _, _, .dct h r => .dct (e _ _ h) (RKs.same e r)
  | _, _, .exc h r => .exc (e _ _ h) (RFs.same e r)
  | _, _, .rng h => .rng (e _ _ h)
  | _, _, .tpd h d r => .tpd (e _ _ h) d (RAll.same e r)
theorem RAll.same {K : PySem.W.Frag} {F F' : Hp} (e : Same F F') : ∀ {xs : List PV} {vs : List V}, RAll K F xs vs → RAll K F' xs vs
  | _, _, .nil => .nil
  | _, _, .cons r t => .cons (R.same e r) (RAll.same e t)
theorem RFs.same {K : PySem.W.Frag} {F F' : Hp} (e : Same F F') : ∀ {xs : List (Str × PV)} {vs : List (Str × V)}, RFs K F xs vs → RFs K F' xs vs
  | _, _, .nil => .nil
  | _, _, .cons r t => .cons (R.same e r) (RFs.same e t)
theorem RKs.same {K : PySem.W.Frag} {F F' : Hp} (e : Same F F') : ∀ {kvs : List (NestedKey × PV)} {es : List PD.VRow}, RKs K F kvs es → RKs K F' kvs es
  | _, _, .nil => .nil
  | _, _, .cons r s t => .cons (R.same e r) (R.same e s) (RKs.same e t)
end
section
variable {K : PySem.W.Frag} {F F' : Hp}
theorem RAll.length : ∀ {xs : List PV} {vs : List V}, RAll K F xs vs → xs.length = vs.length
  | _, _, .nil => rfl
  | _, _, .cons _ t => congrArg (· + 1) (RAll.length t)
theorem RAll.get : ∀ {xs : List PV} {vs : List V} {i : Nat} {x : PV}, RAll K F xs vs → xs[i]? = some x → ∃ v, vs[i]? = some v ∧ R K F x v
  | _, _, 0, _, .cons r _, e => ⟨_, rfl, by cases e; exact r⟩
  | _, _, i + 1, x, .cons _ t, e => RAll.get (i := i) (x := x) t e
  | _, _, _, _, .nil, e => by simp at e
theorem RAll.at : ∀ {xs : List PV} {vs : List V} {i : Nat} {v : V}, RAll K F xs vs → vs[i]? = some v → ∃ x, xs[i]? = some x ∧ R K F x v
  | _, _, 0, _, .cons r _, e => ⟨_, rfl, by cases e; exact r⟩
  | _, _, i + 1, x, .cons _ t, e => RAll.at (i := i) (v := x) t e
  | _, _, _, _, .nil, e => by simp at e
theorem RAll.append : ∀ {xs ys : List PV} {vs ws : List V}, RAll K F xs vs → RAll K F ys ws → RAll K F (xs ++ ys) (vs ++ ws)
  | _, _, _, _, .nil, s => s
  | _, _, _, _, .cons r t, s => .cons r (RAll.append t s)
theorem RAll.take : ∀ {xs : List PV} {vs : List V} (n : Nat), RAll K F xs vs → RAll K F (xs.take n) (vs.take n)
  | _, _, 0, _ => .nil
  | _, _, _ + 1, .nil => .nil
  | _, _, n + 1, .cons r t => .cons r (RAll.take n t)
theorem RAll.drop : ∀ {xs : List PV} {vs : List V} (n : Nat), RAll K F xs vs → RAll K F (xs.drop n) (vs.drop n)
  | _, _, 0, r => r
  | _, _, _ + 1, .nil => .nil
  | _, _, n + 1, .cons _ t => RAll.drop n t
theorem RAll.reverse : ∀ {xs : List PV} {vs : List V}, RAll K F xs vs → RAll K F xs.reverse vs.reverse
  | _, _, .nil => .nil
  | _, _, .cons r t => by
    rw [List.reverse_cons, List.reverse_cons]
    exact RAll.append (RAll.reverse t) (.cons r .nil)
theorem RAll.set {x : PV} {v : V} (r : R K F x v) : ∀ {xs : List PV} {vs : List V} (n : Nat), RAll K F xs vs → RAll K F (xs.set n x) (vs.set n v)
  | _, _, _, .nil => .nil
  | _, _, 0, .cons _ t => .cons r t
  | _, _, n + 1, .cons q t => .cons q (RAll.set r n t)
theorem RAll.ints : ∀ {ns : List Int}, RAll K F (ns.map PV.int) (ns.map V.int)
  | [] => .nil
  | n :: r => .cons (.int n) RAll.ints
theorem RFs.get : ∀ {fs : List (Str × PV)} {vs : List (Str × V)} {f : Str} {x : PV}, RFs K F fs vs → fs.lookup f = some x → ∃ v, vs.lookup f = some v ∧ R K F x v
  | _, _, f, x, .nil, e => by simp at e
  | (n, y) :: fs, (_, w) :: vs, f, x, .cons r t, e => by
    rw [List.lookup_cons] at e ⊢
    cases hb : f == n with
    | true =>
      rw [hb] at e
      cases e
      exact ⟨w, rfl, r⟩
    | false =>
      rw [hb] at e
      exact RFs.get t e
theorem RFs.none : ∀ {fs : List (Str × PV)} {vs : List (Str × V)} {f : Str}, RFs K F fs vs → fs.lookup f = none → vs.lookup f = none
  | _, _, f, .nil, e => rfl
  | (n, y) :: fs, (_, w) :: vs, f, .cons r t, e => by
    rw [List.lookup_cons] at e ⊢
    cases hb : f == n with
    | true =>
      rw [hb] at e
      cases e
    | false =>
      rw [hb] at e
      exact RFs.none t e
def putP (f : Str) (v : PV) : List (Str × PV) → List (Str × PV)
  | [] => [(f, v)]
  | (g, x) :: r => if g = f then (g, v) :: r else (g, x) :: putP f v r
theorem RFs.put {f : Str} {x : PV} {v : V} (r : R K F x v) : ∀ {fs : List (Str × PV)} {vs : List (Str × V)}, RFs K F fs vs → RFs K F (putP f x fs) (putF f v vs)
  | _, _, .nil => .cons r .nil
  | (n, y) :: fs, (_, w) :: vs, .cons q t => by
    unfold putP putF
    by_cases h : n = f
    · rw [if_pos h, if_pos h]
      exact .cons r t
    · rw [if_neg h, if_neg h]
      exact .cons q (RFs.put r t)
theorem RFs.length : ∀ {fs : List (Str × PV)} {vs : List (Str × V)}, RFs K F fs vs → fs.length = vs.length
  | _, _, .nil => rfl
  | _, _, .cons _ t => congrArg (· + 1) (RFs.length t)
end
/-! ### the store -/
inductive MO where
  | lst (xs : List PV)
  | obj (C : Addr) (fs : List (Str × PV))
  | dct (a : Addr) (kvs : List (NestedKey × PV))
abbrev Mem := Addr → Option MO
def Mem.put (M : Mem) (a : Addr) (o : MO) : Mem := fun b => if b = a then some o else M b
def Mem.drop (M : Mem) (a : Addr) : Mem := fun b => if b = a then none else M b
theorem put_same {M : Mem} {a : Addr} {o : MO} : M.put a o a = some o := if_pos rfl
theorem put_ne {M : Mem} {a b : Addr} {o : MO} (h : b ≠ a) : M.put a o b = M b := if_neg h
theorem drop_same {M : Mem} {a : Addr} : M.drop a a = none := if_pos rfl
theorem drop_ne {M : Mem} {a b : Addr} (h : b ≠ a) : M.drop a b = M b := if_neg h
theorem put_put {M : Mem} {a : Addr} {o u : MO} : (M.put a o).put a u = M.put a u := by
  funext b
  by_cases e : b = a
  · subst e; rw [put_same, put_same]
  · rw [put_ne e, put_ne e, put_ne e]
theorem put_drop {M : Mem} {a : Addr} {o : MO} (h : M a = none) : (M.put a o).drop a = M := by
  funext b
  by_cases e : b = a
  · subst e; rw [drop_same, h]
  · rw [drop_ne e, put_ne e]
inductive RO (K : PySem.W.Frag) (F : Hp) : MO → HO → Prop
  | lst {xs : List PV} {vs : List V} : RAll K F xs vs → RO K F (.lst xs) (.lst vs)
  | obj {C dx : Addr} {fs : List (Str × PV)} {vs : List (Str × V)} : RFs K F fs vs → RO K F (.obj C fs) (.ins C dx vs)
  | dct {a : Addr} {ep : Nat} {kvs : List (NestedKey × PV)} {es : List PD.VRow} : RKs K F kvs es → RO K F (.dct a kvs) (PD.dO a ep es)
theorem RO.same {K : PySem.W.Frag} {F F' : Hp} (e : Same F F') {m : MO} {o : HO} (r : RO K F m o) : RO K F' m o := by
  cases r with
  | lst r => exact .lst (r.same e)
  | obj r => exact .obj (r.same e)
  | dct r => exact .dct (r.same e)
/-- F: what never changes; M: what may; both in H -/
structure RM (K : PySem.W.Frag) (F : Hp) (M : Mem) (H : Hp) : Prop where
  fr : Same F H
  dj : ∀ a, M a ≠ none → F a = none
  mu : ∀ a m, M a = some m → ∃ o, H a = some o ∧ RO K F m o
/-- what may have changed -/
structure Fr (M : Mem) (H : Hp) (M' : Mem) (H' : Hp) : Prop where
  keep : ∀ b o, H b = some o → M b = none → H' b = some o
  grow : ∀ b, M' b ≠ none → M b ≠ none ∨ H b = none
  there : ∀ b, H b ≠ none → H' b ≠ none
section
variable {K : PySem.W.Frag} {F F' F2 : Hp} {M M' M2 : Mem} {H H' H2 : Hp} {p : Addr} {o : HO}
theorem Fr.refl : Fr M H M H := ⟨fun _ _ h _ => h, fun _ h => .inl h, fun _ h => h⟩
theorem Fr.trans (a : Fr M H M' H') (b : Fr M' H' M2 H2) : Fr M H M2 H2 where
  keep := fun c u h n => by
    refine b.keep c u (a.keep c u h n) ?_
    cases q : M' c with
    | none => rfl
    | some m =>
      rcases a.grow c (by rw [q]; exact Option.some_ne_none _) with z | z
      · exact absurd n z
      · rw [h] at z; cases z
  grow := fun c h => by
    rcases b.grow c h with z | z
    · exact a.grow c z
    · right
      cases q : H c with
      | none => rfl
      | some u => exact absurd z (a.there c (by rw [q]; exact Option.some_ne_none _))
  there := fun c h => b.there c (a.there c h)
theorem RM.nones (r : RM K F M H) (n : H p = Option.none) : F p = Option.none ∧ M p = Option.none := by
  constructor
  · exact r.fr.free n
  · cases q : M p with
    | none => rfl
    | some m =>
      obtain ⟨o, e, _⟩ := r.mu p m q
      rw [n] at e; cases e
theorem same_upd {F : Hp} (n : F p = Option.none) : Same F (upd F p o) := fun b u e => by
  rw [upd_ne (ne_of_none e n)]; exact e
/-- a new thing that never changes -/
theorem RM.fresh (r : RM K F M H) (n : H p = Option.none) : Same F (upd F p o) ∧ RM K (upd F p o) M (upd H p o) ∧ Fr M H M (upd H p o) := by
  obtain ⟨nF, nM⟩ := r.nones n
  have sm : Same F (upd F p o) := same_upd nF
  refine ⟨sm, ⟨fun b u e => ?_, fun b h => ?_, fun b m e => ?_⟩, ⟨fun b u e _ => ?_, fun b h => .inl h, fun b h => ?_⟩⟩
  · by_cases hb : b = p
    · subst hb; rw [upd_same] at e; rw [upd_same]; exact e
    · rw [upd_ne hb] at e; rw [upd_ne hb]; exact r.fr b u e
  · have hb : b ≠ p := fun z => h (by rw [z]; exact nM)
    rw [upd_ne hb]; exact r.dj b h
  · have hb : b ≠ p := fun z => by rw [z, nM] at e; cases e
    obtain ⟨u, e1, e2⟩ := r.mu b m e
    exact ⟨u, by rw [upd_ne hb]; exact e1, e2.same sm⟩
  · rw [upd_ne (ne_of_none e n)]; exact e
  · by_cases hb : b = p
    · subst hb; rw [upd_same]; exact Option.some_ne_none _
    · rw [upd_ne hb]; exact h
/-- a new thing that may change -/
theorem RM.new {m : MO} (r : RM K F M H) (n : H p = Option.none) (q : RO K F m o) : RM K F (M.put p m) (upd H p o) ∧ Fr M H (M.put p m) (upd H p o) := by
  obtain ⟨nF, nM⟩ := r.nones n
  refine ⟨⟨fun b u e => ?_, fun b h => ?_, fun b m' e => ?_⟩, ⟨fun b u e _ => ?_, fun b h => ?_, fun b h => ?_⟩⟩
  · have hb : b ≠ p := fun z => by rw [z, nF] at e; cases e
    rw [upd_ne hb]; exact r.fr b u e
  · by_cases hb : b = p
    · subst hb; exact nF
    · rw [put_ne hb] at h; exact r.dj b h
  · by_cases hb : b = p
    · subst hb; rw [put_same] at e; cases e; exact ⟨o, upd_same, q⟩
    · rw [put_ne hb] at e
      obtain ⟨u, e1, e2⟩ := r.mu b m' e
      exact ⟨u, by rw [upd_ne hb]; exact e1, e2⟩
  · rw [upd_ne (ne_of_none e n)]; exact e
  · by_cases hb : b = p
    · subst hb; exact .inr n
    · rw [put_ne hb] at h; exact .inl h
  · by_cases hb : b = p
    · subst hb; rw [upd_same]; exact Option.some_ne_none _
    · rw [upd_ne hb]; exact h
/-- a change -/
theorem RM.write {m m' : MO} (r : RM K F M H) (e : M p = some m) (q : RO K F m' o) : RM K F (M.put p m') (upd H p o) ∧ Fr M H (M.put p m') (upd H p o) := by
  have nF : F p = Option.none := r.dj p (by rw [e]; exact Option.some_ne_none _)
  refine ⟨⟨fun b u e => ?_, fun b h => ?_, fun b m' e => ?_⟩, ⟨fun b u e1 n1 => ?_, fun b h => ?_, fun b h => ?_⟩⟩
  · have hb : b ≠ p := fun z => by rw [z, nF] at e; cases e
    rw [upd_ne hb]; exact r.fr b u e
  · by_cases hb : b = p
    · subst hb; exact nF
    · rw [put_ne hb] at h; exact r.dj b h
  · by_cases hb : b = p
    · subst hb; rw [put_same] at e; cases e; exact ⟨o, upd_same, q⟩
    · rw [put_ne hb] at e
      obtain ⟨u, e1, e2⟩ := r.mu b m' e
      exact ⟨u, by rw [upd_ne hb]; exact e1, e2⟩
  · have hb : b ≠ p := fun z => by rw [z, e] at n1; cases n1
    rw [upd_ne hb]; exact e1
  · by_cases hb : b = p
    · subst hb; exact .inl (by rw [e]; exact Option.some_ne_none _)
    · rw [put_ne hb] at h; exact .inl h
  · by_cases hb : b = p
    · subst hb; rw [upd_same]; exact Option.some_ne_none _
    · rw [upd_ne hb]; exact h
/-- it is forgotten -/
theorem RM.drop (r : RM K F M H) : RM K F (M.drop p) H ∧ Fr M H (M.drop p) H := by
  refine ⟨⟨r.fr, fun b h => r.dj b ?_, fun b m e => r.mu b m ?_⟩, ⟨fun _ _ h _ => h, fun b h => .inl ?_, fun _ h => h⟩⟩
  · by_cases hb : b = p
    · subst hb; exact absurd drop_same h
    · rw [drop_ne hb] at h; exact h
  · by_cases hb : b = p
    · subst hb; rw [drop_same] at e; cases e
    · rw [drop_ne hb] at e; exact e
  · by_cases hb : b = p
    · subst hb; exact absurd drop_same h
    · rw [drop_ne hb] at h; exact h
/-- from now on it never changes -/
theorem RM.freeze {m : MO} (r : RM K F M H) (e : M p = some m) : ∃ o, Same F (upd F p o) ∧ RM K (upd F p o) (M.drop p) H ∧ Fr M H (M.drop p) H ∧ RO K F m o := by
  obtain ⟨o, e1, q⟩ := r.mu p m e
  have nF : F p = Option.none := r.dj p (by rw [e]; exact Option.some_ne_none _)
  have sm : Same F (upd F p o) := same_upd nF
  obtain ⟨r2, f2⟩ := r.drop (p := p)
  refine ⟨o, sm, ⟨fun b u e => ?_, fun b h => ?_, fun b m e => ?_⟩, f2, q⟩
  · by_cases hb : b = p
    · subst hb; rw [upd_same] at e; cases e; exact e1
    · rw [upd_ne hb] at e; exact r.fr b u e
  · have hb : b ≠ p := fun z => h (by rw [z]; exact drop_same)
    rw [upd_ne hb]; exact r2.dj b h
  · obtain ⟨u, e1, e2⟩ := r2.mu b m e
    exact ⟨u, e1, e2.same sm⟩
end
/-! ### slots -/
abbrev PSt := List (Option PV)
structure RS (K : PySem.W.Frag) (F : Hp) (σ : PSt) (σv : L2.St) : Prop where
  len : σ.length = σv.length
  at_ : ∀ (i : Nat) (x : PV), σ[i]? = some (some x) → ∃ v, σv[i]? = some (some v) ∧ R K F x v
section
variable {K : PySem.W.Frag} {F F' : Hp} {σ : PSt} {σv : L2.St}
theorem RS.same (r : RS K F σ σv) (e : Same F F') : RS K F' σ σv := ⟨r.len, fun i x h => let ⟨v, h1, h2⟩ := r.at_ i x h; ⟨v, h1, h2.same e⟩⟩
theorem RS.set {x : PV} {v : V} (r : RS K F σ σv) (i : Nat) (q : R K F x v) : RS K F (σ.set i (some x)) (σv.set i (some v)) := by
  refine ⟨by rw [List.length_set, List.length_set, r.len], fun j y h => ?_⟩
  by_cases hj : i = j
  · subst hj
    by_cases hl : i < σ.length
    · rw [List.getElem?_set_self hl] at h
      cases h
      exact ⟨v, List.getElem?_set_self (r.len ▸ hl), q⟩
    · rw [List.getElem?_eq_none (by rw [List.length_set]; omega)] at h
      cases h
  · rw [List.getElem?_set_ne hj] at h
    obtain ⟨w, h1, h2⟩ := r.at_ j y h
    exact ⟨w, by rw [List.getElem?_set_ne hj]; exact h1, h2⟩
end
def pstart (n : Nat) (xs : List PV) : PSt := xs.map some ++ List.replicate (n - xs.length) none
theorem RS.start {K : PySem.W.Frag} {F : Hp} {N : List Str} {xs : List PV} {vs : List V} (r : RAll K F xs vs) : RS K F (pstart N.length xs) (L2.start N vs) := by
  unfold pstart L2.start
  have hl := r.length
  refine ⟨by simp [hl], fun i x h => ?_⟩
  by_cases hi : i < xs.length
  · rw [List.getElem?_append_left (by simpa using hi), List.getElem?_map] at h
    cases hx : xs[i]? with
    | none => rw [hx] at h; cases h
    | some y =>
      rw [hx] at h
      cases h
      obtain ⟨v, h1, h2⟩ := r.get hx
      refine ⟨v, ?_, h2⟩
      rw [List.getElem?_append_left (by rw [List.length_map, ← hl]; exact hi), List.getElem?_map, h1]
      rfl
  · rw [List.getElem?_append_right (by simpa using Nat.le_of_not_lt hi), List.getElem?_replicate] at h
    split at h <;> cases h
end PL
set_option Elab.async false
set_option linter.all false
set_option maxRecDepth 100000
namespace PL
open PySem PySem.Spec PyProof.Rows L2
abbrev PQ := PV → Mem → Prop
/-- an exception: its class, its attributes -/
abbrev PXK := Addr → List (Str × PV) → Mem → Prop
abbrev PTE := PXK → PSt → Mem → PQ → Prop
abbrev PTA := PXK → PSt → Mem → (List PV → Mem → Prop) → Prop
abbrev PTT := PXK → PSt → Mem → (Bool → Mem → Prop) → Prop
def WE (X : Cx) (e : Expr) (σ : L2.St) (H : Hp) (Q : VK) : Prop := ∀ pins s, Inv X pins σ H s → wpAny (model X.prog X.w) X.A (eval e X.env) (EP X pins σ Q) X.xe s
def WT (X : Cx) (e : Expr) (σ : L2.St) (H : Hp) (Q : Bool → Hp → Prop) : Prop := ∀ pins s, Inv X pins σ H s → wpAny (model X.prog X.w) X.A (isTrue e X.env (eval e X.env)) (TP X pins σ Q) X.xe s
def WW (X : Cx) (e : Expr) (σ : L2.St) (H : Hp) (Q : Bool → Hp → Prop) : Prop := ∀ (whole : Sem Value) pins s, Inv X pins σ H s → wpAny (model X.prog X.w) X.A (isTrue e X.env whole) (TP X pins σ Q) X.xe s
def WA (X : Cx) (es : List Expr) (σ : L2.St) (H : Hp) (Q : List V → Hp → Prop) : Prop := ∀ (pos : Pos) pins s, Inv X pins σ H s → wpAny (model X.prog X.w) X.A (spliced (backTo pos (starEach es X.env))) (AP X pins σ Q) X.xe s
theorem WE.pe {X : Cx} {e : Expr} : PE X e (WE X e) := ⟨fun pins s σ H Q I h => h pins s I⟩
theorem WT.pt {X : Cx} {e : Expr} : PT X e (WT X e) := ⟨fun pins s σ H Q I h => h pins s I⟩
theorem WW.pw {X : Cx} {e : Expr} : PW X e (WW X e) := ⟨fun wh pins s σ H Q I h => h wh pins s I⟩
theorem WA.pa {X : Cx} {es : List Expr} : PA X es (WA X es) := ⟨fun pos pins s σ H Q I h => h pos pins s I⟩
theorem WE.of {X : Cx} {e : Expr} {t : TE} (p : PE X e t) {σ : L2.St} {H : Hp} {Q : VK} (h : t σ H Q) : WE X e σ H Q := fun pins s I => p.run pins s σ H Q I h
theorem WT.of {X : Cx} {e : Expr} {t : TT} (p : PT X e t) {σ : L2.St} {H : Hp} {Q : Bool → Hp → Prop} (h : t σ H Q) : WT X e σ H Q := fun pins s I => p.run pins s σ H Q I h
theorem WW.of {X : Cx} {e : Expr} {t : TT} (p : PW X e t) {σ : L2.St} {H : Hp} {Q : Bool → Hp → Prop} (h : t σ H Q) : WW X e σ H Q := fun wh pins s I => p.run wh pins s σ H Q I h
theorem WA.of {X : Cx} {es : List Expr} {t : TA} (p : PA X es t) {σ : L2.St} {H : Hp} {Q : List V → Hp → Prop} (h : t σ H Q) : WA X es σ H Q := fun pos pins s I => p.run pos pins s σ H Q I h
theorem WE.mono {X : Cx} {e : Expr} {σ : L2.St} {H : Hp} {Q Q' : VK} (h : WE X e σ H Q) (m : ∀ v H', Q v H' → Q' v H') : WE X e σ H Q' := fun pins s I =>
  thn (h pins s I) fun _ _ ⟨v, H', I', r, q⟩ => ⟨v, H', I', r, m v H' q⟩
theorem WT.mono {X : Cx} {e : Expr} {σ : L2.St} {H : Hp} {Q Q' : Bool → Hp → Prop} (h : WT X e σ H Q) (m : ∀ v H', Q v H' → Q' v H') : WT X e σ H Q' := fun pins s I =>
  thn (h pins s I) fun b _ ⟨H', I', q⟩ => ⟨H', I', m b H' q⟩
theorem WW.mono {X : Cx} {e : Expr} {σ : L2.St} {H : Hp} {Q Q' : Bool → Hp → Prop} (h : WW X e σ H Q) (m : ∀ v H', Q v H' → Q' v H') : WW X e σ H Q' := fun wh pins s I =>
  thn (h wh pins s I) fun b _ ⟨H', I', q⟩ => ⟨H', I', m b H' q⟩
theorem WA.mono {X : Cx} {es : List Expr} {σ : L2.St} {H : Hp} {Q Q' : List V → Hp → Prop} (h : WA X es σ H Q) (m : ∀ v H', Q v H' → Q' v H') : WA X es σ H Q' := fun pos pins s I =>
  thn (h pos pins s I) fun _ _ ⟨v, H', I', r, q⟩ => ⟨v, H', I', r, m v H' q⟩
/-- with the state at hand -/
theorem WE.inv {X : Cx} {e : Expr} {σ : L2.St} {H : Hp} {Q : VK} (h : (∃ pins s, Inv X pins σ H s) → WE X e σ H Q) : WE X e σ H Q := fun pins s I => h ⟨pins, s, I⟩ pins s I
/-- behind: what never changed stays, what may is as Q says -/
structure Beh (K : PySem.W.Frag) (F : Hp) (M : Mem) (H : Hp) (F' : Hp) (M' : Mem) (H' : Hp) : Prop where
  sm : Same F F'
  rm : RM K F' M' H'
  fr : Fr M H M' H'
  fg : ∀ b, F' b ≠ none → F b ≠ none ∨ M b ≠ none ∨ H b = none
theorem Beh.refl {K : PySem.W.Frag} {F H : Hp} {M : Mem} (r : RM K F M H) : Beh K F M H F M H := ⟨Same.refl F, r, Fr.refl, fun _ h => .inl h⟩
theorem Beh.trans {K : PySem.W.Frag} {F F1 F2 H H1 H2 : Hp} {M M1 M2 : Mem} (a : Beh K F M H F1 M1 H1) (b : Beh K F1 M1 H1 F2 M2 H2) : Beh K F M H F2 M2 H2 := by
  have back : ∀ c, H1 c = none → H c = none := fun c z => by
    cases q : H c with
    | none => rfl
    | some u => exact absurd z (a.fr.there c (by rw [q]; exact Option.some_ne_none _))
  refine ⟨a.sm.trans b.sm, b.rm, a.fr.trans b.fr, fun c h => ?_⟩
  rcases b.fg c h with z | z | z
  · exact a.fg c z
  · rcases a.fr.grow c z with y | y
    · exact .inr (.inl y)
    · exact .inr (.inr y)
  · exact .inr (.inr (back c z))
theorem fg_upd {F H : Hp} {M : Mem} {p : Addr} {o : HO} (n : H p = none ∨ M p ≠ none) : ∀ b, upd F p o b ≠ none → F b ≠ none ∨ M b ≠ none ∨ H b = none := fun b h => by
  by_cases hb : b = p
  · subst hb
    rcases n with n | n
    · exact .inr (.inr n)
    · exact .inr (.inl n)
  · rw [upd_ne hb] at h
    exact .inl h
theorem RM.beh {K : PySem.W.Frag} {F H : Hp} {M : Mem} {p : Addr} {o : HO} (r : RM K F M H) (n : H p = none) : Beh K F M H (upd F p o) M (upd H p o) := ⟨(r.fresh n).1, (r.fresh n).2.1, (r.fresh n).2.2, fg_upd (.inl n)⟩
theorem RM.behNew {K : PySem.W.Frag} {F H : Hp} {M : Mem} {p : Addr} {o : HO} {m : MO} (r : RM K F M H) (n : H p = none) (q : RO K F m o) : Beh K F M H F (M.put p m) (upd H p o) := ⟨Same.refl F, (r.new n q).1, (r.new n q).2, fun _ h => .inl h⟩
theorem RM.behWrite {K : PySem.W.Frag} {F H : Hp} {M : Mem} {p : Addr} {o : HO} {m m' : MO} (r : RM K F M H) (e : M p = some m) (q : RO K F m' o) : Beh K F M H F (M.put p m') (upd H p o) := ⟨Same.refl F, (r.write e q).1, (r.write e q).2, fun _ h => .inl h⟩
theorem RM.behDrop {K : PySem.W.Frag} {F H : Hp} {M : Mem} {p : Addr} (r : RM K F M H) : Beh K F M H F (M.drop p) H := ⟨Same.refl F, r.drop.1, r.drop.2, fun _ h => .inl h⟩
theorem RM.behFreeze {K : PySem.W.Frag} {F H : Hp} {M : Mem} {p : Addr} {m : MO} (r : RM K F M H) (e : M p = some m) : ∃ o, Beh K F M H (upd F p o) (M.drop p) H ∧ RO K F m o := by
  obtain ⟨o, a, b, c, d⟩ := r.freeze e
  exact ⟨o, ⟨a, b, c, fg_upd (.inr (by rw [e]; exact Option.some_ne_none _))⟩, d⟩
/-- a thing of the machine's own -/
theorem RM.behHid {K : PySem.W.Frag} {F H : Hp} {M : Mem} {p : Addr} {o : HO} (r : RM K F M H) (nF : F p = none) (nM : M p = none) : RM K F M (upd H p o) ∧ (H p = none → Beh K F M H F M (upd H p o)) := by
  have x : RM K F M (upd H p o) := ⟨fun b u e => by rw [upd_ne (ne_of_none e nF)]; exact r.fr b u e, r.dj, fun b m e => by
    have hb : b ≠ p := fun z => by rw [z, nM] at e; cases e
    obtain ⟨u, e1, e2⟩ := r.mu b m e
    exact ⟨u, by rw [upd_ne hb]; exact e1, e2⟩⟩
  exact ⟨x, fun n => ⟨Same.refl F, x, (r.fresh n).2.2, fun _ h => .inl h⟩⟩
def LQ (K : PySem.W.Frag) (F : Hp) (M : Mem) (H : Hp) (Q : PQ) : VK := fun v H' => ∃ F' M' x, Beh K F M H F' M' H' ∧ R K F' x v ∧ Q x M'
def LB (K : PySem.W.Frag) (F : Hp) (M : Mem) (H : Hp) (Q : Bool → Mem → Prop) : Bool → Hp → Prop := fun b H' => ∃ F' M', Beh K F M H F' M' H' ∧ Q b M'
def LL (K : PySem.W.Frag) (F : Hp) (M : Mem) (H : Hp) (Q : List PV → Mem → Prop) : List V → Hp → Prop := fun vs H' => ∃ F' M' xs, Beh K F M H F' M' H' ∧ RAll K F' xs vs ∧ Q xs M'
theorem LQ.tr {K : PySem.W.Frag} {F F1 H H1 : Hp} {M M1 : Mem} {Q : PQ} (b : Beh K F M H F1 M1 H1) {v : V} {H2 : Hp} : LQ K F1 M1 H1 Q v H2 → LQ K F M H Q v H2
  | ⟨F2, M2, x, b2, r, q⟩ => ⟨F2, M2, x, b.trans b2, r, q⟩
theorem LB.tr {K : PySem.W.Frag} {F F1 H H1 : Hp} {M M1 : Mem} {Q : Bool → Mem → Prop} (b : Beh K F M H F1 M1 H1) {v : Bool} {H2 : Hp} : LB K F1 M1 H1 Q v H2 → LB K F M H Q v H2
  | ⟨F2, M2, b2, q⟩ => ⟨F2, M2, b.trans b2, q⟩
theorem LL.tr {K : PySem.W.Frag} {F F1 H H1 : Hp} {M M1 : Mem} {Q : List PV → Mem → Prop} (b : Beh K F M H F1 M1 H1) {v : List V} {H2 : Hp} : LL K F1 M1 H1 Q v H2 → LL K F M H Q v H2
  | ⟨F2, M2, x, b2, r, q⟩ => ⟨F2, M2, x, b.trans b2, r, q⟩
theorem LQ.now {K : PySem.W.Frag} {F H : Hp} {M : Mem} {Q : PQ} {v : V} {x : PV} (r : RM K F M H) (q : R K F x v) (h : Q x M) : LQ K F M H Q v H := ⟨F, M, x, Beh.refl r, q, h⟩
/-- how the exception's attributes lie -/
def XA (K : PySem.W.Frag) (F : Hp) (fs : List (Str × PV)) (d : Option Addr) (H : Hp) : Prop := match d with
  | none => fs = []
  | some a => fs ≠ [] ∧ ∃ vs, H a = some (.xd vs) ∧ F a = some (.xd vs) ∧ RFs K F fs vs
def LX (K : PySem.W.Frag) (F : Hp) (M : Mem) (H : Hp) (E : PXK) : XK := fun cls d H' => ∃ F' M' C fs, cls = .ref C ∧ Beh K F M H F' M' H' ∧ XA K F' fs d H' ∧ E C fs M'
theorem LX.tr {K : PySem.W.Frag} {F F1 H H1 : Hp} {M M1 : Mem} {E : PXK} (b : Beh K F M H F1 M1 H1) {cls : Value} {d : Option Addr} {H2 : Hp} : LX K F1 M1 H1 E cls d H2 → LX K F M H E cls d H2
  | ⟨F2, M2, C, fs, h1, b2, h3, h4⟩ => ⟨F2, M2, C, fs, h1, b.trans b2, h3, h4⟩
/-- such exceptions may leave -/
def PTk (X : Cx) (F : Hp) (M : Mem) (H : Hp) (E : PXK) : Prop := Takes X (fun cls d _ H' => LX X.K F M H E cls d H')
theorem PTk.tr {X : Cx} {F F1 H H1 : Hp} {M M1 : Mem} {E : PXK} (tk : PTk X F M H E) (b : Beh X.K F M H F1 M1 H1) : PTk X F1 M1 H1 E := tk.imp fun _ _ _ _ h => h.tr b
def noX : PXK := fun _ _ _ => False
theorem PTk.no {X : Cx} {F H : Hp} {M : Mem} : PTk X F M H noX := fun _ _ ⟨_, _, _, _, _, _, _, _, _, _, _, _, _, _, _, _, _, _, _, _, _, _, _, z⟩ => z.elim
structure LE (X : Cx) (e : Expr) (t : PTE) : Prop where
  run : ∀ (σv : L2.St) (H : Hp) (σ : PSt) (F : Hp) (M : Mem) (Q : PQ) (E : PXK), PTk X F M H E → RM X.K F M H → RS X.K F σ σv → t E σ M Q → WE X e σv H (LQ X.K F M H Q)
structure LT (X : Cx) (e : Expr) (t : PTT) : Prop where
  run : ∀ (σv : L2.St) (H : Hp) (σ : PSt) (F : Hp) (M : Mem) (Q : Bool → Mem → Prop) (E : PXK), PTk X F M H E → RM X.K F M H → RS X.K F σ σv → t E σ M Q → WT X e σv H (LB X.K F M H Q)
structure LW (X : Cx) (e : Expr) (t : PTT) : Prop where
  run : ∀ (σv : L2.St) (H : Hp) (σ : PSt) (F : Hp) (M : Mem) (Q : Bool → Mem → Prop) (E : PXK), PTk X F M H E → RM X.K F M H → RS X.K F σ σv → t E σ M Q → WW X e σv H (LB X.K F M H Q)
structure LA (X : Cx) (es : List Expr) (t : PTA) : Prop where
  run : ∀ (σv : L2.St) (H : Hp) (σ : PSt) (F : Hp) (M : Mem) (Q : List PV → Mem → Prop) (E : PXK), PTk X F M H E → RM X.K F M H → RS X.K F σ σv → t E σ M Q → WA X es σv H (fun vs H' => vs.length = es.length ∧ LL X.K F M H Q vs H')
theorem LW.lt {X : Cx} {e : Expr} {t : PTT} (h : LW X e t) : LT X e t := ⟨fun σv H σ F M Q E tk r s q pins s' I => h.run σv H σ F M Q E tk r s q _ pins s' I⟩
/-! ### small words of the readings -/
def need {α : Type} (o : Option α) (k : α → Prop) : Prop := match o with | some a => k a | none => False
theorem need_some {α : Type} {a : α} {k : α → Prop} : need (some a) k = k a := rfl
theorem need_none {α : Type} {k : α → Prop} : need none k = False := rfl
theorem need_of {α : Type} {o : Option α} {k : α → Prop} (h : need o k) : ∃ a, o = some a ∧ k a := by
  cases o with
  | some a => exact ⟨a, rfl, h⟩
  | none => exact h.elim
theorem need_by {α : Type} {o : Option α} {a : α} {k : α → Prop} (e : o = some a) (h : k a) : need o k := by rw [e]; exact h
section
variable {X : Cx} {a b c e : Expr} {ta tb tc : PTE} {pos : Pos} {σv : L2.St} {H : Hp} {σ : PSt} {F : Hp} {M : Mem}
/-- two in a row -/
theorem seq2 (ha : LE X a ta) (hb : LE X b tb) {E : PXK} (tk : PTk X F M H E) (r : RM X.K F M H) (s : RS X.K F σ σv) {k : PV → PV → Mem → Prop} (h : ta E σ M fun x M1 => tb E σ M1 fun y M2 => k x y M2)
    {Q : V → V → Hp → Prop} (hk : ∀ x y xv yv F2 M2 H2, Beh X.K F M H F2 M2 H2 → R X.K F2 x xv → R X.K F2 y yv → k x y M2 → Q xv yv H2) :
    WE X a σv H fun xv H1 => WE X b σv H1 fun yv H2 => Q xv yv H2 := by
  refine (ha.run σv H σ F M _ E tk r s h).mono ?_
  rintro xv H1 ⟨F1, M1, x, b1, rx, h1⟩
  refine (hb.run σv H1 σ F1 M1 _ E (tk.tr b1) b1.rm (s.same b1.sm) h1).mono ?_
  rintro yv H2 ⟨F2, M2, y, b2, ry, h2⟩
  exact hk x y xv yv F2 M2 H2 (b1.trans b2) (rx.same b2.sm) ry h2
/-! ### names, constants -/
def pVar (i : Nat) : PTE := fun E σ M Q => match σ[i]? with | some (some x) => Q x M | _ => False
def pC (x : PV) : PTE := fun _ _ M Q => Q x M
theorem LE.var (i : Nat) {x : Str} (hN : X.N[i]? = some x := by rfl) (hv : Vis X.env.scope x := by first | exact Or.inl rfl | exact Or.inr (Or.inl rfl) | exact Or.inr (Or.inr rfl))
    (hd : (x == ("__debug__" : Str)) = false := by decide) (hcd : (x == ("__classdict__" : Str)) = false := by decide) : LE X (.Name x pos) (pVar i) := by
  refine ⟨fun σv H σ F M Q E tk r s h => WE.of (pe_var (i := i) hN hv hd hcd) ?_⟩
  unfold pVar at h
  split at h
  · rename_i x hx
    obtain ⟨v, h1, h2⟩ := s.at_ i x hx
    exact ⟨v, h1, LQ.now r h2 h⟩
  · exact h.elim
theorem LE.int {i j} : LE X (.Constant (.int i) j pos) (pC (.int i)) := ⟨fun σv H σ F M Q E tk r s h => WE.of pe_int (LQ.now r (.int i) h)⟩
theorem LE.bl {b j} : LE X (.Constant (.bool b) j pos) (pC (.bl b)) := ⟨fun σv H σ F M Q E tk r s h => WE.of pe_bl (LQ.now r (.bl b) h)⟩
theorem LE.non {j} : LE X (.Constant .none j pos) (pC .non) := ⟨fun σv H σ F M Q E tk r s h => WE.of pe_non (LQ.now r .non h)⟩
theorem LE.str {x j} : LE X (.Constant (.str x) j pos) (pC (.str x)) := ⟨fun σv H σ F M Q E tk r s h => WE.of pe_str (LQ.now r (.str x) h)⟩
/-! ### operators -/
abbrev PO2 := PV → PV → Mem → PQ → Prop
def POp (K : PySem.W.Frag) (r : R2) (o : PO2) : Prop := ∀ (F : Hp) (M : Mem) (H : Hp) (x y : PV) (xv yv : V) (Q : PQ) (Qv : VK), RM K F M H → R K F x xv → R K F y yv → o x y M Q →
  (∀ v H', LQ K F M H Q v H' → Qv v H') → r xv yv H Qv
def pBin (o : PO2) (ta tb : PTE) : PTE := fun E σ M Q => ta E σ M fun x M1 => tb E σ M1 fun y M2 => o x y M2 Q
theorem LE.bin {op : Operator} {r : R2} {o : PO2} (ho : OpR X (binaryOp op) r) (hp : POp X.K r o) (ha : LE X a ta) (hb : LE X b tb) : LE X (.BinOp a op b pos) (pBin o ta tb) := by
  refine ⟨fun σv H σ F M Q E tk rm rs h => WE.of (pe_op ho WE.pe WE.pe) ?_⟩
  exact seq2 ha hb tk rm rs h fun x y xv yv F2 M2 H2 bh rx ry h2 => hp F2 M2 H2 x y xv yv Q _ bh.rm rx ry h2 fun v H' q => q.tr bh
theorem LE.cmp {op : CmpOp} {r : R2} {o : PO2} (ho : OpR X (compareOp op) r) (hp : POp X.K r o) (hm : behindInMarks op b = false) (ha : LE X a ta) (hb : LE X b tb) : LE X (.Compare a [op] [b] pos) (pBin o ta tb) := by
  refine ⟨fun σv H σ F M Q E tk rm rs h => WE.of (pe_cmpR ho WE.pe WE.pe hm) ?_⟩
  exact seq2 ha hb tk rm rs h fun x y xv yv F2 M2 H2 bh rx ry h2 => hp F2 M2 H2 x y xv yv Q _ bh.rm rx ry h2 fun v H' q => q.tr bh
/-- a value that is a bool, as a test's -/
def kB (x : PV) (k : Bool → Prop) : Prop := match x with | .bl b => k b | _ => False
theorem kB_bl {b : Bool} {k : Bool → Prop} : kB (.bl b) k = k b := rfl
theorem R.bl_inv {K : PySem.W.Frag} {F : Hp} {x : PV} {v : V} {k : Bool → Prop} (r : R K F x v) (h : kB x k) : ∃ c, v = .bl c ∧ k c := by
  cases r <;> first | exact h.elim | exact ⟨_, rfl, h⟩
def pTest (t : PTE) : PTT := fun E σ M Q => t E σ M fun x M1 => kB x fun b => Q b M1
theorem LT.cmp {op : CmpOp} {r : R2} {o : PO2} (ho : OpR X (compareOp op) r) (hp : POp X.K r o) (hm : behindInMarks op b = false) (ha : LE X a ta) (hb : LE X b tb) : LT X (.Compare a [op] [b] pos) (pTest (pBin o ta tb)) := by
  refine ⟨fun σv H σ F M Q E tk rm rs h => WT.of (pt_cmpR ho WE.pe WE.pe hm) ?_⟩
  refine seq2 ha hb tk rm rs h fun x y xv yv F2 M2 H2 bh rx ry h2 => hp F2 M2 H2 x y xv yv _ _ bh.rm rx ry h2 fun v H' q => ?_
  obtain ⟨F3, M3, z, b3, rz, hz⟩ := q
  obtain ⟨c, rfl, hc⟩ := rz.bl_inv hz
  exact ⟨c, rfl, F3, M3, bh.trans b3, hc⟩
/-- any expression that hands back a bool, as a test -/
theorem LT.val (h : LE X e ta) (he : ∀ whole, isTrue e X.env whole = (do let v ← whole; standAt e.pos; holding [v] (truthy v)) := by intro _; rfl) : LT X e (pTest ta) := by
  refine ⟨fun σv H σ F M Q E tk rm rs hh => WT.of (pt_val WE.pe he) ?_⟩
  refine (h.run σv H σ F M _ E tk rm rs hh).mono ?_
  rintro v H1 ⟨F1, M1, x, b1, rx, hx⟩
  obtain ⟨c, rfl, hc⟩ := rx.bl_inv hx
  exact ⟨c, rfl, F1, M1, b1, hc⟩
/-! ### ints -/
def oI (C : Int → Int → Prop) (g : Int → Int → PV) : PO2 := fun x y M Q => match x, y with | .int i, .int j => C i j ∧ Q (g i j) M | _, _ => False
def oI0 (g : Int → Int → PV) : PO2 := fun x y M Q => match x, y with | .int i, .int j => Q (g i j) M | _, _ => False
theorem pop_I {K : PySem.W.Frag} {C : Int → Int → Prop} {g : Int → Int → PV} {gv : Int → Int → V} (hg : ∀ F i j, R K F (g i j) (gv i j)) : POp K (rI C gv) (oI C g) := by
  intro F M H x y xv yv Q Qv rm rx ry h k
  cases rx <;> cases ry <;> first
    | exact h.elim
    | exact ⟨_, _, rfl, rfl, h.1, k _ _ (LQ.now rm (hg _ _ _) h.2)⟩
theorem pop_I0 {K : PySem.W.Frag} {g : Int → Int → PV} {gv : Int → Int → V} (hg : ∀ F i j, R K F (g i j) (gv i j)) : POp K (rI0 gv) (oI0 g) := by
  intro F M H x y xv yv Q Qv rm rx ry h k
  cases rx <;> cases ry <;> first
    | exact h.elim
    | exact ⟨_, _, rfl, rfl, k _ _ (LQ.now rm (hg _ _ _) h)⟩
abbrev oSub := oI0 fun i j => .int (i - j)
abbrev oMul := oI CMul fun i j => .int (i * j)
abbrev oDiv := oI CDiv fun i j => .int (i / j)
abbrev oMod := oI (fun _ j => 0 < j) fun i j => .int (i % j)
abbrev oPow := oI CPow fun i j => .int (i ^ j.toNat)
abbrev oLt := oI0 fun i j => .bl (decide (i < j))
abbrev oLe := oI0 fun i j => .bl (decide (i ≤ j))
abbrev oGt := oI0 fun i j => .bl (decide (j < i))
abbrev oGe := oI0 fun i j => .bl (decide (j ≤ i))
theorem LE.sub (ha : LE X a ta) (hb : LE X b tb) : LE X (.BinOp a .Sub b pos) (pBin oSub ta tb) := LE.bin op_sub (pop_I0 fun _ _ _ => .int _) ha hb
theorem LE.mul (ha : LE X a ta) (hb : LE X b tb) : LE X (.BinOp a .Mult b pos) (pBin oMul ta tb) := LE.bin op_mul (pop_I fun _ _ _ => .int _) ha hb
theorem LE.div (ha : LE X a ta) (hb : LE X b tb) : LE X (.BinOp a .FloorDiv b pos) (pBin oDiv ta tb) := LE.bin op_fdiv (pop_I fun _ _ _ => .int _) ha hb
theorem LE.mod (ha : LE X a ta) (hb : LE X b tb) : LE X (.BinOp a .Mod b pos) (pBin oMod ta tb) := LE.bin op_mod (pop_I fun _ _ _ => .int _) ha hb
theorem LE.pow (ha : LE X a ta) (hb : LE X b tb) : LE X (.BinOp a .Pow b pos) (pBin oPow ta tb) := LE.bin op_pow (pop_I fun _ _ _ => .int _) ha hb
theorem LE.lt (ha : LE X a ta) (hb : LE X b tb) : LE X (.Compare a [.Lt] [b] pos) (pBin oLt ta tb) := LE.cmp op_lt (pop_I0 fun _ _ _ => .bl _) (nomark _) ha hb
theorem LE.le (ha : LE X a ta) (hb : LE X b tb) : LE X (.Compare a [.LtE] [b] pos) (pBin oLe ta tb) := LE.cmp op_le (pop_I0 fun _ _ _ => .bl _) (nomark _) ha hb
theorem LE.gt (ha : LE X a ta) (hb : LE X b tb) : LE X (.Compare a [.Gt] [b] pos) (pBin oGt ta tb) := LE.cmp op_gt (pop_I0 fun _ _ _ => .bl _) (nomark _) ha hb
theorem LE.ge (ha : LE X a ta) (hb : LE X b tb) : LE X (.Compare a [.GtE] [b] pos) (pBin oGe ta tb) := LE.cmp op_ge (pop_I0 fun _ _ _ => .bl _) (nomark _) ha hb
theorem LT.lt (ha : LE X a ta) (hb : LE X b tb) : LT X (.Compare a [.Lt] [b] pos) (pTest (pBin oLt ta tb)) := LT.cmp op_lt (pop_I0 fun _ _ _ => .bl _) (nomark _) ha hb
theorem LT.le (ha : LE X a ta) (hb : LE X b tb) : LT X (.Compare a [.LtE] [b] pos) (pTest (pBin oLe ta tb)) := LT.cmp op_le (pop_I0 fun _ _ _ => .bl _) (nomark _) ha hb
theorem LT.gt (ha : LE X a ta) (hb : LE X b tb) : LT X (.Compare a [.Gt] [b] pos) (pTest (pBin oGt ta tb)) := LT.cmp op_gt (pop_I0 fun _ _ _ => .bl _) (nomark _) ha hb
theorem LT.ge (ha : LE X a ta) (hb : LE X b tb) : LT X (.Compare a [.GtE] [b] pos) (pTest (pBin oGe ta tb)) := LT.cmp op_ge (pop_I0 fun _ _ _ => .bl _) (nomark _) ha hb
def pNeg (ta : PTE) : PTE := fun E σ M Q => ta E σ M fun x M1 => match x with | .int i => Q (.int (-i)) M1 | _ => False
theorem LE.neg (ha : LE X a ta) : LE X (.UnaryOp .USub a pos) (pNeg ta) := by
  refine ⟨fun σv H σ F M Q E tk rm rs h => WE.of (pe_un un_neg WE.pe) ?_⟩
  refine (ha.run σv H σ F M _ E tk rm rs h).mono ?_
  rintro v H1 ⟨F1, M1, x, b1, rx, hx⟩
  cases rx <;> first
    | exact hx.elim
    | exact ⟨_, rfl, LQ.tr b1 (LQ.now b1.rm (.int _) hx)⟩
/-- a <= b <= c and its like -/
def pChain (p q : Int → Int → Bool) (ta tb tc : PTE) : PTE := fun E σ M Q => ta E σ M fun x M1 => tb E σ M1 fun y M2 => match x, y with
  | .int i, .int j => if p i j = true then tc E σ M2 fun z M3 => match z with | .int l => Q (.bl (q j l)) M3 | _ => False else Q (.bl false) M2
  | _, _ => False
theorem LE.chain {op op' : CmpOp} {p q : Int → Int → Bool} (ho : OpR X (compareOp op) (rI0 fun i j => .bl (p i j))) (ho' : OpR X (compareOp op') (rI0 fun i j => .bl (q i j)))
    (hm : lastMarks [op, op'] [b, c] = false) (ha : LE X a ta) (hb : LE X b tb) (hc : LE X c tc) : LE X (.Compare a [op, op'] [b, c] pos) (pChain p q ta tb tc) := by
  refine ⟨fun σv H σ F M Q E tk rm rs h => WE.of (pe_chain ho ho' WE.pe WE.pe WE.pe hm) ?_⟩
  refine seq2 ha hb tk rm rs h fun x y xv yv F2 M2 H2 bh rx ry h2 => ?_
  cases rx <;> cases ry <;> first
    | exact h2.elim
    | skip
  rename_i i j
  dsimp only at h2
  refine ⟨i, j, rfl, rfl, p i j, rfl, ?_⟩
  split
  · rename_i hp
    rw [if_pos hp] at h2
    refine (hc.run σv H2 σ F2 M2 _ E (tk.tr bh) bh.rm (rs.same bh.sm) h2).mono ?_
    rintro v H3 ⟨F3, M3, z, b3, rz, hz⟩
    cases rz <;> first
      | exact hz.elim
      | exact ⟨j, _, rfl, rfl, LQ.tr (bh.trans b3) (LQ.now b3.rm (.bl _) hz)⟩
  · rename_i hp
    rw [if_neg hp] at h2
    exact LQ.tr bh (LQ.now bh.rm (.bl _) h2)
theorem LE.lele (ha : LE X a ta) (hb : LE X b tb) (hc : LE X c tc) (hm : lastMarks [CmpOp.LtE, CmpOp.LtE] [b, c] = false := by with_unfolding_all rfl) : LE X (.Compare a [.LtE, .LtE] [b, c] pos) (pChain (fun i j => decide (i ≤ j)) (fun i j => decide (i ≤ j)) ta tb tc) :=
  LE.chain op_le op_le hm ha hb hc
/-! ### is None -/
def isNon : PV → Bool | .non => true | _ => false
theorem R.isNon {K : PySem.W.Frag} {F : Hp} {x : PV} {v : V} (r : R K F x v) : decide (v = .non) = isNon x := by
  cases r <;> rfl
def pIsN (ta : PTE) : PTE := fun E σ M Q => ta E σ M fun x M1 => Q (.bl (isNon x)) M1
def pNotN (ta : PTE) : PTE := fun E σ M Q => ta E σ M fun x M1 => Q (.bl (!isNon x)) M1
def pTIsN (ta : PTE) : PTT := fun E σ M Q => ta E σ M fun x M1 => Q (isNon x) M1
def pTNotN (ta : PTE) : PTT := fun E σ M Q => ta E σ M fun x M1 => Q (!isNon x) M1
theorem LE.isN {j pos'} (ha : LE X a ta) : LE X (.Compare a [.Is] [.Constant .none j pos'] pos) (pIsN ta) := by
  refine ⟨fun σv H σ F M Q E tk rm rs h => WE.of (pe_cmp (pc_isN WE.pe)) ?_⟩
  refine (ha.run σv H σ F M _ E tk rm rs h).mono ?_
  rintro v H1 ⟨F1, M1, x, b1, rx, hx⟩
  exact ⟨F1, M1, _, b1, by rw [rx.isNon]; exact .bl _, hx⟩
theorem LT.isN {j pos'} (ha : LE X a ta) : LT X (.Compare a [.Is] [.Constant .none j pos'] pos) (pTIsN ta) := by
  refine ⟨fun σv H σ F M Q E tk rm rs h => WT.of (pt_cmp (pc_isN WE.pe)) ?_⟩
  refine (ha.run σv H σ F M _ E tk rm rs h).mono ?_
  rintro v H1 ⟨F1, M1, x, b1, rx, hx⟩
  exact ⟨_, by rw [rx.isNon], F1, M1, b1, hx⟩
/-! ### and, or, not -/
variable {rest : List Expr} {tt tu : PTT}
def pAnd (t u : PTT) : PTT := fun E σ M Q => t E σ M fun c M1 => if c = true then u E σ M1 Q else Q false M1
def pOr (t u : PTT) : PTT := fun E σ M Q => t E σ M fun c M1 => if c = true then Q true M1 else u E σ M1 Q
def pNot (t : PTT) : PTT := fun E σ M Q => t E σ M fun c M1 => Q (!c) M1
theorem LW.and1 (ha : LT X a tt) : LW X (.BoolOp .And [a] pos) tt := ⟨fun σv H σ F M Q E tk rm rs h => WW.of (pw_and1 WT.pt) (ha.run σv H σ F M Q E tk rm rs h)⟩
theorem LW.or1 (ha : LT X a tt) : LW X (.BoolOp .Or [a] pos) tt := ⟨fun σv H σ F M Q E tk rm rs h => WW.of (pw_or1 WT.pt) (ha.run σv H σ F M Q E tk rm rs h)⟩
theorem LW.and (ha : LT X a tt) (hb : LW X (.BoolOp .And (b :: rest) pos) tu) : LW X (.BoolOp .And (a :: b :: rest) pos) (pAnd tt tu) := by
  refine ⟨fun σv H σ F M Q E tk rm rs h => WW.of (pw_and WT.pt WW.pw) ?_⟩
  refine (ha.run σv H σ F M _ E tk rm rs h).mono ?_
  rintro c H1 ⟨F1, M1, b1, hc⟩
  split
  · rename_i e
    rw [if_pos e] at hc
    exact (hb.run σv H1 σ F1 M1 _ E (tk.tr b1) b1.rm (rs.same b1.sm) hc).mono fun v H' q => q.tr b1
  · rename_i e
    rw [if_neg e] at hc
    exact ⟨F1, M1, b1, hc⟩
theorem LW.or (ha : LT X a tt) (hb : LW X (.BoolOp .Or (b :: rest) pos) tu) : LW X (.BoolOp .Or (a :: b :: rest) pos) (pOr tt tu) := by
  refine ⟨fun σv H σ F M Q E tk rm rs h => WW.of (pw_or WT.pt WW.pw) ?_⟩
  refine (ha.run σv H σ F M _ E tk rm rs h).mono ?_
  rintro c H1 ⟨F1, M1, b1, hc⟩
  split
  · rename_i e
    rw [if_pos e] at hc
    exact ⟨F1, M1, b1, hc⟩
  · rename_i e
    rw [if_neg e] at hc
    exact (hb.run σv H1 σ F1 M1 _ E (tk.tr b1) b1.rm (rs.same b1.sm) hc).mono fun v H' q => q.tr b1
theorem LT.not (ha : LT X a tt) : LT X (.UnaryOp .Not a pos) (pNot tt) := by
  refine ⟨fun σv H σ F M Q E tk rm rs h => WT.of (pt_not WT.pt) ?_⟩
  refine (ha.run σv H σ F M _ E tk rm rs h).mono ?_
  rintro c H1 ⟨F1, M1, b1, hc⟩
  exact ⟨F1, M1, b1, hc⟩
def pAndV (ta tb : PTE) : PTE := fun E σ M Q => ta E σ M fun x M1 => kB x fun c => if c = true then tb E σ M1 Q else Q (.bl false) M1
def pOrV (ta tb : PTE) : PTE := fun E σ M Q => ta E σ M fun x M1 => kB x fun c => if c = true then Q (.bl true) M1 else tb E σ M1 Q
def pNotV (ta : PTE) : PTE := fun E σ M Q => ta E σ M fun x M1 => kB x fun c => Q (.bl (!c)) M1
theorem LE.one {op} (ha : LE X a ta) : LE X (.BoolOp op [a] pos) ta := ⟨fun σv H σ F M Q E tk rm rs h => WE.of (pe_one WE.pe) (ha.run σv H σ F M Q E tk rm rs h)⟩
theorem LE.and (ha : LE X a ta) (hb : LE X (.BoolOp .And (b :: rest) pos) tb) : LE X (.BoolOp .And (a :: b :: rest) pos) (pAndV ta tb) := by
  refine ⟨fun σv H σ F M Q E tk rm rs h => WE.of (pe_and WE.pe WE.pe) ?_⟩
  refine (ha.run σv H σ F M _ E tk rm rs h).mono ?_
  rintro v H1 ⟨F1, M1, x, b1, rx, hx⟩
  obtain ⟨c, rfl, hc⟩ := rx.bl_inv hx
  refine ⟨c, rfl, ?_⟩
  split
  · rename_i e
    rw [if_pos e] at hc
    exact (hb.run σv H1 σ F1 M1 _ E (tk.tr b1) b1.rm (rs.same b1.sm) hc).mono fun v H' q => q.tr b1
  · rename_i e
    rw [if_neg e] at hc
    exact ⟨F1, M1, _, b1, .bl _, hc⟩
theorem LE.or (ha : LE X a ta) (hb : LE X (.BoolOp .Or (b :: rest) pos) tb) : LE X (.BoolOp .Or (a :: b :: rest) pos) (pOrV ta tb) := by
  refine ⟨fun σv H σ F M Q E tk rm rs h => WE.of (pe_or WE.pe WE.pe) ?_⟩
  refine (ha.run σv H σ F M _ E tk rm rs h).mono ?_
  rintro v H1 ⟨F1, M1, x, b1, rx, hx⟩
  obtain ⟨c, rfl, hc⟩ := rx.bl_inv hx
  refine ⟨c, rfl, ?_⟩
  split
  · rename_i e
    rw [if_pos e] at hc
    exact ⟨F1, M1, _, b1, .bl _, hc⟩
  · rename_i e
    rw [if_neg e] at hc
    exact (hb.run σv H1 σ F1 M1 _ E (tk.tr b1) b1.rm (rs.same b1.sm) hc).mono fun v H' q => q.tr b1
theorem LE.not (ha : LE X a ta) : LE X (.UnaryOp .Not a pos) (pNotV ta) := by
  refine ⟨fun σv H σ F M Q E tk rm rs h => WE.of (pe_not WE.pe) ?_⟩
  refine (ha.run σv H σ F M _ E tk rm rs h).mono ?_
  rintro v H1 ⟨F1, M1, x, b1, rx, hx⟩
  obtain ⟨c, rfl, hc⟩ := rx.bl_inv hx
  exact ⟨c, rfl, F1, M1, _, b1, .bl _, hc⟩
def pIf (t : PTT) (ta tb : PTE) : PTE := fun E σ M Q => t E σ M fun c M1 => if c = true then ta E σ M1 Q else tb E σ M1 Q
/-! ### argument lists, displays -/
variable {es : List Expr} {t : PTA}
def pNil : PTA := fun _ _ M Q => Q [] M
def pCons (ta : PTE) (tr : PTA) : PTA := fun E σ M Q => ta E σ M fun x M1 => tr E σ M1 fun xs M2 => Q (x :: xs) M2
theorem LA.nil : LA X [] pNil := ⟨fun σv H σ F M Q E tk rm rs h => WA.of pa_nil ⟨rfl, F, M, [], Beh.refl rm, .nil, h⟩⟩
theorem LA.cons (ha : LE X e ta) (hr : LA X es t) (hs : starEach (e :: es) X.env = (false, eval e X.env) :: starEach es X.env := by rfl) : LA X (e :: es) (pCons ta t) := by
  refine ⟨fun σv H σ F M Q E tk rm rs h => WA.of (pa_cons WE.pe WA.pa hs) ?_⟩
  refine (ha.run σv H σ F M _ E tk rm rs h).mono ?_
  rintro v H1 ⟨F1, M1, x, b1, rx, hx⟩
  refine (hr.run σv H1 σ F1 M1 _ E (tk.tr b1) b1.rm (rs.same b1.sm) hx).mono ?_
  rintro vs H2 ⟨hl, F2, M2, xs, b2, rxs, hxs⟩
  exact ⟨congrArg (· + 1) hl, F2, M2, _, b1.trans b2, .cons (rx.same b2.sm) rxs, hxs⟩
def pTup (t : PTA) : PTE := fun E σ M Q => t E σ M fun xs M1 => Q (.tup xs) M1
def pLst (t : PTA) : PTE := fun E σ M Q => t E σ M fun xs M1 => Q (.lst xs) M1
def pLstM (t : PTA) : PTE := fun E σ M Q => t E σ M fun xs M1 => ∀ p, M1 p = none → Q (.ptr p) (M1.put p (.lst xs))
theorem LE.tup {x1} (h : LA X es t) (hn : es.length ≤ 1000 := by decide) : LE X (.Tuple es x1 pos) (pTup t) := by
  refine ⟨fun σv H σ F M Q E tk rm rs hh => WE.of (pe_tup WA.pa) ?_⟩
  refine (h.run σv H σ F M _ E tk rm rs hh).mono ?_
  rintro vs H1 ⟨hl, F1, M1, xs, b1, rx, hx⟩
  refine ⟨by rw [hl]; exact Nat.le_of_lt (small1000 hn), fun p np => ?_⟩
  exact ⟨_, M1, _, b1.trans (b1.rm.beh np), .tup (SqT.of upd_same) (rx.same (b1.rm.beh (o := .tup vs) np).sm), hx⟩
theorem LE.lst (h : LA X es t) (hn : es.length ≤ 1000 := by decide) : LE X (.List es pos) (pLst t) := by
  refine ⟨fun σv H σ F M Q E tk rm rs hh => WE.of (pe_lst WA.pa) ?_⟩
  refine (h.run σv H σ F M _ E tk rm rs hh).mono ?_
  rintro vs H1 ⟨hl, F1, M1, xs, b1, rx, hx⟩
  refine ⟨by rw [hl]; exact Nat.le_of_lt (small1000 hn), fun p np => ?_⟩
  exact ⟨_, M1, _, b1.trans (b1.rm.beh np), .lst upd_same (rx.same (b1.rm.beh (o := .lst vs) np).sm), hx⟩
theorem LE.lstM (h : LA X es t) (hn : es.length ≤ 1000 := by decide) : LE X (.List es pos) (pLstM t) := by
  refine ⟨fun σv H σ F M Q E tk rm rs hh => WE.of (pe_lst WA.pa) ?_⟩
  refine (h.run σv H σ F M _ E tk rm rs hh).mono ?_
  rintro vs H1 ⟨hl, F1, M1, xs, b1, rx, hx⟩
  refine ⟨by rw [hl]; exact Nat.le_of_lt (small1000 hn), fun p np => ?_⟩
  exact ⟨_, _, _, b1.trans (b1.rm.behNew np (.lst rx)), .ptr p, hx p (b1.rm.nones np).2⟩
end
end PL
set_option Elab.async false
set_option linter.all false
set_option maxRecDepth 100000
namespace PL
open PySem PySem.Spec PyProof.Rows L2
/-! ### sequences -/
def seqOf (M : Mem) : PV → Option (List PV)
  | .tup xs => some xs
  | .lst xs => some xs
  | .scr xs => some xs
  | .ptr a => match M a with | some (.lst xs) => some xs | _ => none
  | _ => none
def lstOf (M : Mem) : PV → Option (List PV)
  | .lst xs => some xs
  | .scr xs => some xs
  | .ptr a => match M a with | some (.lst xs) => some xs | _ => none
  | _ => none
theorem lstOf_ptr {M : Mem} {a : Addr} {xs : List PV} (h : M a = some (.lst xs)) : lstOf M (.ptr a) = some xs := by
  show (match M a with | some (.lst xs) => some xs | _ => none) = some xs
  rw [h]
section
variable {K : PySem.W.Frag} {F H : Hp} {M : Mem} {x : PV} {v : V} {xs : List PV}
theorem R.lstI (rm : RM K F M H) (r : R K F x v) (h : lstOf M x = some xs) : ∃ a vs, v = .ref a ∧ SqL K H a vs ∧ RAll K F xs vs := by
  cases r with
  | lst e q => cases h; exact ⟨_, _, rfl, SqL.of (rm.fr _ _ e), q⟩
  | scr e q => cases h; exact ⟨_, _, rfl, rm.fr.seq e, q⟩
  | ptr a =>
    cases hm : M a with
    | none =>
      have h' : (match M a with | some (.lst xs) => some xs | _ => none) = some xs := h
      rw [hm] at h'
      cases h'
    | some m =>
      have h' : (match M a with | some (.lst xs) => some xs | _ => none) = some xs := h
      rw [hm] at h'
      cases m with
      | lst ys =>
        cases h'
        obtain ⟨o, e1, q⟩ := rm.mu _ _ hm
        cases q with
        | lst q => exact ⟨_, _, rfl, SqL.of e1, q⟩
      | obj C fs => cases h'
      | dct _ _ => cases h'
  | _ => cases h
theorem lstOf_seq {M : Mem} (h : lstOf M x = some xs) : seqOf M x = some xs := by
  cases x <;> first | exact h | cases h
theorem R.seqI (rm : RM K F M H) (r : R K F x v) (h : seqOf M x = some xs) : ∃ a vs, v = .ref a ∧ (SqL K H a vs ∨ SqT K H a vs) ∧ RAll K F xs vs := by
  cases r with
  | tup e q => cases h; exact ⟨_, _, rfl, .inr (sqT_same rm.fr e), q⟩
  | lst e q => cases h; exact ⟨_, _, rfl, .inl (SqL.of (rm.fr _ _ e)), q⟩
  | scr e q => cases h; exact ⟨_, _, rfl, .inl (rm.fr.seq e), q⟩
  | ptr a =>
    obtain ⟨a', vs, e, q, r⟩ := R.lstI (x := .ptr a) rm (.ptr a) h
    exact ⟨a', vs, e, .inl q, r⟩
  | _ => cases h
theorem RAll.atI {vs : List V} {i : Int} {x : PV} (r : RAll K F xs vs) (h : atI xs i = some x) : ∃ v, L2.atI vs i = some v ∧ R K F x v := by
  unfold L2.atI at h ⊢
  rw [← r.length]
  cases q : ixN xs.length i with
  | none => rw [q] at h; cases h
  | some j =>
    rw [q] at h
    obtain ⟨v, h1, h2⟩ := r.get (i := j) h
    exact ⟨v, h1, h2⟩
end
/-! ### calls of what is built in -/
abbrev POn := List PV → Mem → PQ → Prop
def POc (K : PySem.W.Frag) (r : List V → Hp → VK → Prop) (o : POn) : Prop := ∀ (F : Hp) (M : Mem) (H : Hp) (xs : List PV) (vs : List V) (Q : PQ) (Qv : VK), RM K F M H → RAll K F xs vs → o xs M Q →
  (∀ v H', LQ K F M H Q v H' → Qv v H') → r vs H Qv
def pCallB (o : POn) (t : PTA) : PTE := fun E σ M Q => t E σ M fun xs M1 => o xs M1 Q
section
variable {X : Cx} {a b c e : Expr} {ta tb tc : PTE} {pos p : Pos} {es : List Expr} {t : PTA} {x : Str} {id T : String} {r : List V → Hp → VK → Prop} {o : POn}
theorem LE.callB (hc : CallR X (.builtin id) r) (hp : POc X.K r o) (hg : Gl X x) (hm : X.mg x = none) (hv : bootBuiltins x = some (.builtin id)) (ha : LA X (e :: es) t) (hn : x ≠ "__name__" := by decide) (hdb : (x == ("__debug__" : Str)) = false := by decide)
    (he : starEach (e :: es) X.env = (false, eval e X.env) :: starEach es X.env := by rfl) (hpl : (backTo pos (starEach es X.env)).any (·.1) = false := by rfl) : LE X (.Call (.Name x p) (e :: es) [] pos) (pCallB o t) := by
  refine ⟨fun σv H σ F M Q E tk rm rs h => WE.of (pe_callB hc hg hm hv WA.pa hn hdb he hpl) ?_⟩
  refine (ha.run σv H σ F M _ E tk rm rs h).mono ?_
  rintro vs H1 ⟨hl, F1, M1, xs, b1, rx, hx⟩
  exact hp F1 M1 H1 xs vs Q _ b1.rm rx hx fun v H' q => q.tr b1
theorem LE.callT (hc : CallR X (.type T) r) (hp : POc X.K r o) (hg : Gl X x) (hm : X.mg x = none) (hv : bootBuiltins x = some (.type T)) (ha : LA X (e :: es) t) (hn : x ≠ "__name__" := by decide) (hdb : (x == ("__debug__" : Str)) = false := by decide)
    (he : starEach (e :: es) X.env = (false, eval e X.env) :: starEach es X.env := by rfl) (hpl : (backTo pos (starEach es X.env)).any (·.1) = false := by rfl) : LE X (.Call (.Name x p) (e :: es) [] pos) (pCallB o t) := by
  refine ⟨fun σv H σ F M Q E tk rm rs h => WE.of (pe_callTy hc hg hm hv WA.pa hn hdb he hpl) ?_⟩
  refine (ha.run σv H σ F M _ E tk rm rs h).mono ?_
  rintro vs H1 ⟨hl, F1, M1, xs, b1, rx, hx⟩
  exact hp F1 M1 H1 xs vs Q _ b1.rm rx hx fun v H' q => q.tr b1
theorem RAll.one {K : PySem.W.Frag} {F : Hp} {x : PV} {vs : List V} (r : RAll K F [x] vs) : ∃ v, vs = [v] ∧ R K F x v := by
  cases r with
  | cons r t => cases t; exact ⟨_, rfl, r⟩
theorem RAll.two {K : PySem.W.Frag} {F : Hp} {x y : PV} {vs : List V} (r : RAll K F [x, y] vs) : ∃ v w, vs = [v, w] ∧ R K F x v ∧ R K F y w := by
  cases r with
  | cons r t =>
    obtain ⟨w, e, q⟩ := t.one
    subst e
    exact ⟨_, _, rfl, r, q⟩
/-- one argument -/
def on1 (k : PV → Mem → PQ → Prop) : POn := fun xs M Q => match xs with | [x] => k x M Q | _ => False
def on2 (k : PV → PV → Mem → PQ → Prop) : POn := fun xs M Q => match xs with | [x, y] => k x y M Q | _ => False
theorem on1_of {k : PV → Mem → PQ → Prop} {xs : List PV} {M : Mem} {Q : PQ} (h : on1 k xs M Q) : ∃ x, xs = [x] ∧ k x M Q := by
  unfold on1 at h; split at h
  · exact ⟨_, rfl, h⟩
  · exact h.elim
theorem on2_of {k : PV → PV → Mem → PQ → Prop} {xs : List PV} {M : Mem} {Q : PQ} (h : on2 k xs M Q) : ∃ x y, xs = [x, y] ∧ k x y M Q := by
  unfold on2 at h; split at h
  · exact ⟨_, _, rfl, h⟩
  · exact h.elim
def kLen (x : PV) (M : Mem) (Q : PQ) : Prop := match x with
  | .str y => y.length ≤ sizeLine ∧ Q (.int y.length) M
  | x => need (seqOf M x) fun xs => Q (.int xs.length) M
theorem LE.len (hg : Gl X "len") (hm : X.mg "len" = none) (ha : LA X [e] t) (he : starEach [e] X.env = (false, eval e X.env) :: starEach [] X.env := by rfl) : LE X (.Call (.Name "len" p) [e] [] pos) (pCallB (on1 kLen) t) := by
  refine LE.callB call_len (fun F M H xs vs Q Qv rm rx h k => ?_) hg hm PySem.boot_len ha (he := he)
  obtain ⟨x, ex, h1⟩ := on1_of h
  subst ex
  obtain ⟨v, ev, rx1⟩ := rx.one
  subst ev
  unfold kLen at h1
  split at h1
  · rename_i y
    cases rx1
    exact ⟨_, _, rfl, ⟨h1.1, rfl⟩, k _ _ (LQ.now rm (.int _) h1.2)⟩
  · obtain ⟨ys, e, h2⟩ := need_of h1
    obtain ⟨q, ws, ev, hs, ra⟩ := rx1.seqI rm e
    subst ev
    refine ⟨_, _, rfl, ?_, k _ _ (LQ.now rm (.int _) h2)⟩
    rcases hs with hs | hs
    · exact .inl ⟨ws, hs, ra.length⟩
    · exact .inr ⟨ws, hs, ra.length⟩
def kAbs (x : PV) (M : Mem) (Q : PQ) : Prop := match x with | .int i => Q (.int (if i < 0 then -i else i)) M | _ => False
def kInt (x : PV) (M : Mem) (Q : PQ) : Prop := match x with | .int i => Q (.int i) M | .bl b => Q (.int (if b then 1 else 0)) M | _ => False
theorem LE.intOf (hg : Gl X "int") (hm : X.mg "int" = none) (ha : LA X [e] t) (he : starEach [e] X.env = (false, eval e X.env) :: starEach [] X.env := by rfl) : LE X (.Call (.Name "int" p) [e] [] pos) (pCallB (on1 kInt) t) := by
  refine LE.callT call_int1 (fun F M H xs vs Q Qv rm rx h k => ?_) hg hm (by decide +kernel) ha (he := he)
  obtain ⟨x, ex, h1⟩ := on1_of h
  subst ex
  obtain ⟨v, ev, rx1⟩ := rx.one
  subst ev
  cases rx1 <;> first
    | exact h1.elim
    | exact .inl ⟨_, rfl, k _ _ (LQ.now rm (.int _) h1)⟩
    | exact .inr ⟨_, rfl, k _ _ (LQ.now rm (.int _) h1)⟩
def kMin2 (x y : PV) (M : Mem) (Q : PQ) : Prop := match x, y with | .int i, .int j => Q (.int (if j < i then j else i)) M | _, _ => False
def kMax2 (x y : PV) (M : Mem) (Q : PQ) : Prop := match x, y with | .int i, .int j => Q (.int (if j > i then j else i)) M | _, _ => False
/-! ### list(x), tuple(x) -/
def kList (x : PV) (M : Mem) (Q : PQ) : Prop := need (seqOf M x) fun xs => Q (.lst xs) M
def kListM (x : PV) (M : Mem) (Q : PQ) : Prop := need (seqOf M x) fun xs => ∀ p, M p = none → Q (.ptr p) (M.put p (.lst xs))
def kTup (x : PV) (M : Mem) (Q : PQ) : Prop := need (seqOf M x) fun xs => Q (.tup xs) M
theorem LE.list (hg : Gl X "list") (hm : X.mg "list" = none) (ha : LA X [e] t) (he : starEach [e] X.env = (false, eval e X.env) :: starEach [] X.env := by rfl) : LE X (.Call (.Name "list" p) [e] [] pos) (pCallB (on1 kList) t) := by
  refine LE.callT call_list_of (fun F M H xs vs Q Qv rm rx h k => ?_) hg hm (by decide +kernel) ha (he := he)
  obtain ⟨x, ex, h1⟩ := on1_of h
  subst ex
  obtain ⟨v, ev, rx1⟩ := rx.one
  subst ev
  obtain ⟨ys, e, h2⟩ := need_of h1
  obtain ⟨q, ws, ev, hs, ra⟩ := rx1.seqI rm e
  subst ev
  refine ⟨q, ws, rfl, hs, fun l nl => k _ _ ⟨_, M, _, rm.beh nl, .lst upd_same (ra.same (rm.beh (o := .lst ws) nl).sm), h2⟩⟩
theorem LE.tupOf (hg : Gl X "tuple") (hm : X.mg "tuple" = none) (ha : LA X [e] t) (he : starEach [e] X.env = (false, eval e X.env) :: starEach [] X.env := by rfl) : LE X (.Call (.Name "tuple" p) [e] [] pos) (pCallB (on1 kTup) t) := by
  refine LE.callT call_tuple_of (fun F M H xs vs Q Qv rm rx h k => ?_) hg hm (by decide +kernel) ha (he := he)
  obtain ⟨x, ex, h1⟩ := on1_of h
  subst ex
  obtain ⟨v, ev, rx1⟩ := rx.one
  subst ev
  obtain ⟨ys, e, h2⟩ := need_of h1
  have li : lstOf M x = some ys → ∃ p zs, [v] = [V.ref p] ∧ ((SqL X.K H p zs ∧ ∀ l, H l = none → Qv (.ref l) (upd H l (.tup zs))) ∨ (SqT X.K H p zs ∧ Qv (.ref p) H)) := fun e' => by
    obtain ⟨q, ws, ev, hs, ra⟩ := rx1.lstI rm e'
    subst ev
    exact ⟨q, ws, rfl, .inl ⟨hs, fun l nl => k _ _ ⟨_, M, _, rm.beh nl, .tup (SqT.of upd_same) (ra.same (rm.beh (o := .tup ws) nl).sm), h2⟩⟩⟩
  cases rx1 with
  | tup e' q' =>
    cases e
    exact ⟨_, _, rfl, .inr ⟨sqT_same rm.fr e', k _ _ (LQ.now rm (.tup e' q') h2)⟩⟩
  | lst e' q' => exact li e
  | scr e' q' => exact li e
  | ptr a => exact li e
  | _ => cases e
/-! ### subscripts -/
def oIx : PO2 := fun x y M Q => match y with
  | .int i => match x with
    | .str z => z.length ≤ sizeLine ∧ need (L2.atI z.cps.toList i) fun c => Q (.str ⟨#[c]⟩) M
    | x => need (seqOf M x) fun xs => need (L2.atI xs i) fun z => Q z M
  | _ => False
theorem LE.ix (ha : LE X a ta) (hb : LE X b tb) (hs : PlainIx b := by exact fun _ _ => rfl) : LE X (.Subscript a b pos) (pBin oIx ta tb) := by
  refine ⟨fun σv H σ F M Q E tk rm rs h => WE.of (pe_ix ix_seq WE.pe WE.pe hs) ?_⟩
  refine seq2 ha hb tk rm rs h fun x y xv yv F2 M2 H2 bh rx ry h2 => ?_
  unfold oIx at h2
  split at h2
  · rename_i i
    cases ry
    split at h2
    · rename_i z
      cases rx
      obtain ⟨h3, h4⟩ := h2
      obtain ⟨c, e, h5⟩ := need_of h4
      exact .inr (.inr ⟨z, i, c, rfl, rfl, h3, e, LQ.tr bh (LQ.now bh.rm (.str _) h5)⟩)
    · obtain ⟨ys, e, h3⟩ := need_of h2
      obtain ⟨z, e2, h4⟩ := need_of h3
      obtain ⟨q, ws, ev, hs, ra⟩ := rx.seqI bh.rm e
      subst ev
      obtain ⟨w, e3, rz⟩ := ra.atI e2
      rcases hs with hs | hs
      · exact .inl ⟨q, ws, i, w, rfl, rfl, hs, e3, LQ.tr bh (LQ.now bh.rm rz h4)⟩
      · exact .inr (.inl ⟨q, ws, i, w, rfl, rfl, hs, e3, LQ.tr bh (LQ.now bh.rm rz h4)⟩)
  · exact h2.elim
/-! ### slices -/
abbrev PTO := PXK → PSt → Mem → (Option Int → Mem → Prop) → Prop
structure LO (X : Cx) (e : Option Expr) (t : PTO) : Prop where
  run : ∀ (σv : L2.St) (H : Hp) (σ : PSt) (F : Hp) (M : Mem) (Q : Option Int → Mem → Prop) (E : PXK), PTk X F M H E → RM X.K F M H → RS X.K F σ σv → t E σ M Q →
    ∀ pins s, Inv X pins σv H s → wpAny (model X.prog X.w) X.A (evalPart e X.env) (fun u s' => ∃ o H', Inv X pins σv H' s' ∧ IsPart u o ∧ ∃ F' M', Beh X.K F M H F' M' H' ∧ Q o M') X.xe s
def pNoPart : PTO := fun _ _ M Q => Q none M
def pPart (t : PTE) : PTO := fun E σ M Q => t E σ M fun x M1 => match x with | .int i => Q (some i) M1 | _ => False
theorem LO.none : LO X none pNoPart := ⟨fun σv H σ F M Q E tk rm rs h pins s I => thn (po_none.run pins s σv H (fun o H' => ∃ F' M', Beh X.K F M H F' M' H' ∧ Q o M') I ⟨F, M, Beh.refl rm, h⟩) fun _ _ q => q⟩
theorem LO.some (ha : LE X e ta) : LO X (some e) (pPart ta) := by
  refine ⟨fun σv H σ F M Q E tk rm rs h pins s I => thn ((po_some WE.pe).run pins s σv H (fun o H' => ∃ F' M', Beh X.K F M H F' M' H' ∧ Q o M') I ?_) fun _ _ q => q⟩
  refine (ha.run σv H σ F M _ E tk rm rs h).mono ?_
  rintro v H1 ⟨F1, M1, x, b1, rx, hx⟩
  cases rx <;> first
    | exact hx.elim
    | exact ⟨_, rfl, F1, M1, b1, hx⟩
def WO (X : Cx) (e : Option Expr) (σ : L2.St) (H : Hp) (Q : Option Int → Hp → Prop) : Prop := ∀ pins s, Inv X pins σ H s → wpAny (model X.prog X.w) X.A (evalPart e X.env) (fun u s' => ∃ o H', Inv X pins σ H' s' ∧ IsPart u o ∧ Q o H') X.xe s
theorem WO.po {e : Option Expr} : L2.PO X e (WO X e) := ⟨fun pins s σ H Q I h => h pins s I⟩
def cutP (xs : List PV) (lo hi : Option Int) : List PV := (xs.drop (HT.sIx xs.length 0 lo)).take (HT.sIx xs.length xs.length hi - HT.sIx xs.length 0 lo)
theorem RAll.cut {K : PySem.W.Frag} {F : Hp} {xs : List PV} {vs : List V} (r : RAll K F xs vs) (lo hi : Option Int) : RAll K F (cutP xs lo hi) (cutV vs lo hi) := by
  unfold cutP cutV
  rw [r.length]
  exact (r.drop _).take _
theorem cutP_all {xs : List PV} {lo hi : Option Int} (h : HT.sIx xs.length 0 lo = 0 ∧ HT.sIx xs.length xs.length hi = xs.length) : cutP xs lo hi = xs := by
  unfold cutP
  rw [h.1, h.2]
  simp
def oSl (x : PV) (lo hi : Option Int) (M : Mem) (Q : PQ) : Prop := match x with
  | .tup xs => Q (.tup (cutP xs lo hi)) M
  | x => need (lstOf M x) fun xs => Q (.lst (cutP xs lo hi)) M
def pSl (ta : PTE) (tl th : PTO) : PTE := fun E σ M Q => ta E σ M fun x M1 => tl E σ M1 fun l M2 => th E σ M2 fun u M3 => oSl x l u M3 Q
theorem LE.slice {lo hi : Option Expr} {tl th : PTO} {p2 : Pos} (ha : LE X a ta) (hl : LO X lo tl) (hh : LO X hi th) : LE X (.Subscript a (.Slice lo hi none p2) pos) (pSl ta tl th) := by
  refine ⟨fun σv H σ F M Q E tk rm rs h => WE.of (pe_slice (SlR.or sl_list sl_tupA) WE.pe WO.po WO.po) ?_⟩
  refine (ha.run σv H σ F M _ E tk rm rs h).mono ?_
  rintro v H1 ⟨F1, M1, x, b1, rx, hx⟩
  intro pins s I
  refine thn (hl.run σv H1 σ F1 M1 _ E (tk.tr b1) b1.rm (rs.same b1.sm) hx pins s I) ?_
  rintro u1 s1 ⟨o1, H2, I2, p1, F2, M2, b2, h2⟩
  refine ⟨o1, H2, I2, p1, ?_⟩
  intro pins' s' I'
  refine thn (hh.run σv H2 σ F2 M2 _ E (tk.tr (b1.trans b2)) b2.rm (rs.same (b1.trans b2).sm) h2 pins' s' I') ?_
  rintro u2 s2 ⟨o2, H3, I3, p2, F3, M3, b3, h3⟩
  refine ⟨o2, H3, I3, p2, ?_⟩
  have b := (b1.trans b2).trans b3
  have rx3 := rx.same (b2.trans b3).sm
  unfold oSl at h3
  split at h3
  · rename_i xs
    cases rx3 with
    | tup e q =>
      refine .inr ⟨_, _, rfl, sqT_same b3.rm.fr e, fun hw => ?_, fun _ p np => ?_⟩
      · rw [← q.length] at hw
        rw [cutP_all hw] at h3
        exact LQ.tr b (LQ.now b3.rm (.tup e q) h3)
      · exact LQ.tr b ⟨_, M3, _, b3.rm.beh np, .tup (SqT.of upd_same) ((q.cut _ _).same (b3.rm.beh (o := .tup (cutV _ o1 o2)) np).sm), h3⟩
  · obtain ⟨xs, e, h4⟩ := need_of h3
    obtain ⟨q, ws, ev, hs, ra⟩ := rx3.lstI b3.rm e
    subst ev
    exact .inl ⟨q, ws, rfl, hs, fun p np => LQ.tr b ⟨_, M3, _, b3.rm.beh np, .lst upd_same ((ra.cut _ _).same (b3.rm.beh (o := .lst (cutV ws o1 o2)) np).sm), h4⟩⟩
/-! ### + -/
def oAdd : PO2 := fun x y M Q => match x, y with
  | .int i, .int j => Q (.int (i + j)) M
  | .str i, .str j => i.length + j.length ≤ sizeLine ∧ Q (.str (i ++ j)) M
  | .tup xs, .tup ys => xs.length + ys.length ≤ sizeLine ∧ Q (.tup (xs ++ ys)) M
  | .lst xs, .lst ys => xs.length + ys.length ≤ sizeLine ∧ Q (.lst (xs ++ ys)) M
  | _, _ => False
theorem LE.add (ha : LE X a ta) (hb : LE X b tb) : LE X (.BinOp a .Add b pos) (pBin oAdd ta tb) := by
  refine LE.bin (OpR.or op_add (OpR.or op_add_str (OpR.or op_catA op_cat))) (fun F M H x y xv yv Q Qv rm rx ry h k => ?_) ha hb
  cases rx <;> cases ry <;> first
    | exact h.elim
    | exact .inl ⟨_, _, rfl, rfl, k _ _ (LQ.now rm (.int _) h)⟩
    | exact .inr (.inl ⟨_, _, rfl, rfl, h.1, k _ _ (LQ.now rm (.str _) h.2)⟩)
    | skip
  · rename_i a' xs vs e q b' ys ws e2 q2
    refine .inr (.inr (.inl ⟨_, _, vs, ws, rfl, rfl, sqT_same rm.fr e, sqT_same rm.fr e2, by rw [← q.length, ← q2.length]; exact h.1, fun z => ?_, fun _ z => ?_, fun _ _ p np => ?_⟩))
    · subst z
      have z : xs = [] := List.eq_nil_of_length_eq_zero q.length
      subst z
      exact k _ _ (LQ.now rm (.tup e2 q2) h.2)
    · subst z
      have z : ys = [] := List.eq_nil_of_length_eq_zero q2.length
      subst z
      have h2 := h.2
      rw [List.append_nil] at h2
      exact k _ _ (LQ.now rm (.tup e q) h2)
    · exact k _ _ ⟨_, M, _, rm.beh np, .tup (SqT.of upd_same) ((q.append q2).same (rm.beh (o := .tup (vs ++ ws)) np).sm), h.2⟩
  · rename_i a' xs vs e q b' ys ws e2 q2
    exact .inr (.inr (.inr ⟨_, _, vs, ws, rfl, rfl, rm.fr _ _ e, rm.fr _ _ e2, by rw [← q.length, ← q2.length]; exact h.1, fun p np =>
      k _ _ ⟨_, M, _, rm.beh np, .lst upd_same ((q.append q2).same (rm.beh (o := .lst (vs ++ ws)) np).sm), h.2⟩⟩))
end
end PL
set_option Elab.async false
set_option linter.all false
set_option maxRecDepth 100000
namespace PL
open PySem PySem.Spec PyProof.Rows L2
/-! ### == of data -/
mutual
def toD : PV → Option PyData
  | .non => some .none
  | .bl b => some (.bool b)
  | .int i => some (.int i)
  | .str x => if (PyData.str x).canLay0 = true then some (.str x) else none
  | .tup xs => (toDs xs).map .tuple
  | .lst xs => (toDs xs).map .list
  | .scr xs => (toDs xs).map .list
  | _ => none
def toDs : List PV → Option (List PyData)
  | [] => some []
  | x :: xs => match toD x, toDs xs with | some d, some ds => some (d :: ds) | _, _ => none
end
mutual
theorem toD_dp {K : PySem.W.Frag} {F H : Hp} (e : Same F H) : ∀ (x : PV) (v : V) (d : PyData), R K F x v → toD x = some d → Dp K H v d ∧ d.canLay0 = true
  | .non, _, _, .non, h => by cases h; exact ⟨.non, rfl⟩
  | .bl b, _, _, .bl _, h => by cases h; exact ⟨.bl b, rfl⟩
  | .int b, _, _, .int _, h => by cases h; exact ⟨.int b, rfl⟩
  | .str b, _, _, .str _, h => by
    unfold toD at h
    split at h
    · rename_i hb
      cases h
      exact ⟨.str b, hb⟩
    · cases h
  | .tup xs, _, d, .tup q r, h => by
    unfold toD at h
    cases hd : toDs xs with
    | none => rw [hd] at h; cases h
    | some ds =>
      rw [hd] at h
      cases h
      obtain ⟨h1, h2⟩ := toDs_dp e xs _ ds r hd
      exact ⟨.tup (sqT_same e q) h1, by simpa [PyData.canLay0] using h2⟩
  | .lst xs, _, d, .lst q r, h => by
    unfold toD at h
    cases hd : toDs xs with
    | none => rw [hd] at h; cases h
    | some ds =>
      rw [hd] at h
      cases h
      obtain ⟨h1, h2⟩ := toDs_dp e xs _ ds r hd
      exact ⟨.lst (SqL.of (e _ _ q)) h1, by simpa [PyData.canLay0] using h2⟩
  | .scr xs, _, d, .scr q r, h => by
    unfold toD at h
    cases hd : toDs xs with
    | none => rw [hd] at h; cases h
    | some ds =>
      rw [hd] at h
      cases h
      obtain ⟨h1, h2⟩ := toDs_dp e xs _ ds r hd
      exact ⟨.lst (e.seq q) h1, by simpa [PyData.canLay0] using h2⟩
theorem toDs_dp {K : PySem.W.Frag} {F H : Hp} (e : Same F H) : ∀ (xs : List PV) (vs : List V) (ds : List PyData), RAll K F xs vs → toDs xs = some ds → DpAll K H vs ds ∧ PyData.canLayAll0 ds = true
  | [], _, _, .nil, h => by cases h; exact ⟨.nil, rfl⟩
  | x :: xs, _, ds, .cons r t, h => by
    unfold toDs at h
    cases h1 : toD x with
    | none => rw [h1] at h; cases h
    | some d =>
      cases h2 : toDs xs with
      | none => rw [h1, h2] at h; cases h
      | some ds' =>
        rw [h1, h2] at h
        cases h
        obtain ⟨a1, a2⟩ := toD_dp e x _ d r h1
        obtain ⟨b1, b2⟩ := toDs_dp e xs _ ds' t h2
        exact ⟨.cons a1 b1, by simp [PyData.canLayAll0, a2, b2]⟩
end
theorem toDs_ints : ∀ ns : List Int, toDs (ns.map PV.int) = some (ns.map PyData.int)
  | [] => rfl
  | n :: r => by
    show (match toD (.int n), toDs (r.map PV.int) with | some d, some ds => some (d :: ds) | _, _ => none) = _
    rw [toDs_ints r]
    rfl
theorem depth_ints : ∀ ns : List Int, PyData.depthAll (ns.map PyData.int) = 0
  | [] => rfl
  | n :: r => by
    show max 0 (PyData.depthAll (r.map PyData.int)) = 0
    rw [depth_ints r]
    rfl
/-- scalars -/
def eqF : PV → PV → Option Bool
  | .int i, .int j => some (decide (i = j))
  | .str i, .str j => some (decide (i = j))
  | .bl i, .bl j => some (decide (i = j))
  | .non, .non => some true
  | .non, .int _ => some false | .int _, .non => some false
  | .non, .bl _ => some false | .bl _, .non => some false
  | .non, .str _ => some false | .str _, .non => some false
  | .int _, .str _ => some false | .str _, .int _ => some false
  | .bl _, .str _ => some false | .str _, .bl _ => some false
  | _, _ => none
def eqP (x y : PV) (k : Bool → Prop) : Prop := match eqF x y with
  | some b => k b
  | none => need (toD x) fun d => need (toD y) fun e => d.depth ≤ 64 ∧ e.depth ≤ 64 ∧ k (PyData.eqv d e)
def oEq : PO2 := fun x y M Q => eqP x y fun b => Q (.bl b) M
def oNe : PO2 := fun x y M Q => eqP x y fun b => Q (.bl (!b)) M
theorem eqF_scal {K : PySem.W.Frag} {F : Hp} {x y : PV} {xv yv : V} {b : Bool} (rx : R K F x xv) (ry : R K F y yv) (h : eqF x y = some b) : scal xv yv = true ∧ decide (xv = yv) = b := by
  cases rx <;> cases ry <;> first
    | (cases h; exact ⟨rfl, rfl⟩)
    | (cases h; refine ⟨rfl, ?_⟩; simp)
    | cases h
theorem shaped_of {d : PyData} (h : d.canLay0 = true) (h2 : d.depth ≤ 64) : SeqAt.shaped d = true := by
  unfold SeqAt.shaped
  rw [h, decide_eq_true h2]
  rfl
section
variable {X : Cx} {a b c e : Expr} {ta tb tc : PTE} {pos p : Pos} {es : List Expr} {t : PTA} {x : Str}
theorem op_eqA (hu : X.A.units + 64 < cLine) : OpR X (compareOp .Eq) (fun x y H Q => rEq x y H Q ∨ rEqD X.K x y H Q) := OpR.or op_eq (op_eqD hu)
theorem op_neA (hu : X.A.units + 64 < cLine) : OpR X (compareOp .NotEq) (fun x y H Q => rNe x y H Q ∨ rNeD X.K x y H Q) := OpR.or op_ne (op_neD hu)
theorem pop_eq {K : PySem.W.Frag} : POp K (fun x y H Q => rEq x y H Q ∨ rEqD K x y H Q) oEq := by
  intro F M H x y xv yv Q Qv rm rx ry h k
  unfold oEq eqP at h
  split at h
  · rename_i b hb
    obtain ⟨h1, h2⟩ := eqF_scal rx ry hb
    exact .inl ⟨h1, k _ _ (LQ.now rm (by rw [h2]; exact .bl b) h)⟩
  · obtain ⟨d, e1, h⟩ := need_of h
    obtain ⟨e, e2, h⟩ := need_of h
    obtain ⟨h1, h2, h3⟩ := h
    obtain ⟨a1, a2⟩ := toD_dp rm.fr x xv d rx e1
    obtain ⟨b1, b2⟩ := toD_dp rm.fr y yv e ry e2
    exact .inr ⟨d, e, a1, b1, shaped_of a2 h1, shaped_of b2 h2, k _ _ (LQ.now rm (.bl _) h3)⟩
theorem pop_ne {K : PySem.W.Frag} : POp K (fun x y H Q => rNe x y H Q ∨ rNeD K x y H Q) oNe := by
  intro F M H x y xv yv Q Qv rm rx ry h k
  unfold oNe eqP at h
  split at h
  · rename_i b hb
    obtain ⟨h1, h2⟩ := eqF_scal rx ry hb
    exact .inl ⟨h1, k _ _ (LQ.now rm (by rw [h2]; exact .bl _) h)⟩
  · obtain ⟨d, e1, h⟩ := need_of h
    obtain ⟨e, e2, h⟩ := need_of h
    obtain ⟨h1, h2, h3⟩ := h
    obtain ⟨a1, a2⟩ := toD_dp rm.fr x xv d rx e1
    obtain ⟨b1, b2⟩ := toD_dp rm.fr y yv e ry e2
    exact .inr ⟨d, e, a1, b1, shaped_of a2 h1, shaped_of b2 h2, k _ _ (LQ.now rm (.bl _) h3)⟩
theorem LE.eq (hu : X.A.units + 64 < cLine) (ha : LE X a ta) (hb : LE X b tb) : LE X (.Compare a [.Eq] [b] pos) (pBin oEq ta tb) := LE.cmp (op_eqA hu) pop_eq (nomark _) ha hb
theorem LE.ne (hu : X.A.units + 64 < cLine) (ha : LE X a ta) (hb : LE X b tb) : LE X (.Compare a [.NotEq] [b] pos) (pBin oNe ta tb) := LE.cmp (op_neA hu) pop_ne (nomark _) ha hb
theorem LT.eq (hu : X.A.units + 64 < cLine) (ha : LE X a ta) (hb : LE X b tb) : LT X (.Compare a [.Eq] [b] pos) (pTest (pBin oEq ta tb)) := LT.cmp (op_eqA hu) pop_eq (nomark _) ha hb
theorem LT.ne (hu : X.A.units + 64 < cLine) (ha : LE X a ta) (hb : LE X b tb) : LT X (.Compare a [.NotEq] [b] pos) (pTest (pBin oNe ta tb)) := LT.cmp (op_neA hu) pop_ne (nomark _) ha hb
/-! ### isinstance of a built-in type -/
def tyOf (M : Mem) : PV → Option String
  | .non => some "NoneType"
  | .bl _ => some "bool"
  | .int _ => some "int"
  | .str _ => some "str"
  | .tup _ => some "tuple"
  | .lst _ => some "list"
  | .ptr a => match M a with | some (.lst _) => some "list" | _ => none
  | _ => none
def isi (M : Mem) (T : String) (x : PV) : Option Bool := (tyOf M x).bind fun n => kitB n T
def kIsi (T : String) (x : PV) (M : Mem) (Q : PQ) : Prop := need (isi M T x) fun b => Q (.bl b) M
theorem R.tyx {K : PySem.W.Frag} {F H : Hp} {M : Mem} {x : PV} {v : V} {n : String} (rm : RM K F M H) (r : R K F x v) (h : tyOf M x = some n) : TyX K H v (.type n) := by
  cases r with
  | non => cases h; exact .base .non
  | bl b => cases h; exact .base (.bl b)
  | int b => cases h; exact .base (.int b)
  | str b => cases h; exact .base (.str b)
  | ty n => cases h
  | tup q r =>
    cases h
    rcases sqT_same rm.fr q with q | ⟨o, its, k, hk, hc, _⟩
    · rcases q with q | ⟨o, q⟩
      · exact .base (.tup q)
      · exact .fTuple q
    · exact .kTuple hk hc
  | lst q r => cases h; exact .base (.lst (rm.fr _ _ q))
  | scr q r => cases h
  | obj _ _ => cases h
  | dct _ _ => cases h
  | exc _ _ => cases h
  | rng _ => cases h
  | tpd _ _ _ => cases h
  | ptr a =>
    cases hm : M a with
    | none =>
      have h' : (match M a with | some (.lst _) => some "list" | _ => none) = some n := h
      rw [hm] at h'
      cases h'
    | some m =>
      have h' : (match M a with | some (.lst _) => some "list" | _ => none) = some n := h
      rw [hm] at h'
      cases m with
      | lst ys =>
        cases h'
        obtain ⟨o, e1, q⟩ := rm.mu _ _ hm
        cases q with
        | lst q => exact .base (.lst e1)
      | obj C fs => cases h'
      | dct _ _ => cases h'
theorem LE.isi {T : Str} {Ts : String} {py : Pos} (hg : Gl X "isinstance") (hm : X.mg "isinstance" = none) (hgT : Gl X T) (hmT : X.mg T = none) (hvT : bootBuiltins T = some (.type Ts)) (ha : LE X e ta)
    (hnT : T ≠ "__name__" := by decide) (hdT : (T == ("__debug__" : Str)) = false := by decide)
    (he : starEach [e, .Name T py] X.env = (false, eval e X.env) :: starEach [.Name T py] X.env := by rfl) (he2 : starEach [.Name T py] X.env = (false, eval (.Name T py) X.env) :: starEach [] X.env := by rfl)
    (hpl : (backTo pos (starEach [.Name T py] X.env)).any (·.1) = false := by rfl) : LE X (.Call (.Name "isinstance" p) [e, .Name T py] [] pos) (fun E σ M Q => ta E σ M fun x M1 => kIsi Ts x M1 Q) := by
  refine ⟨fun σv H σ F M Q E tk rm rs h => WE.of (pe_callB call_isi hg hm (by decide +kernel) (pa_cons WE.pe (pa_cons (pe_bltn (v := .ty Ts) hgT hmT hvT rfl hnT hdT) pa_nil he2) he) (he := he) (hpl := hpl)) ?_⟩
  refine (ha.run σv H σ F M _ E tk rm rs h).mono ?_
  rintro v H1 ⟨F1, M1, x, b1, rx, hx⟩
  obtain ⟨b, e1, h2⟩ := need_of hx
  unfold PL.isi at e1
  cases ht : tyOf M1 x with
  | none => rw [ht] at e1; cases e1
  | some n =>
    rw [ht] at e1
    exact ⟨v, .ty Ts, _, _, b, rfl, .ty _, rx.tyx b1.rm ht, kit_ty e1, LQ.tr b1 (LQ.now b1.rm (.bl b) h2)⟩
/-! ### fields -/
/-- the classes of the text, each with what HandS asks -/
def fldOf (M : Mem) (C : Addr) (f : Str) : PV → Option PV
  | .obj C' fs => if C' = C then fs.lookup f else none
  | .ptr a => match M a with | some (.obj C' fs) => if C' = C then fs.lookup f else none | _ => none
  | _ => none
def pFld (C : Addr) (ta : PTE) (f : Str) : PTE := fun E σ M Q => ta E σ M fun x M1 => need (fldOf M1 C f x) fun v => Q v M1
theorem fldOf_obj {M : Mem} {C : Addr} {f : Str} {fs : List (Str × PV)} : fldOf M C f (.obj C fs) = fs.lookup f := if_pos rfl
theorem R.fld {K : PySem.W.Frag} {F H : Hp} {M : Mem} {x z : PV} {v : V} {C : Addr} {f : Str} (rm : RM K F M H) (r : R K F x v) (h : fldOf M C f x = some z) : ∃ a dx vs w, v = .ref a ∧ H a = some (.ins C dx vs) ∧ vs.lookup f = some w ∧ R K F z w := by
  cases r with
  | @obj a C' dx fs vs e q =>
    have h' : (if C' = C then fs.lookup f else none) = some z := h
    split at h'
    · rename_i hC
      subst hC
      obtain ⟨w, h1, h2⟩ := q.get h'
      exact ⟨_, _, _, w, rfl, rm.fr _ _ e, h1, h2⟩
    · cases h'
  | ptr a =>
    cases hm : M a with
    | none =>
      have h' : (match M a with | some (.obj C' fs) => if C' = C then fs.lookup f else none | _ => none) = some z := h
      rw [hm] at h'
      cases h'
    | some m =>
      have h' : (match M a with | some (.obj C' fs) => if C' = C then fs.lookup f else none | _ => none) = some z := h
      rw [hm] at h'
      cases m with
      | lst ys => cases h'
      | dct _ _ => cases h'
      | obj C' fs =>
        dsimp only at h'
        split at h'
        · rename_i hC
          subst hC
          obtain ⟨o, e1, q⟩ := rm.mu _ _ hm
          cases q with
          | obj q =>
            obtain ⟨w, h1, h2⟩ := q.get h'
            exact ⟨_, _, _, w, rfl, e1, h1, h2⟩
        · cases h'
  | _ => cases h
theorem LE.fld {C : Addr} {f : Str} (cl : Cls X.K C) (na : NoAttr X.K C f) (ha : LE X e ta) (hb : attributeBase e f X.env (eval e X.env) = eval e X.env := by rfl) : LE X (.Attribute e f pos) (pFld C ta f) := by
  refine ⟨fun σv H σ F M Q E tk rm rs h => WE.of (pe_fld WE.pe hb) ?_⟩
  refine (ha.run σv H σ F M _ E tk rm rs h).mono ?_
  rintro v H1 ⟨F1, M1, x, b1, rx, hx⟩
  obtain ⟨z, e1, h2⟩ := need_of hx
  obtain ⟨q, dx, vs, w, rfl, e2, e3, rz⟩ := rx.fld b1.rm e1
  exact ⟨q, C, dx, vs, w, rfl, e2, cl, na, e3, LQ.tr b1 (LQ.now b1.rm rz h2)⟩
end
/-! ### what a def promises -/
abbrev PSp := List PV → Mem → PQ → PXK → Prop
def lift (K : PySem.W.Frag) (n : Nat) (sp : PSp) : Sp := fun vs H Q E => vs.length = n ∧ ∃ F M xs Qp Ep, RM K F M H ∧ RAll K F xs vs ∧ sp xs M Qp Ep ∧ (∀ v H', LQ K F M H Qp v H' → Q v H') ∧ ∀ cls d H', LX K F M H Ep cls d H' → E cls d H'
theorem lift_of {K : PySem.W.Frag} {n : Nat} {sp : PSp} {F H : Hp} {M : Mem} {xs : List PV} {vs : List V} {Q : VK} {E : XK} {Qp : PQ} {Ep : PXK} (hn : vs.length = n) (rm : RM K F M H) (rx : RAll K F xs vs) (h : sp xs M Qp Ep)
    (k : ∀ v H', LQ K F M H Qp v H' → Q v H') (kx : ∀ cls d H', LX K F M H Ep cls d H' → E cls d H') : lift K n sp vs H Q E := ⟨hn, F, M, xs, Qp, Ep, rm, rx, h, k, kx⟩
/-- a def of the text by its name -/
structure GFn (P : Program) (w : World) (K : PySem.W.Frag) (mg : Str → Option Value) (base : Heap) (x : Str) (k : Nat) (ps : List Str) (sp : PSp) : Prop where
  ex : ∃ f fd, FnOk P w K mg base (L2.CX P w) k f fd ps (lift K ps.length sp) ∧ mg x = some (.ref f) ∧ PySem.W.keepIn K (.ref f) = true ∧ Binds K fd ps []
section
variable {X : Cx} {a b c e : Expr} {ta tb tc : PTE} {pos p apos : Pos} {es : List Expr} {t : PTA} {x : Str} {k : Nat} {ps : List Str} {sp : PSp}
def pCall (sp : PSp) (t : PTA) : PTE := fun E σ M Q => t E σ M fun xs M1 => sp xs M1 Q E
theorem LE.call (G : GFn X.prog X.w X.K X.mg X.base x k ps sp) (hr : Room k X.A) (hg : Gl X x) (ha : LA X (e :: es) t) (hl : (e :: es).length = ps.length := by rfl) (hdb : (x == ("__debug__" : Str)) = false := by decide)
    (he : starEach (e :: es) X.env = (false, eval e X.env) :: starEach es X.env := by rfl) (hpl : (backTo pos (starEach es X.env)).any (·.1) = false := by rfl) : LE X (.Call (.Name x p) (e :: es) [] pos) (pCall sp t) := by
  obtain ⟨f, fd, G, hm, hk, hb⟩ := G.ex
  refine ⟨fun σv H σ F M Q E tk rm rs h => WE.of (pe_call (E := LX X.K F M H E) G hr hg hm hk hb .nil (passes_call tk fun _ _ _ _ z => z) WA.pa hdb he hpl) ?_⟩
  refine (ha.run σv H σ F M _ E tk rm rs h).mono ?_
  rintro vs H1 ⟨hl1, F1, M1, xs, b1, rx, hx⟩
  rw [List.append_nil]
  exact lift_of (by rw [hl1, hl]) b1.rm rx hx (fun v H' q => q.tr b1) fun cls d H' q => q.tr b1
/-- a method of a class of the text -/
structure GMt (P : Program) (w : World) (K : PySem.W.Frag) (mg : Str → Option Value) (base : Heap) (C : Addr) (m : Str) (k : Nat) (ps : List Str) (sp : PSp) : Prop where
  ex : ∃ f fd, FnOk P w K mg base (L2.CX P w) k f fd ps (lift K ps.length sp) ∧ Meth K C m f ∧ Binds K fd ps []
def objOf (M : Mem) (C : Addr) : PV → Option (List (Str × PV))
  | .obj C' fs => if C' = C then some fs else none
  | .ptr a => match M a with | some (.obj C' fs) => if C' = C then some fs else none | _ => none
  | _ => none
theorem objOf_obj {M : Mem} {C : Addr} {fs : List (Str × PV)} : objOf M C (.obj C fs) = some fs := if_pos rfl
theorem R.objI {K : PySem.W.Frag} {F H : Hp} {M : Mem} {x : PV} {v : V} {C : Addr} {fs : List (Str × PV)} (rm : RM K F M H) (r : R K F x v) (h : objOf M C x = some fs) : ∃ a dx vs, v = .ref a ∧ H a = some (.ins C dx vs) ∧ RFs K F fs vs := by
  cases r with
  | @obj a C' dx gs vs e q =>
    have h' : (if C' = C then some gs else none) = some fs := h
    split at h'
    · rename_i hC
      subst hC
      cases h'
      exact ⟨_, _, _, rfl, rm.fr _ _ e, q⟩
    · cases h'
  | ptr a =>
    cases hm : M a with
    | none =>
      have h' : (match M a with | some (.obj C' fs) => if C' = C then some fs else none | _ => none) = some fs := h
      rw [hm] at h'
      cases h'
    | some m =>
      have h' : (match M a with | some (.obj C' fs) => if C' = C then some fs else none | _ => none) = some fs := h
      rw [hm] at h'
      cases m with
      | lst ys => cases h'
      | dct _ _ => cases h'
      | obj C' fs =>
        dsimp only at h'
        split at h'
        · rename_i hC
          subst hC
          cases h'
          obtain ⟨o, e1, q⟩ := rm.mu _ _ hm
          cases q with
          | obj q => exact ⟨_, _, _, rfl, e1, q⟩
        · cases h'
  | _ => cases h
def pMeth (C : Addr) (m : Str) (sp : PSp) (ta : PTE) (t : PTA) : PTE := fun E σ M Q => ta E σ M fun x M1 => need (objOf M1 C x) fun fs => fs.lookup m = none ∧ t E σ M1 fun xs M2 => sp (x :: xs) M2 Q E
theorem LE.meth {C : Addr} {m : Str} {pl : Sem Bool} {o : Expr} (G : GMt X.prog X.w X.K X.mg X.base C m k ps sp) (cl : Cls X.K C) (hr : Room k X.A) (ho : LE X o ta) (ha : LA X (e :: es) t) (hl : (e :: es).length + 1 = ps.length := by rfl)
    (hst : starEach (e :: es) X.env = (false, eval e X.env) :: starEach es X.env := by rfl) (hpl : (backTo pos (starEach es X.env)).any (·.1) = false := by rfl)
    (ht : eval (.Call (.Attribute o m apos) (e :: es) [] pos) X.env = (do
      let ov ← eval o X.env
      standAt apos.atName
      let (f, first) ← holding [ov] (getMethod ov m pl)
      callWith pos f first (backTo pos (starEach (e :: es) X.env)) (backToKw pos (keywordEach [] X.env))) := by rfl) : LE X (.Call (.Attribute o m apos) (e :: es) [] pos) (pMeth C m sp ta t) := by
  obtain ⟨f, fd, G, hm, hb⟩ := G.ex
  refine ⟨fun σv H σ F M Q E tk rm rs h => WE.of (pe_meth (pl := pl) (E := LX X.K F M H E) WE.pe cl hm G hr hb .nil (passes_call tk fun _ _ _ _ z => z) WA.pa hst hpl ht) ?_⟩
  refine (ho.run σv H σ F M _ E tk rm rs h).mono ?_
  rintro v H1 ⟨F1, M1, x, b1, rx, hx⟩
  obtain ⟨fs, e1, hn, h2⟩ := need_of hx
  obtain ⟨q, dx, vs, rfl, e2, rf⟩ := rx.objI b1.rm e1
  refine ⟨q, dx, vs, rfl, e2, rf.none hn, ?_⟩
  refine (ha.run σv H1 σ F1 M1 _ E (tk.tr b1) b1.rm (rs.same b1.sm) h2).mono ?_
  rintro ws H2 ⟨hl1, F2, M2, xs, b2, rxs, hxs⟩
  rw [List.append_nil]
  exact lift_of (by rw [List.length_cons, hl1, hl]) b2.rm (.cons (rx.same b2.sm) rxs) hxs (fun v H' q => q.tr (b1.trans b2)) fun cls d H' q => q.tr (b1.trans b2)
/-- a class of the text that is made by its __init__ -/
structure GMk (P : Program) (w : World) (K : PySem.W.Frag) (mg : Str → Option Value) (base : Heap) (x : Str) (C : Addr) (k : Nat) (ps : List Str) (sp : PSp) : Prop where
  ex : ∃ f fd, FnOk P w K mg base (L2.CX P w) k f fd ps (lift K ps.length sp) ∧ mg x = some (.ref C) ∧ Mk K C f ∧ Binds K fd ps []
/-- made, and from then on never changed -/
def pMake (C : Addr) (sp : PSp) (t : PTA) : PTE := fun E σ M Q => t E σ M fun xs M1 => ∀ p, M1 p = none → sp (.ptr p :: xs) (M1.put p (.obj C [])) (fun r M2 => isNon r = true ∧ match M2 p with | some (.obj C' fs) => C' = C ∧ Q (.obj C fs) (M2.drop p) | _ => False) E
theorem LE.make {C : Addr} (G : GMk X.prog X.w X.K X.mg X.base x C k ps sp) (hr : Room (k + 1) X.A) (hg : Gl X x) (ha : LA X (e :: es) t) (hl : (e :: es).length + 1 = ps.length := by rfl) (hdb : (x == ("__debug__" : Str)) = false := by decide)
    (he : starEach (e :: es) X.env = (false, eval e X.env) :: starEach es X.env := by rfl) (hpl : (backTo pos (starEach es X.env)).any (·.1) = false := by rfl) : LE X (.Call (.Name x p) (e :: es) [] pos) (pMake C sp t) := by
  obtain ⟨f, fd, G, hm, mk, hb⟩ := G.ex
  refine ⟨fun σv H σ F M Q E tk rm rs h => WE.of (pe_make (E := LX X.K F M H E) mk G hr hg hm hb .nil (passes_call tk fun _ _ _ _ z => z) WA.pa hdb he hpl) ?_⟩
  refine (ha.run σv H σ F M _ E tk rm rs h).mono ?_
  rintro vs H1 ⟨hl1, F1, M1, xs, b1, rx, hx⟩
  intro q dx nq ndx ne
  rw [List.append_nil]
  have c1 : Beh X.K F1 M1 H1 (upd F1 dx (.own q)) M1 (upd H1 dx (.own q)) := b1.rm.beh ndx
  have nq' : upd H1 dx (.own q) q = none := by rw [upd_ne (Ne.symm ne)]; exact nq
  have c2 := c1.rm.behNew (m := .obj C []) (o := .ins C dx []) nq' (.obj .nil)
  have c := b1.trans (c1.trans c2)
  refine lift_of (by rw [List.length_cons, hl1, hl]) c2.rm (.cons (.ptr q) (rx.same (c1.trans c2).sm)) (hx q (b1.rm.nones nq).2) (fun v H' z => ?_) fun cls d H' q => q.tr c
  obtain ⟨F2, M2, r, b2, rr, hz, h2⟩ := z
  refine ⟨?_, ?_⟩
  · have := rr.isNon
    rw [hz] at this
    exact of_decide_eq_true this
  · cases hm2 : M2 q with
    | none => rw [hm2] at h2; exact h2.elim
    | some mo =>
      rw [hm2] at h2
      cases mo with
      | lst ys => exact h2.elim
      | dct _ _ => exact h2.elim
      | obj C' fs =>
        obtain ⟨hC, h3⟩ := h2
        subst hC
        obtain ⟨o, s1, s4⟩ := b2.rm.behFreeze hm2
        cases s4 with
        | obj s4 => exact ⟨_, _, _, c.trans (b2.trans s1), .obj upd_same (s4.same s1.sm), h3⟩
end
end PL
set_option Elab.async false
set_option linter.all false
set_option maxRecDepth 100000
namespace PL
open PySem PySem.Spec PyProof.Rows L2
abbrev PNx := PSt → Mem → Prop
structure PEnds where
  nx : PNx
  rt : PQ
  ex : PXK
  bk : PNx := fun _ _ => False
  ct : PNx := fun _ _ => False
abbrev PTS := PEnds → PSt → Mem → Prop
def LN (K : PySem.W.Frag) (F : Hp) (M : Mem) (H : Hp) (Q : PNx) : L2.St → Hp → Prop := fun σv' H' => ∃ F' M' σ', Beh K F M H F' M' H' ∧ RS K F' σ' σv' ∧ Q σ' M'
theorem LN.tr {K : PySem.W.Frag} {F F1 H H1 : Hp} {M M1 : Mem} {Q : PNx} (b : Beh K F M H F1 M1 H1) {v : L2.St} {H2 : Hp} : LN K F1 M1 H1 Q v H2 → LN K F M H Q v H2
  | ⟨F2, M2, x, b2, r, q⟩ => ⟨F2, M2, x, b.trans b2, r, q⟩
def LD (K : PySem.W.Frag) (F : Hp) (M : Mem) (H : Hp) (D : PEnds) : Ends := { nx := LN K F M H D.nx, rt := LQ K F M H D.rt, bk := LN K F M H D.bk, ct := LN K F M H D.ct }
def WS (X : Cx) (st : Stmt) : TS := fun D σ H => ∀ pins s, Inv X pins σ H s → wpAny (model X.prog X.w) X.A (exec st X.env) (SP X pins D) X.xe s
def WSs (X : Cx) (st : List Stmt) : TS := fun D σ H => ∀ pins s, Inv X pins σ H s → wpAny (model X.prog X.w) X.A (execs st X.env) (SP X pins D) X.xe s
theorem WS.ps {X : Cx} {st : Stmt} : PS X st (WS X st) := ⟨fun pins s σ H D I h => h pins s I⟩
theorem WSs.ps {X : Cx} {st : List Stmt} : PSs X st (WSs X st) := ⟨fun pins s σ H D I h => h pins s I⟩
theorem WS.of {X : Cx} {st : Stmt} {t : TS} (p : PS X st t) {D : Ends} {σ : L2.St} {H : Hp} (h : t D σ H) : WS X st D σ H := fun pins s I => p.run pins s σ H D I h
theorem WSs.of {X : Cx} {st : List Stmt} {t : TS} (p : PSs X st t) {D : Ends} {σ : L2.St} {H : Hp} (h : t D σ H) : WSs X st D σ H := fun pins s I => p.run pins s σ H D I h
structure Ends.Le (D D' : Ends) : Prop where
  nx : ∀ σ H, D.nx σ H → D'.nx σ H
  rt : ∀ v H, D.rt v H → D'.rt v H
  bk : ∀ σ H, D.bk σ H → D'.bk σ H
  ct : ∀ σ H, D.ct σ H → D'.ct σ H
theorem SP.mono {X : Cx} {pins : List (Addr × Obj)} {D D' : Ends} (m : Ends.Le D D') {f : Flow} {s' : Shared} (h : SP X pins D f s') : SP X pins D' f s' := by
  cases f with
  | next => obtain ⟨σ, H, I, q⟩ := h; exact ⟨σ, H, I, m.nx _ _ q⟩
  | brk => obtain ⟨σ, H, I, q⟩ := h; exact ⟨σ, H, I, m.bk _ _ q⟩
  | cont => obtain ⟨σ, H, I, q⟩ := h; exact ⟨σ, H, I, m.ct _ _ q⟩
  | ret u => obtain ⟨v, σ, H, I, r, q⟩ := h; exact ⟨v, σ, H, I, r, m.rt _ _ q⟩
theorem WS.mono {X : Cx} {st : Stmt} {D D' : Ends} {σ : L2.St} {H : Hp} (h : WS X st D σ H) (m : Ends.Le D D') : WS X st D' σ H := fun pins s I => thn (h pins s I) fun _ _ q => SP.mono m q
theorem WSs.mono {X : Cx} {st : List Stmt} {D D' : Ends} {σ : L2.St} {H : Hp} (h : WSs X st D σ H) (m : Ends.Le D D') : WSs X st D' σ H := fun pins s I => thn (h pins s I) fun _ _ q => SP.mono m q
theorem LD.tr {K : PySem.W.Frag} {F F1 H H1 : Hp} {M M1 : Mem} {D : PEnds} (b : Beh K F M H F1 M1 H1) : Ends.Le (LD K F1 M1 H1 D) (LD K F M H D) := ⟨fun _ _ q => q.tr b, fun _ _ q => q.tr b, fun _ _ q => q.tr b, fun _ _ q => q.tr b⟩
structure LS (X : Cx) (st : Stmt) (t : PTS) : Prop where
  run : ∀ (σv : L2.St) (H : Hp) (σ : PSt) (F : Hp) (M : Mem) (D : PEnds), PTk X F M H D.ex → RM X.K F M H → RS X.K F σ σv → t D σ M → WS X st (LD X.K F M H D) σv H
structure LSs (X : Cx) (st : List Stmt) (t : PTS) : Prop where
  run : ∀ (σv : L2.St) (H : Hp) (σ : PSt) (F : Hp) (M : Mem) (D : PEnds), PTk X F M H D.ex → RM X.K F M H → RS X.K F σ σv → t D σ M → WSs X st (LD X.K F M H D) σv H
/-! ### targets -/
abbrev PTG := PV → PSt → Mem → PNx → Prop
def WG (X : Cx) (tg : Expr) : TG := fun v σ H Q => ∀ pins s u, Inv X pins σ H s → RelV v u → wpAny (model X.prog X.w) X.A (assign tg X.env u) (fun _ s' => ∃ σ' H', Inv X pins σ' H' s' ∧ Q σ' H') X.xe s
theorem WG.pg {X : Cx} {tg : Expr} : PG X tg (WG X tg) := ⟨fun pins s σ H v u Q I r h => h pins s u I r⟩
theorem WG.of {X : Cx} {tg : Expr} {g : TG} (p : PG X tg g) {v : V} {σ : L2.St} {H : Hp} {Q : L2.St → Hp → Prop} (h : g v σ H Q) : WG X tg v σ H Q := fun pins s u I r => p.run pins s σ H v u Q I r h
theorem WG.mono {X : Cx} {tg : Expr} {v : V} {σ : L2.St} {H : Hp} {Q Q' : L2.St → Hp → Prop} (h : WG X tg v σ H Q) (m : ∀ σ H, Q σ H → Q' σ H) : WG X tg v σ H Q' := fun pins s u I r => thn (h pins s u I r) fun _ _ ⟨σ', H', I', q⟩ => ⟨σ', H', I', m _ _ q⟩
structure LG (X : Cx) (tg : Expr) (g : PTG) : Prop where
  run : ∀ (σv : L2.St) (H : Hp) (σ : PSt) (F : Hp) (M : Mem) (x : PV) (v : V) (Q : PNx), RM X.K F M H → RS X.K F σ σv → R X.K F x v → g x σ M Q → WG X tg v σv H (LN X.K F M H Q)
abbrev PTGs := List PV → PSt → Mem → PNx → Prop
def WGs (X : Cx) (ts : List Expr) : TGs := fun vs σ H Q => ∀ pins s us, Inv X pins σ H s → Vals vs us → wpAny (model X.prog X.w) X.A (assignInOrder ((assignEach ts X.env).map (·.2)) us) (fun _ s' => ∃ σ' H', Inv X pins σ' H' s' ∧ Q σ' H') X.xe s
theorem WGs.pg {X : Cx} {ts : List Expr} : PGs X ts (WGs X ts) := ⟨fun pins s σ H v u Q I r h => h pins s u I r⟩
theorem WGs.of {X : Cx} {ts : List Expr} {g : TGs} (p : PGs X ts g) {v : List V} {σ : L2.St} {H : Hp} {Q : L2.St → Hp → Prop} (h : g v σ H Q) : WGs X ts v σ H Q := fun pins s u I r => p.run pins s σ H v u Q I r h
theorem WGs.mono {X : Cx} {tg : List Expr} {v : List V} {σ : L2.St} {H : Hp} {Q Q' : L2.St → Hp → Prop} (h : WGs X tg v σ H Q) (m : ∀ σ H, Q σ H → Q' σ H) : WGs X tg v σ H Q' := fun pins s u I r => thn (h pins s u I r) fun _ _ ⟨σ', H', I', q⟩ => ⟨σ', H', I', m _ _ q⟩
structure LGs (X : Cx) (ts : List Expr) (g : PTGs) : Prop where
  run : ∀ (σv : L2.St) (H : Hp) (σ : PSt) (F : Hp) (M : Mem) (xs : List PV) (vs : List V) (Q : PNx), RM X.K F M H → RS X.K F σ σv → RAll X.K F xs vs → g xs σ M Q → WGs X ts vs σv H (LN X.K F M H Q)
section
variable {X : Cx} {a b c e o i : Expr} {ta tb tc to ti te : PTE} {pos pos' p : Pos} {es : List Expr} {x : Str}
def gpName (i : Nat) : PTG := fun x σ M Q => Q (σ.set i (some x)) M
theorem LG.name (i : Nat) (hN : X.N.Nodup) (hi : X.N[i]? = some x := by rfl) (hx : Loc X.env.scope x := by first | exact .inl rfl | exact .inr rfl) (hf : X.fn x = true ∨ X.env.scope.names.lookup x = some .local := by first | exact .inl rfl | exact .inr rfl) : LG X (.Name x pos) (gpName i) :=
  ⟨fun σv H σ F M x v Q rm rs r h => WG.of (pg_name hN hi hx hf) ⟨F, M, _, Beh.refl rm, rs.set i r, h⟩⟩
def gpNil : PTGs := fun xs σ M Q => match xs with | [] => Q σ M | _ => False
def gpCons (t : PTG) (u : PTGs) : PTGs := fun xs σ M Q => match xs with | x :: r => t x σ M fun σ' M' => u r σ' M' Q | [] => False
theorem LGs.nil : LGs X [] gpNil := by
  refine ⟨fun σv H σ F M xs vs Q rm rs r h => WGs.of pgs_nil ?_⟩
  cases r with
  | nil => exact ⟨rfl, F, M, σ, Beh.refl rm, rs, h⟩
  | cons _ _ => exact h.elim
theorem LGs.cons {g : PTG} {gs : PTGs} (h1 : LG X e g) (h2 : LGs X es gs) (hs : (assignEach (e :: es) X.env).map (·.2) = assign e X.env :: (assignEach es X.env).map (·.2) := by rfl) : LGs X (e :: es) (gpCons g gs) := by
  refine ⟨fun σv H σ F M xs vs Q rm rs r h => WGs.of (pgs_cons WG.pg WGs.pg hs) ?_⟩
  cases r with
  | nil => exact h.elim
  | cons r t =>
    refine ⟨_, _, rfl, ?_⟩
    refine (h1.run σv H σ F M _ _ _ rm rs r h).mono ?_
    rintro σv1 H1 ⟨F1, M1, σ1, b1, rs1, h1⟩
    exact (h2.run σv1 H1 σ1 F1 M1 _ _ Q b1.rm rs1 (t.same b1.sm) h1).mono fun _ _ q => q.tr b1
def gpTup (n : Nat) (u : PTGs) : PTG := fun x σ M Q => match x with | .tup xs => xs.length = n ∧ u xs σ M Q | _ => False
theorem LG.tup {k n : Nat} {gs : PTGs} (hc : X.calm = true) (h : LGs X es gs) (hn : (assignEach es X.env).length = n := by rfl) (hst : (assignEach es X.env).findIdx? (·.1) = none := by rfl) : LG X (.Tuple es k pos) (gpTup n gs) := by
  refine ⟨fun σv H σ F M x v Q rm rs r hh => WG.of (pg_tup hc WGs.pg hn hst) ?_⟩
  unfold gpTup at hh
  split at hh
  · cases r with
    | tup q r =>
      refine ⟨_, _, rfl, sqT_same rm.fr q, by rw [← r.length]; exact hh.1, ?_⟩
      exact h.run σv H σ F M _ _ Q rm rs r hh.2
  · exact hh.elim
/-- o[i] = x of a list that may change -/
def kSet (o i x : PV) (M : Mem) (Q : Mem → Prop) : Prop := match o, i with
  | .ptr p, .int k => match M p with
    | some (.lst xs) => need (ixN xs.length k) fun j => Q (M.put p (.lst (xs.set j x)))
    | _ => False
  | _, _ => False
def gpSub (to ti : PTE) : PTG := fun x σ M Q => to noX σ M fun o M1 => ti noX σ M1 fun i M2 => kSet o i x M2 fun M3 => Q σ M3
theorem LG.sub (ho : LE X o to) (hi : LE X i ti) (ha : ∀ v, assign (.Subscript o i pos) X.env v = (do
      let ov ← holding [v] (eval o X.env)
      let iv ← holding [v, ov] (eval i X.env)
      standAt pos
      holding [v, ov, iv] (setItem ov iv v)
      release [v, ov, iv] []) := by intro _; rfl) : LG X (.Subscript o i pos) (gpSub to ti) := by
  refine ⟨fun σv H σ F M x v Q rm rs r h => WG.of (pg_sub WE.pe WE.pe set_list ha) ?_⟩
  refine seq2 (k := fun o i M2 => kSet o i x M2 fun M3 => Q σ M3) ho hi PTk.no rm rs h fun o i ov iv F2 M2 H2 bh ro ri h2 => ?_
  unfold kSet at h2
  split at h2
  · rename_i p k
    cases ro
    cases ri
    cases hm : M2 p with
    | none => rw [hm] at h2; exact h2.elim
    | some mo =>
      rw [hm] at h2
      cases mo with
      | obj C fs => exact h2.elim
      | dct _ _ => exact h2.elim
      | lst xs =>
        obtain ⟨j, e1, h3⟩ := need_of h2
        obtain ⟨u, e2, ru⟩ := bh.rm.mu _ _ hm
        cases ru with
        | lst ru =>
          refine ⟨p, _, k, j, rfl, rfl, e2, by rw [← ru.length]; exact e1, ?_⟩
          have b3 := bh.rm.behWrite (o := .lst _) hm (.lst (RAll.set (r.same bh.sm) j ru))
          exact ⟨F2, _, σ, bh.trans b3, rs.same bh.sm, h3⟩
  · exact h2.elim
end
/-! ### blocks and small statements -/
section
variable {X : Cx} {st : Stmt} {sts rest body : List Stmt} {t u : PTS} {a b c e o i : Expr} {ta tb tc te tv : PTE} {tt : PTT} {pos pos' p : Pos} {es : List Expr} {x : Str} {g : PTG}
def pNext : PTS := fun D σ M => D.nx σ M
def pSeq (t u : PTS) : PTS := fun D σ M => t { D with nx := u D } σ M
theorem LSs.nil : LSs X [] pNext := ⟨fun σv H σ F M D tk rm rs h => WSs.of pss_nil ⟨F, M, σ, Beh.refl rm, rs, h⟩⟩
theorem LSs.cons (h1 : LS X st t) (h2 : LSs X rest u) : LSs X (st :: rest) (pSeq t u) := by
  refine ⟨fun σv H σ F M D tk rm rs h => WSs.of (pss_cons WS.ps WSs.ps) ?_⟩
  refine (h1.run σv H σ F M { D with nx := u D } tk rm rs h).mono ⟨?_, fun _ _ q => q, fun _ _ q => q, fun _ _ q => q⟩
  rintro σv1 H1 ⟨F1, M1, σ1, b1, rs1, q1⟩
  exact (h2.run σv1 H1 σ1 F1 M1 D (tk.tr b1) b1.rm rs1 q1).mono (LD.tr b1)
theorem LSs.one (h1 : LS X st t) : LSs X [st] t := ⟨fun σv H σ F M D tk rm rs h => WSs.of (pss_one WS.ps) (h1.run σv H σ F M D tk rm rs h)⟩
def pBreak : PTS := fun D σ M => D.bk σ M
def pCont : PTS := fun D σ M => D.ct σ M
theorem LS.brk : LS X (.Break pos) pBreak := ⟨fun σv H σ F M D tk rm rs h => WS.of ps_break ⟨F, M, σ, Beh.refl rm, rs, h⟩⟩
theorem LS.cont : LS X (.Continue pos) pCont := ⟨fun σv H σ F M D tk rm rs h => WS.of ps_continue ⟨F, M, σ, Beh.refl rm, rs, h⟩⟩
def pNever : PTS := fun _ _ _ => False
theorem LS.never : LS X st pNever := ⟨fun σv H σ F M D tk rm rs h => h.elim⟩
theorem LSs.never : LSs X sts pNever := ⟨fun σv H σ F M D tk rm rs h => h.elim⟩
def pDrop (te : PTE) : PTS := fun D σ M => te D.ex σ M fun _ M1 => D.nx σ M1
theorem LS.expr (he : LE X e te) (hs : swapsWith e none pos.line X.env = pure false := by rfl) : LS X (.Expr e pos) (pDrop te) := by
  refine ⟨fun σv H σ F M D tk rm rs h => WS.of (ps_expr WE.pe hs) ?_⟩
  refine (he.run σv H σ F M _ D.ex tk rm rs h).mono ?_
  rintro v H1 ⟨F1, M1, x, b1, rx, hx⟩
  exact ⟨F1, M1, σ, b1, rs.same b1.sm, hx⟩
def pRet (te : PTE) : PTS := fun D σ M => te D.ex σ M D.rt
theorem LS.ret (he : LE X e te) : LS X (.Return (some e) pos) (pRet te) := ⟨fun σv H σ F M D tk rm rs h => WS.of (ps_ret WE.pe) (he.run σv H σ F M _ D.ex tk rm rs h)⟩
def pRetN : PTS := fun D _ M => D.rt .non M
/-- what is handed back never changes from now on -/
def kFz (x : PV) (M : Mem) (Q : PQ) : Prop := match x with
  | .ptr p => match M p with | some (.lst xs) => Q (.lst xs) (M.drop p) | some (.obj C fs) => Q (.obj C fs) (M.drop p) | some (.dct a kvs) => a = p ∧ Q (.dct kvs) (M.drop p) | none => False
  | _ => False
theorem R.fz {K : PySem.W.Frag} {F H : Hp} {M : Mem} {x : PV} {v : V} {Q : PQ} (rm : RM K F M H) (r : R K F x v) (h : kFz x M Q) : LQ K F M H Q v H := by
  unfold kFz at h
  split at h
  · rename_i p
    cases r
    split at h
    · rename_i xs hm
      obtain ⟨o, b, q⟩ := rm.behFreeze hm
      cases q with
      | lst q => exact ⟨_, _, _, b, .lst upd_same (q.same b.sm), h⟩
    · rename_i C fs hm
      obtain ⟨o, b, q⟩ := rm.behFreeze hm
      cases q with
      | obj q => exact ⟨_, _, _, b, .obj upd_same (q.same b.sm), h⟩
    · rename_i a kvs hm
      obtain ⟨rfl, h⟩ := h
      obtain ⟨o, b, q⟩ := rm.behFreeze hm
      cases q with
      | dct q => exact ⟨_, _, _, b, .dct upd_same (q.same b.sm), h⟩
    · exact h.elim
  · exact h.elim
def pRetF (te : PTE) : PTS := fun D σ M => te D.ex σ M fun x M1 => kFz x M1 D.rt
theorem LS.retF (he : LE X e te) : LS X (.Return (some e) pos) (pRetF te) := by
  refine ⟨fun σv H σ F M D tk rm rs h => WS.of (ps_ret WE.pe) ?_⟩
  refine (he.run σv H σ F M _ D.ex tk rm rs h).mono ?_
  rintro v H1 ⟨F1, M1, x, b1, rx, hx⟩
  exact (rx.fz b1.rm hx).tr b1
/-- the list in a slot never changes from now on -/
def pFz (i : Nat) (t : PTS) : PTS := fun D σ M => match σ[i]? with
  | some (some x) => kFz x M fun y M1 => t D (σ.set i (some y)) M1
  | _ => False
theorem LSs.fz (i : Nat) (h : LSs X sts t) : LSs X sts (pFz i t) := by
  refine ⟨fun σv H σ F M D tk rm rs hh => ?_⟩
  unfold pFz at hh
  split at hh
  · rename_i x hx
    obtain ⟨v, e1, r⟩ := rs.at_ i x hx
    obtain ⟨F1, M1, y, b1, ry, h1⟩ := r.fz rm hh
    have rs1 : RS X.K F1 (σ.set i (some y)) σv := by
      have q := (rs.same b1.sm).set i ry
      have hl : i < σv.length := (List.getElem?_eq_some_iff.mp e1).1
      have e2 : σv.set i (some v) = σv := by
        have e3 : σv[i] = some v := Option.some.inj ((List.getElem?_eq_getElem hl).symm.trans e1)
        rw [← e3, List.set_getElem_self]
      rw [e2] at q
      exact q
    exact (h.run σv H _ F1 M1 D (tk.tr b1) b1.rm rs1 h1).mono (LD.tr b1)
  · exact hh.elim
/-- what is in the store at a slot's place is forgotten -/
def pDropAt (i : Nat) (t : PTS) : PTS := fun D σ M => match σ[i]? with
  | some (some (.ptr p)) => t D σ (M.drop p)
  | _ => False
def pIfS (c : PTT) (t u : PTS) : PTS := fun D σ M => c D.ex σ M fun b M1 => if b = true then t D σ M1 else u D σ M1
theorem LS.ite {as bs : List Stmt} (hc : LT X c tt) (ha : LSs X as t) (hb : LSs X bs u) : LS X (.If c as bs pos) (pIfS tt t u) := by
  refine ⟨fun σv H σ F M D tk rm rs h => WS.of (ps_if WT.pt WSs.ps WSs.ps) ?_⟩
  refine (hc.run σv H σ F M _ D.ex tk rm rs h).mono ?_
  rintro b H1 ⟨F1, M1, b1, hx⟩
  split
  · rename_i e
    rw [if_pos e] at hx
    exact (ha.run σv H1 σ F1 M1 D (tk.tr b1) b1.rm (rs.same b1.sm) hx).mono (LD.tr b1)
  · rename_i e
    rw [if_neg e] at hx
    exact (hb.run σv H1 σ F1 M1 D (tk.tr b1) b1.rm (rs.same b1.sm) hx).mono (LD.tr b1)
def pAsg (te : PTE) (g : PTG) : PTS := fun D σ M => te D.ex σ M fun x M1 => g x σ M1 D.nx
theorem LS.asg {tg : Expr} (he : LE X e te) (hg : LG X tg g) (hs : swapsWithSole [tg] e pos.line X.env = pure false := by rfl) (hw : swappedStores [tg] e X.env = pure none := by rfl)
    (h1 : (assignEach [tg] X.env).map (·.2) = [assign tg X.env] := by rfl) : LS X (.Assign [tg] e pos) (pAsg te g) := by
  refine ⟨fun σv H σ F M D tk rm rs h => WS.of (ps_asg WE.pe WG.pg hs hw h1) ?_⟩
  refine (he.run σv H σ F M _ D.ex tk rm rs h).mono ?_
  rintro v H1 ⟨F1, M1, x, b1, rx, hx⟩
  exact (hg.run σv H1 σ F1 M1 x v _ b1.rm (rs.same b1.sm) rx hx).mono fun _ _ q => q.tr b1
def pSet (i : Nat) (te : PTE) : PTS := fun D σ M => te D.ex σ M fun x M1 => D.nx (σ.set i (some x)) M1
theorem LS.set (i : Nat) {pos' : Pos} (hN : X.N.Nodup) (he : LE X e te) (hi : X.N[i]? = some x := by rfl) (hx : Loc X.env.scope x := by first | exact .inl rfl | exact .inr rfl) (hs : swapsWith e (some (.Name x pos')) pos.line X.env = pure false := by rfl)
    (hf : X.fn x = true ∨ X.env.scope.names.lookup x = some .local := by first | exact .inl rfl | exact .inr rfl) : LS X (.Assign [.Name x pos'] e pos) (pSet i te) := by
  refine ⟨fun σv H σ F M D tk rm rs h => WS.of (ps_set hN hi hx WE.pe hs hf) ?_⟩
  refine (he.run σv H σ F M _ D.ex tk rm rs h).mono ?_
  rintro v H1 ⟨F1, M1, x, b1, rx, hx⟩
  exact ⟨F1, M1, _, b1, (rs.same b1.sm).set i rx, hx⟩
/-- self.f = e of an object that may change -/
def kPutF (C : Addr) (f : Str) (x : PV) (o : PV) (M : Mem) (Q : Mem → Prop) : Prop := match o with
  | .ptr p => match M p with | some (.obj C' fs) => C' = C ∧ fs.length < 1000 ∧ Q (M.put p (.obj C (putP f x fs))) | _ => False
  | _ => False
def pFldS (C : Addr) (f : Str) (to tv : PTE) : PTS := fun D σ M => tv D.ex σ M fun x M1 => to D.ex σ M1 fun o M2 => kPutF C f x o M2 fun M3 => D.nx σ M3
theorem LS.fld {C : Addr} {f : Str} {to : PTE} (cl : Cls X.K C) (na : NoAttr X.K C f) (ho : LE X o to) (hv : LE X e tv) (hs : swapsWith e (some (.Attribute o f pos')) pos.line X.env = pure false := by rfl) : LS X (.Assign [.Attribute o f pos'] e pos) (pFldS C f to tv) := by
  refine ⟨fun σv H σ F M D tk rm rs h => WS.of (ps_fld WE.pe WE.pe hs) ?_⟩
  refine seq2 (k := fun x o M2 => kPutF C f x o M2 fun M3 => D.nx σ M3) hv ho tk rm rs h fun x o xv ov F2 M2 H2 bh rx ro h2 => ?_
  unfold kPutF at h2
  split at h2
  · rename_i p
    cases ro
    split at h2
    · rename_i C' fs hm
      obtain ⟨hC, hl, h3⟩ := h2
      subst hC
      obtain ⟨u, e2, ru⟩ := bh.rm.mu _ _ hm
      cases ru with
      | @obj _ dx _ vs ru =>
        refine ⟨p, _, _, _, rfl, e2, cl, na, by rw [← ru.length]; exact hl, ?_⟩
        have b3 := bh.rm.behWrite (m' := .obj C' (putP f x fs)) (o := .ins C' dx (putF f xv vs)) hm (.obj (RFs.put rx ru))
        exact ⟨F2, _, σ, bh.trans b3, rs.same bh.sm, h3⟩
    · exact h2.elim
  · exact h2.elim
/-- name op= e -/
def oIp : Operator → PO2
  | .Add => oAdd
  | .Sub => oSub
  | _ => fun _ _ _ _ => False
def pAug (i : Nat) (o : PO2) (te : PTE) : PTS := fun D σ M => match σ[i]? with
  | some (some x) => te D.ex σ M fun y M1 => o x y M1 fun z M2 => D.nx (σ.set i (some z)) M2
  | _ => False
theorem LS.aug {op : Operator} {r : R2} {po : PO2} (i : Nat) {pos' : Pos} (ho : OpR X (inplaceOp op) r) (hp : POp X.K r po) (hN : X.N.Nodup) (he : LE X e te) (hi : X.N[i]? = some x := by rfl) (hx : Loc X.env.scope x := by first | exact .inl rfl | exact .inr rfl)
    (hf : X.fn x = true ∨ X.env.scope.names.lookup x = some .local := by first | exact .inl rfl | exact .inr rfl) : LS X (.AugAssign (.Name x pos') op e pos) (pAug i po te) := by
  refine ⟨fun σv H σ F M D tk rm rs h => WS.of (ps_aug (ti := r) hN hi hx WE.pe (fun pins s σ H x y v u Q I rx ry q => ho pins s σ H x y v u Q I rx ry q) hf) ?_⟩
  unfold pAug at h
  split at h
  · rename_i y hy
    obtain ⟨v, e1, rv⟩ := rs.at_ i y hy
    refine ⟨v, e1, ?_⟩
    refine (he.run σv H σ F M _ D.ex tk rm rs h).mono ?_
    rintro w H1 ⟨F1, M1, z, b1, rz, hz⟩
    refine hp F1 M1 H1 y z v w _ _ b1.rm (rv.same b1.sm) rz hz ?_
    rintro w2 H2 ⟨F2, M2, z2, b2, rz2, hz2⟩
    exact ⟨F2, M2, _, b1.trans b2, (rs.same (b1.trans b2).sm).set i rz2, hz2⟩
  · exact h.elim
theorem LS.augAdd (i : Nat) {pos' : Pos} (hN : X.N.Nodup) (he : LE X e te) (hi : X.N[i]? = some x := by rfl) (hx : Loc X.env.scope x := by first | exact .inl rfl | exact .inr rfl)
    (hf : X.fn x = true ∨ X.env.scope.names.lookup x = some .local := by first | exact .inl rfl | exact .inr rfl) : LS X (.AugAssign (.Name x pos') .Add e pos) (pAug i (oI0 fun i j => .int (i + j)) te) := LS.aug i iop_add (pop_I0 fun _ _ _ => .int _) hN he hi hx hf
theorem LS.augSub (i : Nat) {pos' : Pos} (hN : X.N.Nodup) (he : LE X e te) (hi : X.N[i]? = some x := by rfl) (hx : Loc X.env.scope x := by first | exact .inl rfl | exact .inr rfl)
    (hf : X.fn x = true ∨ X.env.scope.names.lookup x = some .local := by first | exact .inl rfl | exact .inr rfl) : LS X (.AugAssign (.Name x pos') .Sub e pos) (pAug i oSub te) := LS.aug i iop_sub (pop_I0 fun _ _ _ => .int _) hN he hi hx hf
/-- xs.append(e) of a list that may change -/
def kApp (o x : PV) (M : Mem) (Q : PQ) : Prop := match o with
  | .ptr p => match M p with | some (.lst xs) => xs.length < sizeLine ∧ Q .non (M.put p (.lst (xs ++ [x]))) | _ => False
  | _ => False
def pApp (to te : PTE) : PTE := fun E σ M Q => to E σ M fun o M1 => lstOf M1 o ≠ none ∧ te E σ M1 fun x M2 => kApp o x M2 Q
theorem LE.app {to : PTE} {apos : Pos} (ho : LE X o to) (he : LE X e te) (hbase : attributeBase o "append" X.env (eval o X.env) = eval o X.env := by rfl)
    (hfew : ((backTo pos (starEach [e] X.env)).all (fun x => !x.1) && (backToKw pos (keywordEach [] X.env)).all (fun x => x.1.isSome) && decide ([e].length + ([] : List Keyword).length + (if ([] : List Keyword).isEmpty then 0 else 1) < 30)) = true := by rfl)
    (hline : (apos.endLine == pos.line) = true := by rfl) (hs : starEach [e] X.env = (false, eval e X.env) :: starEach [] X.env := by rfl) (hplain : (backTo pos (starEach [] X.env)).any (·.1) = false := by rfl) :
    LE X (.Call (.Attribute o "append" apos) [e] [] pos) (pApp to te) := by
  refine ⟨fun σv H σ F M Q E tk rm rs h => WE.of (pe_bm PySem.F.plainAttrs_list PySem.F.slot_list_append PySem.F.type_list_append mt_append WE.pe (pa_cons WE.pe pa_nil hs) hbase hfew hline hs hplain) ?_⟩
  refine (ho.run σv H σ F M _ E tk rm rs h).mono ?_
  rintro v H1 ⟨F1, M1, x, b1, rx, hl, hx⟩
  refine ⟨?_, ?_⟩
  · cases hq : lstOf M1 x with
    | none => exact absurd hq hl
    | some xs =>
      obtain ⟨q, ws, ev, hs, _⟩ := rx.lstI b1.rm hq
      subst ev
      exact .inl ⟨rfl, _, hs⟩
  · refine (he.run σv H1 σ F1 M1 _ E (tk.tr b1) b1.rm (rs.same b1.sm) hx).mono ?_
    rintro w H2 ⟨F2, M2, y, b2, ry, hy⟩
    unfold kApp at hy
    split at hy
    · rename_i p
      cases rx
      split at hy
      · rename_i xs hm
        obtain ⟨u, e2, ru⟩ := b2.rm.mu _ _ hm
        cases ru with
        | lst ru =>
          refine ⟨p, _, w, rfl, rfl, e2, by rw [← ru.length]; exact hy.1, ?_⟩
          have b3 := b2.rm.behWrite (o := .lst _) hm (.lst (ru.append (.cons ry .nil)))
          exact ⟨F2, _, _, (b1.trans b2).trans b3, .non, hy.2⟩
      · exact hy.elim
    · exact hy.elim
end
end PL
set_option Elab.async false
set_option linter.all false
set_option maxRecDepth 100000
namespace PL
open PySem PySem.Spec PyProof.Rows L2
/-! ### what a loop goes over -/
abbrev PTI := PXK → PSt → Mem → (List PV → Mem → Prop) → Prop
def WI (X : Cx) (tg iter : Expr) : TI := fun σ H R => ∀ pins s, Inv X pins σ H s → wpAny (model X.prog X.w) X.A (eval iter X.env) (fun v s1 => wpAny (model X.prog X.w) X.A (pyIter v) (PIE X pins σ tg R) X.xe s1) X.xe s
theorem WI.pi {X : Cx} {tg iter : Expr} : PI X tg iter (WI X tg iter) := ⟨fun pins s σ H R I h => h pins s I⟩
theorem WI.of {X : Cx} {tg iter : Expr} {wi : TI} (p : PI X tg iter wi) {σ : L2.St} {H : Hp} {R : It → Hp → Prop} (h : wi σ H R) : WI X tg iter σ H R := fun pins s I => p.run pins s σ H R I h
theorem WI.mono {X : Cx} {tg iter : Expr} {σ : L2.St} {H : Hp} {R R' : It → Hp → Prop} (h : WI X tg iter σ H R) (m : ∀ J H, R J H → R' J H) : WI X tg iter σ H R' := fun pins s I =>
  thn (h pins s I) fun _ _ h1 => thn h1 fun _ _ ⟨it, fp, tn, J, H', a, b, c, d, e, r⟩ => ⟨it, fp, tn, J, H', a, b, c, d, e, m _ _ r⟩
/-- the iterator hands out these, whatever comes -/
def Stab (K : PySem.W.Frag) (J : It) (F : Hp) (xs : List PV) : Prop := ∀ (i : Nat) (F' : Hp) (M : Mem) (H : Hp), Same F F' → RM K F' M H →
  (∀ h : i < xs.length, J.go i H ∧ ∀ v H', J.yld i H v H' → ∃ F2, Beh K F' M H F2 M H' ∧ R K F2 xs[i] v) ∧ (xs.length ≤ i → J.stop i H)
structure LI (X : Cx) (tg iter : Expr) (wi : PTI) : Prop where
  run : ∀ (σv : L2.St) (H : Hp) (σ : PSt) (F : Hp) (M : Mem) (Q : List PV → Mem → Prop) (E : PXK), PTk X F M H E → RM X.K F M H → RS X.K F σ σv → wi E σ M Q →
    WI X tg iter σv H (fun J H' => ∃ F' M' xs, Beh X.K F M H F' M' H' ∧ Stab X.K J F' xs ∧ Q xs M')
theorem stab_list {K : PySem.W.Frag} {F : Hp} {a : Addr} {xs : List PV} {vs : List V} (h : SqL K F a vs) (r : RAll K F xs vs) : Stab K (Itl K a) F xs := by
  intro i F' M H sm rm
  have hH : SqL K H a vs := rm.fr.seq (sm.seq h)
  refine ⟨fun hi => ?_, fun hi => ⟨vs, hH, by rw [← r.length]; exact hi⟩⟩
  obtain ⟨v, e, rv⟩ := r.get (List.getElem?_eq_getElem hi)
  refine ⟨⟨vs, v, hH, e⟩, fun w H' y => ?_⟩
  obtain ⟨rfl, y⟩ := y
  have e2 := y vs hH
  rw [e] at e2
  cases e2
  exact ⟨F', Beh.refl rm, rv.same sm⟩
theorem stab_tup {K : PySem.W.Frag} {F : Hp} {a : Addr} {xs : List PV} {vs : List V} (h : SqT K F a vs) (r : RAll K F xs vs) : Stab K (Itt K a) F xs := by
  intro i F' M H sm rm
  have hH : SqT K H a vs := sqT_same rm.fr (sqT_same sm h)
  refine ⟨fun hi => ?_, fun hi => ⟨vs, hH, by rw [← r.length]; exact hi⟩⟩
  obtain ⟨v, e, rv⟩ := r.get (List.getElem?_eq_getElem hi)
  refine ⟨⟨vs, v, hH, e⟩, fun w H' y => ?_⟩
  obtain ⟨rfl, y⟩ := y
  have e2 := y vs hH
  rw [e] at e2
  cases e2
  exact ⟨F', Beh.refl rm, rv.same sm⟩
/-- the ints lo, lo + 1, .. -/
def rngP (lo : Int) (n : Nat) : List PV := (List.range n).map fun (i : Nat) => PV.int (lo + i)
theorem rngP_length {lo : Int} {n : Nat} : (rngP lo n).length = n := by unfold rngP; rw [List.length_map, List.length_range]
theorem stab_rng {K : PySem.W.Frag} {F : Hp} {lo : Int} {n : Nat} : Stab K (Itr lo n) F (rngP lo n) := by
  intro i F' M H sm rm
  refine ⟨fun hi => ?_, fun hi => by rw [rngP_length] at hi; exact hi⟩
  have hn : i < n := by rw [rngP_length] at hi; exact hi
  refine ⟨hn, fun w H' y => ?_⟩
  obtain ⟨rfl, rfl⟩ := y
  refine ⟨F', Beh.refl rm, ?_⟩
  have e : (rngP lo n)[i] = PV.int (lo + i) := by simp [rngP]
  rw [e]
  exact .int _
/-- a frozen list or a tuple: which it is, is told -/
def lstF : PV → Option (List PV)
  | .lst xs => some xs
  | .scr xs => some xs
  | _ => none
def tupF : PV → Option (List PV)
  | .tup xs => some xs
  | _ => none
def piL (te : PTE) : PTI := fun E σ M Q => te E σ M fun x M1 => need (lstF x) fun xs => Q xs M1
def piT (te : PTE) : PTI := fun E σ M Q => te E σ M fun x M1 => need (tupF x) fun xs => Q xs M1
def piR1 (te : PTE) : PTI := fun E σ M Q => te E σ M fun x M1 => match x with | .int j => (-(2 ^ 62) ≤ j ∧ j < 2 ^ 62) ∧ Q (rngP 0 j.toNat) M1 | _ => False
def piR2 (ta tb : PTE) : PTI := fun E σ M Q => ta E σ M fun x M1 => tb E σ M1 fun y M2 => match x, y with | .int i, .int j => (-(2 ^ 62) ≤ i ∧ i < 2 ^ 62 ∧ -(2 ^ 62) ≤ j ∧ j < 2 ^ 62) ∧ Q (rngP i (j - i).toNat) M2 | _, _ => False
section
variable {X : Cx} {tg iter e a b : Expr} {te ta tb : PTE} {pos p : Pos}
theorem LI.list (he : LE X e te) : LI X tg e (piL te) := by
  refine ⟨fun σv H σ F M Q E tk rm rs h => WI.of (pi_list WE.pe) ?_⟩
  refine (he.run σv H σ F M _ E tk rm rs h).mono ?_
  rintro v H1 ⟨F1, M1, x, b1, rx, hx⟩
  obtain ⟨xs, e1, h2⟩ := need_of hx
  cases rx with
  | lst q r => cases e1; exact ⟨_, rfl, ⟨_, SqL.of (b1.rm.fr _ _ q)⟩, F1, M1, _, b1, stab_list (SqL.of q) r, h2⟩
  | scr q r => cases e1; exact ⟨_, rfl, ⟨_, b1.rm.fr.seq q⟩, F1, M1, _, b1, stab_list q r, h2⟩
  | _ => cases e1
theorem LI.tup (he : LE X e te) : LI X tg e (piT te) := by
  refine ⟨fun σv H σ F M Q E tk rm rs h => WI.of (pi_tup WE.pe) ?_⟩
  refine (he.run σv H σ F M _ E tk rm rs h).mono ?_
  rintro v H1 ⟨F1, M1, x, b1, rx, hx⟩
  obtain ⟨xs, e1, h2⟩ := need_of hx
  cases rx with
  | tup q r => cases e1; exact ⟨_, rfl, ⟨_, sqT_same b1.rm.fr q⟩, F1, M1, _, b1, stab_tup q r, h2⟩
  | _ => cases e1
theorem LI.rng1 (hg : Gl X "range") (hm : X.mg "range" = none) (ha : LE X a ta) (hs : starEach [a] X.env = [(false, eval a X.env)] := by rfl) : LI X tg (.Call (.Name "range" p) [a] [] pos) (piR1 ta) := by
  refine ⟨fun σv H σ F M Q E tk rm rs h => WI.of (pi_range1 hg hm (pa_cons WE.pe pa_nil hs) hs) ?_⟩
  refine (ha.run σv H σ F M _ E tk rm rs h).mono ?_
  rintro v H1 ⟨F1, M1, x, b1, rx, hx⟩
  cases rx <;> first
    | exact hx.elim
    | exact ⟨_, rfl, hx.1.1, hx.1.2, F1, M1, _, b1, stab_rng, hx.2⟩
theorem LI.rng2 (hg : Gl X "range") (hm : X.mg "range" = none) (ha : LE X a ta) (hb : LE X b tb) (hs : starEach [a, b] X.env = [(false, eval a X.env), (false, eval b X.env)] := by rfl) (hs2 : starEach [b] X.env = [(false, eval b X.env)] := by rfl) : LI X tg (.Call (.Name "range" p) [a, b] [] pos) (piR2 ta tb) := by
  refine ⟨fun σv H σ F M Q E tk rm rs h => WI.of (pi_range2 hg hm (pa_cons WE.pe (pa_cons WE.pe pa_nil hs2) (by rw [hs2]; exact hs)) hs hs2) ?_⟩
  refine seq2 (k := fun x y M2 => match x, y with | .int i, .int j => (-(2 ^ 62) ≤ i ∧ i < 2 ^ 62 ∧ -(2 ^ 62) ≤ j ∧ j < 2 ^ 62) ∧ Q (rngP i (j - i).toNat) M2 | _, _ => False) ha hb tk rm rs h fun x y xv yv F2 M2 H2 bh rx ry h2 => ?_
  cases rx <;> cases ry <;> first
    | exact h2.elim
    | exact ⟨_, _, rfl, h2.1, F2, M2, _, bh, stab_rng, h2.2⟩
end
/-! ### for, while -/
def pForL (g : PTG) (tb : PTS) : List PV → PTS
  | [] => fun D σ M => D.nx σ M
  | x :: xs => fun D σ M => g x σ M fun σ1 M1 => tb { D with nx := pForL g tb xs D, bk := D.nx, ct := pForL g tb xs D } σ1 M1
def pFor (wi : PTI) (g : PTG) (tb : PTS) : PTS := fun D σ M => wi D.ex σ M fun xs M1 => pForL g tb xs D σ M1
def pWhileN (c : PTT) (tb : PTS) : Nat → PTS
  | 0 => fun _ _ _ => False
  | n + 1 => fun D σ M => c D.ex σ M fun b M1 => if b = true then tb { D with nx := pWhileN c tb n D, bk := D.nx, ct := pWhileN c tb n D } σ M1 else D.nx σ M1
def pWhile (c : PTT) (tb : PTS) : PTS := fun D σ M => ∃ n, pWhileN c tb n D σ M
section
variable {X : Cx} {tg iter c : Expr} {body : List Stmt} {wi : PTI} {g : PTG} {tb : PTS} {tt : PTT} {pos : Pos}
theorem LS.for (hp : PassesOwn (model X.prog X.w) X.A X.env X.xe) (hc : X.calm = true) (hi : LI X tg iter wi) (hg : LG X tg g) (hb : LSs X body tb) (hs : ∀ x, foldedSetIterable iter X.env x = pure x := by intro _; rfl) : LS X (.For tg iter body [] pos) (pFor wi g tb) := by
  refine ⟨fun σv H σ F M D tk rm rs h => WS.of (ps_for hp hc WI.pi WG.pg WSs.ps hs) ?_⟩
  refine (hi.run σv H σ F M _ D.ex tk rm rs h).mono ?_
  rintro J H1 ⟨F1, M1, xs, b1, st, h1⟩
  refine ⟨fun i m σv' H' => m = xs.length - i ∧ i ≤ xs.length ∧ ∃ F' M' σ', Beh X.K F M H F' M' H' ∧ Same F1 F' ∧ RS X.K F' σ' σv' ∧ pForL g tb (xs.drop i) D σ' M', ⟨xs.length, rfl, Nat.zero_le _, F1, M1, σ, b1, Same.refl _, rs.same b1.sm, h1⟩, ?_⟩
  rintro i m σv2 H2 ⟨rfl, hi2, F2, M2, σ2, b2, sm2, rs2, h2⟩
  obtain ⟨s1, s2⟩ := st i F2 M2 H2 sm2 b2.rm
  by_cases hlt : i < xs.length
  · obtain ⟨go, yl⟩ := s1 hlt
    rw [List.drop_eq_getElem_cons hlt] at h2
    refine .inr ⟨go, _, fun σv' H' n => ⟨_, (show xs.length - (i + 1) < xs.length - i by omega), n⟩, fun v H3 y => ?_⟩
    obtain ⟨F3, b3, r3⟩ := yl v H3 y
    refine (hg.run σv2 H3 σ2 F3 M2 _ v _ b3.rm (rs2.same b3.sm) r3 h2).mono ?_
    rintro σv4 H4 ⟨F4, M4, σ4, b4, rs4, h4⟩
    have b24 := b3.trans b4
    have b04 := b2.trans b24
    refine (hb.run σv4 H4 σ4 F4 M4 { D with nx := pForL g tb (xs.drop (i + 1)) D, bk := D.nx, ct := pForL g tb (xs.drop (i + 1)) D } (tk.tr b04) b04.rm rs4 h4).mono ⟨?_, fun _ _ q => q.tr b04, fun _ _ q => q.tr b04, ?_⟩
    · rintro σv5 H5 ⟨F5, M5, σ5, b5, rs5, h5⟩
      exact ⟨rfl, hlt, F5, M5, σ5, b04.trans b5, (sm2.trans b24.sm).trans b5.sm, rs5, h5⟩
    · rintro σv5 H5 ⟨F5, M5, σ5, b5, rs5, h5⟩
      exact ⟨rfl, hlt, F5, M5, σ5, b04.trans b5, (sm2.trans b24.sm).trans b5.sm, rs5, h5⟩
  · have e : i = xs.length := by omega
    subst e
    rw [List.drop_length] at h2
    exact .inl ⟨s2 (Nat.le_refl _), F2, M2, σ2, b2, rs2, h2⟩
theorem LS.while (hp : PassesOwn (model X.prog X.w) X.A X.env X.xe) (hc : LT X c tt) (hb : LSs X body tb) : LS X (.While c body [] pos) (pWhile tt tb) := by
  refine ⟨fun σv H σ F M D tk rm rs h => WS.of (ps_while hp WT.pt WSs.ps) ?_⟩
  obtain ⟨n, h⟩ := h
  refine ⟨fun m σv' H' => ∃ F' M' σ', Beh X.K F M H F' M' H' ∧ RS X.K F' σ' σv' ∧ pWhileN tt tb m D σ' M', ⟨n, F, M, σ, Beh.refl rm, rs, h⟩, ?_⟩
  rintro m σv2 H2 ⟨F2, M2, σ2, b2, rs2, h2⟩
  cases m with
  | zero => exact h2.elim
  | succ m =>
    refine (hc.run σv2 H2 σ2 F2 M2 _ D.ex (tk.tr b2) b2.rm rs2 h2).mono ?_
    rintro b H3 ⟨F3, M3, b3, h3⟩
    split
    · rename_i e
      rw [if_pos e] at h3
      have b03 := b2.trans b3
      refine ⟨_, fun σv' H' n => ⟨m, Nat.lt_succ_self m, n⟩, ?_⟩
      refine (hb.run σv2 H3 σ2 F3 M3 { D with nx := pWhileN tt tb m D, bk := D.nx, ct := pWhileN tt tb m D } (tk.tr b03) b03.rm (rs2.same b3.sm) h3).mono ⟨?_, fun _ _ q => q.tr b03, fun _ _ q => q.tr b03, ?_⟩
      · rintro σv5 H5 ⟨F5, M5, σ5, b5, rs5, h5⟩
        exact ⟨F5, M5, σ5, b03.trans b5, rs5, h5⟩
      · rintro σv5 H5 ⟨F5, M5, σ5, b5, rs5, h5⟩
        exact ⟨F5, M5, σ5, b03.trans b5, rs5, h5⟩
    · rename_i e
      rw [if_neg e] at h3
      exact ⟨F3, M3, σ2, b2.trans b3, rs2.same b3.sm, h3⟩
end
/-! ### list comprehensions over one name -/
abbrev PTTs := PTT
def pYes : PTT := fun _ _ M Q => Q true M
def pLcL (i : Nat) (tt : PTT) (te : PTE) : List PV → List PV → PSt → Mem → PQ → Prop
  | [], acc => fun _ M Q => Q (.lst acc) M
  | x :: xs, acc => fun σ M Q => tt noX (σ.set i (some x)) M fun b M1 => if b = true then te noX (σ.set i (some x)) M1 fun y M2 => pLcL i tt te xs (acc ++ [y]) σ M2 Q else pLcL i tt te xs acc σ M1 Q
def pLc (wi : PTI) (i : Nat) (tt : PTT) (te : PTE) : PTE := fun E σ M Q => wi E σ M fun xs M1 => xs.length ≤ sizeLine ∧ pLcL i tt te xs [] σ M1 Q
/-- a clause's tests -/
structure LTs (X : Cx) (ifs : List Expr) (t : PTT) : Prop where
  run : ∀ (σv : L2.St) (H : Hp) (σ : PSt) (F : Hp) (M : Mem) (Q : Bool → Mem → Prop), RM X.K F M H → RS X.K F σ σv → t noX σ M Q →
    ∀ pins s, Inv X pins σv H s → wpAny (model X.prog X.w) X.A (forIn ifs true fun c r => if r = true then do let ok ← isTrue c X.env (eval c X.env); pure (ForInStep.yield ok) else pure (ForInStep.yield r)) (TP X pins σv (LB X.K F M H Q)) X.xe s
theorem LTs.nil {X : Cx} : LTs X [] pYes := ⟨fun σv H σ F M Q rm rs h pins s I => pts_nil.run pins s σv H _ I ⟨F, M, Beh.refl rm, h⟩⟩
theorem LTs.one {X : Cx} {c : Expr} {t : PTT} (hc : LT X c t) : LTs X [c] t := ⟨fun σv H σ F M Q rm rs h pins s I => (pts_one WT.pt).run pins s σv H _ I (hc.run σv H σ F M Q noX PTk.no rm rs h)⟩
section
variable {X : Cx} {elt tg iter : Expr} {ifs : List Expr} {scope : Scope} {x : Str} {i : Nat} {pos pt : Pos} {wi : PTI} {tt : PTT} {te : PTE}
abbrev Blk (X : Cx) (scope : Scope) (s : Shared) (H : Hp) (C : Addr) (cl : List (Str × Addr)) (fp : List Addr) : Cx := X.blk s H scope (compEnvC scope cl C X.env) fp
theorem hid_app {K : PySem.W.Frag} {F H : Hp} {M : Mem} {p : Addr} {o : HO} (r : RM K F M H) (nF : F p = none) (nM : M p = none) : RM K F M (upd H p o) := (r.behHid nF nM).1
/-- the turns of the block, D the new list -/
theorem lc_turns {te' : TE} {tt' : TT} (hi : i < X.N.length)
    (ht : ∀ (σv : L2.St) (H : Hp) (σ : PSt) (F : Hp) (M : Mem) (Q : Bool → Mem → Prop), RM X.K F M H → RS X.K F σ σv → tt noX σ M Q → tt' σv H (LB X.K F M H Q))
    (he : ∀ (σv : L2.St) (H : Hp) (σ : PSt) (F : Hp) (M : Mem) (Q : PQ), RM X.K F M H → RS X.K F σ σv → te noX σ M Q → te' σv H (LQ X.K F M H Q))
    (mt : ∀ σv H Q Q', tt' σv H Q → (∀ b H', Q b H' → Q' b H') → tt' σv H Q') (me : ∀ σv H Q Q', te' σv H Q → (∀ b H', Q b H' → Q' b H') → te' σv H Q')
    {σv : L2.St} {σ : PSt} {F M H F1 M1 H1} {Q : PQ} {J : It} {xs : List PV} (b1 : Beh X.K F M H F1 M1 H1) (rs : RS X.K F σ σv) (st : Stab X.K J F1 xs) (hz : xs.length ≤ sizeLine) (h1 : pLcL i tt te xs [] σ M1 Q) {D : Addr} (nD : H1 D = none) :
    ∃ W : Nat → Nat → Hp → Prop, (∃ m, W 0 m (upd H1 D (.lst []))) ∧ ∀ j m H', W j m H' →
      (J.stop j H' ∧ LQ X.K F M H Q (.ref D) H') ∨ (J.go j H' ∧ ∃ Nx : Hp → Prop, (∀ H2, Nx H2 → ∃ m', m' < m ∧ W (j + 1) m' H2) ∧ ∀ v H2, J.yld j H' v H2 → gName i v (wipe σv [i]) H2 fun σ2 H3 => wipe σ2 [i] = wipe σv [i] ∧ tt' σ2 H3 fun b H4 =>
        if b = true then te' σ2 H4 fun y H5 => ∃ acc, H5 D = some (.lst acc) ∧ acc.length < sizeLine ∧ Nx (upd H5 D (.lst (acc ++ [y]))) else Nx H4) := by
  obtain ⟨nF, nM⟩ := b1.rm.nones nD
  have b1' := b1.trans ((b1.rm.behHid (o := .lst []) nF nM).2 nD)
  refine ⟨fun j m H' => m = xs.length - j ∧ j ≤ xs.length ∧ ∃ F' M' acc vacc, Beh X.K F M H F' M' H' ∧ Same F1 F' ∧ F' D = none ∧ M' D = none ∧ H' D = some (.lst vacc) ∧ RAll X.K F' acc vacc ∧ acc.length ≤ j ∧ pLcL i tt te (xs.drop j) acc σ M' Q,
    ⟨xs.length, rfl, Nat.zero_le _, F1, M1, [], [], b1', Same.refl _, nF, nM, upd_same, .nil, Nat.le_refl _, h1⟩, ?_⟩
  rintro j m H2 ⟨rfl, hj, F2, M2, acc, vacc, b2, sm2, nF2, nM2, hD, ra, hl, h2⟩
  obtain ⟨s1, s2⟩ := st j F2 M2 H2 sm2 b2.rm
  by_cases hlt : j < xs.length
  · obtain ⟨go, yl⟩ := s1 hlt
    rw [List.drop_eq_getElem_cons hlt] at h2
    refine .inr ⟨go, _, fun H' n => ⟨_, (show xs.length - (j + 1) < xs.length - j by omega), n⟩, fun v H3 y => ?_⟩
    obtain ⟨F3, b3, r3⟩ := yl v H3 y
    have keepD : ∀ {Fa : Hp} {Ma : Mem} {Ha : Hp}, Beh X.K F2 M2 H2 Fa Ma Ha → Fa D = none ∧ Ma D = none ∧ Ha D = some (.lst vacc) := fun {Fa Ma Ha} b => by
      refine ⟨?_, ?_, b.fr.keep D _ hD nM2⟩
      · cases q : Fa D with
        | none => rfl
        | some u =>
          rcases b.fg D (by rw [q]; exact Option.some_ne_none _) with z | z | z
          · exact absurd nF2 z
          · exact absurd nM2 z
          · rw [hD] at z; cases z
      · cases q : Ma D with
        | none => rfl
        | some u =>
          rcases b.fr.grow D (by rw [q]; exact Option.some_ne_none _) with z | z
          · exact absurd nM2 z
          · rw [hD] at z; cases z
    have hw : wipe σv [i] = σv.set i none := rfl
    have e1 : (wipe σv [i]).set i (some v) = σv.set i (some v) := by rw [hw, List.set_set]
    show wipe ((wipe σv [i]).set i (some v)) [i] = wipe σv [i] ∧ _
    rw [e1]
    refine ⟨by show (σv.set i (some v)).set i none = σv.set i none; rw [List.set_set], ?_⟩
    have rs3 : RS X.K F3 (σ.set i (some xs[j])) (σv.set i (some v)) := (rs.same (b2.trans b3).sm).set i r3
    refine mt _ _ _ _ (ht _ H3 _ F3 M2 _ b3.rm rs3 h2) ?_
    rintro b H4 ⟨F4, M4, b4, h4⟩
    have b24 := b3.trans b4
    split
    · rename_i e
      rw [if_pos e] at h4
      refine me _ _ _ _ (he _ H4 _ F4 M4 _ b4.rm (rs3.same b4.sm) h4) ?_
      rintro yv H5 ⟨F5, M5, y5, b5, r5, h5⟩
      have b25 := b24.trans b5
      obtain ⟨k1, k2, k3⟩ := keepD b25
      refine ⟨vacc, k3, by rw [← ra.length]; omega, rfl, hlt, F5, M5, acc ++ [y5], vacc ++ [yv], ?_, sm2.trans b25.sm, k1, k2, upd_same, (ra.same b25.sm).append (.cons r5 .nil), by rw [List.length_append]; show acc.length + 1 ≤ j + 1; omega, h5⟩
      have b05 := b2.trans b25
      have x : RM X.K F5 M5 (upd H5 D (.lst (vacc ++ [yv]))) := hid_app b05.rm k1 k2
      refine ⟨b05.sm, x, ⟨fun c u hc nc => ?_, b05.fr.grow, fun c hc => ?_⟩, b05.fg⟩
      · have hcD : c ≠ D := fun z => by
          subst z
          rcases b1.fr.there c (by rw [hc]; exact Option.some_ne_none _) with _
          exact absurd nD (b1.fr.there c (by rw [hc]; exact Option.some_ne_none _))
        rw [upd_ne hcD]
        exact b05.fr.keep c u hc nc
      · by_cases hcD : c = D
        · subst hcD; rw [upd_same]; exact Option.some_ne_none _
        · rw [upd_ne hcD]; exact b05.fr.there c hc
    · rename_i e
      rw [if_neg e] at h4
      obtain ⟨k1, k2, k3⟩ := keepD b24
      exact ⟨rfl, hlt, F4, M4, acc, vacc, b2.trans b24, sm2.trans b24.sm, k1, k2, k3, ra.same b24.sm, by omega, h4⟩
  · have e : j = xs.length := by omega
    subst e
    rw [List.drop_length] at h2
    refine .inl ⟨s2 (Nat.le_refl _), ?_⟩
    have sm : Same F2 (upd F2 D (.lst vacc)) := same_upd nF2
    refine ⟨upd F2 D (.lst vacc), M2, _, ⟨b2.sm.trans sm, ⟨fun c u hc => ?_, fun c hc => ?_, fun c mo hc => ?_⟩, b2.fr, fun c hc => ?_⟩, .lst upd_same (ra.same sm), h2⟩
    · by_cases hcD : c = D
      · subst hcD; rw [upd_same] at hc; cases hc; exact hD
      · rw [upd_ne hcD] at hc; exact b2.rm.fr c u hc
    · have hcD : c ≠ D := fun z => hc (by rw [z]; exact nM2)
      rw [upd_ne hcD]; exact b2.rm.dj c hc
    · obtain ⟨u, e1, e2⟩ := b2.rm.mu c mo hc
      exact ⟨u, e1, e2.same sm⟩
    · by_cases hcD : c = D
      · subst hcD
        right; right
        cases q : H c with
        | none => rfl
        | some u => exact absurd nD (b1.fr.there c (by rw [q]; exact Option.some_ne_none _))
      · rw [upd_ne hcD] at hc; exact b2.fg c hc
def TBlk (X : Cx) (scope : Scope) (ifs : List Expr) : TT := fun σ H Q => ∀ s0 H0 C cl fp pins s, Inv (Blk X scope s0 H0 C cl fp) pins σ H s →
  wpAny (model X.prog X.w) X.A (forIn ifs true fun c r => if r = true then do let ok ← isTrue c (Blk X scope s0 H0 C cl fp).env (eval c (Blk X scope s0 H0 C cl fp).env); pure (ForInStep.yield ok) else pure (ForInStep.yield r)) (TP (Blk X scope s0 H0 C cl fp) pins σ Q) (fun _ _ => False) s
def EBlk (X : Cx) (scope : Scope) (elt : Expr) : TE := fun σ H Q => ∀ s0 H0 C cl fp, WE (Blk X scope s0 H0 C cl fp) elt σ H Q
theorem TBlk.mono {σv H Q Q'} (h : TBlk X scope ifs σv H Q) (m : ∀ b H', Q b H' → Q' b H') : TBlk X scope ifs σv H Q' := fun s0 H0 C cl fp pins s I => thn (h s0 H0 C cl fp pins s I) fun b s' ⟨H', I', q⟩ => ⟨H', I', m b H' q⟩
theorem EBlk.mono {σv H Q Q'} (h : EBlk X scope elt σv H Q) (m : ∀ b H', Q b H' → Q' b H') : EBlk X scope elt σv H Q' := fun s0 H0 C cl fp => (h s0 H0 C cl fp).mono m
theorem lc_core' (hi : LI X tg iter wi) (hl : i < X.N.length)
    (ht : ∀ (s : Shared) (H : Hp) (C : Addr) (cl : List (Str × Addr)) (fp : List Addr), LTs (Blk X scope s H C cl fp) ifs tt)
    (he : ∀ (s : Shared) (H : Hp) (C : Addr) (cl : List (Str × Addr)) (fp : List Addr), LE (Blk X scope s H C cl fp) elt te)
    {σv : L2.St} {H : Hp} {σ : PSt} {F : Hp} {M : Mem} {Q : PQ} {E : PXK} (tk : PTk X F M H E) (rm : RM X.K F M H) (rs : RS X.K F σ σv) (h : pLc wi i tt te E σ M Q) : tLc (WI X tg iter) (gName i) (TBlk X scope ifs) (EBlk X scope elt) [i] σv H (LQ X.K F M H Q) := by
  refine (hi.run σv H σ F M _ E tk rm rs h).mono ?_
  rintro J H1 ⟨F1, M1, xs, b1, st, hz, h1⟩
  intro D nD
  exact lc_turns (te := te) (tt := tt) (te' := EBlk X scope elt) (tt' := TBlk X scope ifs) hl (fun σv H σ F M Q rm rs h s0 H0 C cl fp pins s I => (ht s0 H0 C cl fp).run σv H σ F M Q rm rs h pins s I)
    (fun σv H σ F M Q rm rs h s0 H0 C cl fp => (he s0 H0 C cl fp).run σv H σ F M Q noX PTk.no rm rs h)
    (fun σv H Q Q' h m => TBlk.mono h m) (fun σv H Q Q' h m => EBlk.mono h m) b1 rs st hz h1 nD
/-- [elt for x in iter if ..] -/
theorem LE.lc (hc : X.calm = true) (hN : X.N.Nodup) (hi : LI X (.Name x pt) iter wi) (ok : BlkOk X.N X.env.scope scope [(x, i)])
    (hg : ∀ (s : Shared) (H : Hp) (C : Addr) (cl : List (Str × Addr)) (fp : List Addr), PG (Blk X scope s H C cl fp) (.Name x pt) (gName i))
    (ht : ∀ (s : Shared) (H : Hp) (C : Addr) (cl : List (Str × Addr)) (fp : List Addr), LTs (Blk X scope s H C cl fp) ifs tt)
    (he : ∀ (s : Shared) (H : Hp) (C : Addr) (cl : List (Str × Addr)) (fp : List Addr), LE (Blk X scope s H C cl fp) elt te)
    (hs : ∀ v, foldedSetIterable iter X.env v = pure v := by intro _; rfl) : LE X (.ListComp elt [⟨.Name x pt, iter, ifs, 0⟩] scope pos) (pLc wi i tt te) := by
  refine ⟨fun σv H σ F M Q E tk rm rs h => ?_⟩
  refine WE.of (pe_lc (own := [(x, i)]) (g := gName i) (tt := TBlk X scope ifs) (te := EBlk X scope elt) hc hN WI.pi ok hg (fun s0 H0 C cl fp => ⟨fun pins s σ H Q I hh => hh s0 H0 C cl fp pins s I⟩) (fun s0 H0 C cl fp => ⟨fun pins s σ H Q I hh => hh s0 H0 C cl fp pins s I⟩) hs) ?_
  exact lc_core' hi (List.getElem?_eq_some_iff.mp (ok.ix (x, i) (by simp))).1 ht he tk rm rs h
/-- y = [elt for x in iter if ..] on one row -/
theorem LS.setLc (k : Nat) {y : Str} {py spos : Pos} (hc : X.calm = true) (hN : X.N.Nodup) (hy : X.N[k]? = some y) (hyl : X.env.scope.names.lookup y = some .local)
    (hsw : swapsWith (.ListComp elt [⟨.Name x pt, iter, ifs, 0⟩] scope pos) (some (.Name y py)) spos.line X.env = pure true) (hi : LI X (.Name x pt) iter wi) (ok : BlkOk X.N X.env.scope scope [(x, i)])
    (hg : ∀ (s : Shared) (H : Hp) (C : Addr) (cl : List (Str × Addr)) (fp : List Addr), PG (Blk X scope s H C cl fp) (.Name x pt) (gName i))
    (ht : ∀ (s : Shared) (H : Hp) (C : Addr) (cl : List (Str × Addr)) (fp : List Addr), LTs (Blk X scope s H C cl fp) ifs tt)
    (he : ∀ (s : Shared) (H : Hp) (C : Addr) (cl : List (Str × Addr)) (fp : List Addr), LE (Blk X scope s H C cl fp) elt te)
    (hs : ∀ v, foldedSetIterable iter X.env v = pure v := by intro _; rfl) : LS X (.Assign [.Name y py] (.ListComp elt [⟨.Name x pt, iter, ifs, 0⟩] scope pos) spos) (pSet k (pLc wi i tt te)) := by
  refine ⟨fun σv H σ F M D tk rm rs h => ?_⟩
  refine WS.of (ps_setLc (own := [(x, i)]) (g := gName i) (tt := TBlk X scope ifs) (te := EBlk X scope elt) hc hN hy hyl hsw WI.pi ok hg (fun s0 H0 C cl fp => ⟨fun pins s σ H Q I hh => hh s0 H0 C cl fp pins s I⟩) (fun s0 H0 C cl fp => ⟨fun pins s σ H Q I hh => hh s0 H0 C cl fp pins s I⟩) hs) ?_
  have q := lc_core' (elt := elt) (ifs := ifs) (scope := scope) hi (List.getElem?_eq_some_iff.mp (ok.ix (x, i) (by simp))).1 ht he tk rm rs h
  have m : ∀ v H', LQ X.K F M H (fun x M1 => D.nx (σ.set k (some x)) M1) v H' → gName k v σv H' (LD X.K F M H D).nx := fun v H' ⟨F1, M1, y, b1, ry, hy⟩ => ⟨F1, M1, _, b1, (rs.same b1.sm).set k ry, hy⟩
  refine WI.mono q fun J H1 h1 => ?_
  intro D' nD
  obtain ⟨W, w0, w1⟩ := h1 D' nD
  refine ⟨W, w0, fun j m' H' w => ?_⟩
  rcases w1 j m' H' w with ⟨s1, s2⟩ | s
  · exact .inl ⟨s1, m _ _ s2⟩
  · exact .inr s
end
/-! ### a def keeps its promise -/
section
variable {P : Program} {w : World} {K : PySem.W.Frag} {mg : Str → Option Value} {base : Heap}
theorem Fn.ok {x qual : Str} {st : Stmt} {f : Addr} {fd : FuncData} {N ps : List Str} {k n : Nat} {sp : PSp} (F : Fun K x qual st f fd) (S : FnScope N ps (defScope st)) (hn : N.length = n)
    (body : ∀ (cdv : Value) (A : Around) (outer : List Env) (s : Shared) (H : Hp) (E : XK), Room k (A.deeper (envOfC qual (defScope st) s.heap.objs.size f cdv)) →
      ∃ t, LSs (cxOf (L2.CX P w) P w K mg base N qual (defScope st) f cdv A outer s H E) (defBody st) t ∧ ∀ xs M Q Ep, xs.length = ps.length → sp xs M Q Ep → t { nx := fun _ M' => Q .non M', rt := Q, ex := Ep } (pstart n xs) M) :
    FnOk P w K mg base (L2.CX P w) (k + 1) f fd ps (lift K ps.length sp) := by
  refine F.okX S (fun vs H Q E h => h.1) (fun cdv A outer s H vs Q E hr h => ?_)
  obtain ⟨t, ht, hb⟩ := body cdv A outer s H E hr
  obtain ⟨hl, F0, M, xs, Qp, Ep, rm, rx, h1, k1, k2⟩ := h
  refine ⟨_, WSs.ps, ?_⟩
  have rs : RS K F0 (pstart n xs) (L2.start N vs) := hn ▸ RS.start rx
  have tk : PTk (cxOf (L2.CX P w) P w K mg base N qual (defScope st) f cdv A outer s H E) F0 M H Ep :=
    (takes_of (X := cxOf (L2.CX P w) P w K mg base N qual (defScope st) f cdv A outer s H E) rfl rfl rfl rfl).imp fun c d _ H' q => k2 c d H' q
  refine (ht.run (L2.start N vs) H (pstart n xs) F0 M { nx := fun _ M' => Qp .non M', rt := Qp, ex := Ep } tk rm rs (hb xs M Qp Ep (by rw [rx.length, hl]) h1)).mono ⟨?_, fun v H' q => k1 v H' q, fun _ _ ⟨_, _, _, _, _, z⟩ => z.elim, fun _ _ ⟨_, _, _, _, _, z⟩ => z.elim⟩
  rintro σ' H' ⟨F1, M1, σ1, b1, rs1, q1⟩
  exact k1 .non H' ⟨F1, M1, .non, b1, .non, q1⟩
end
end PL
set_option Elab.async false
set_option linter.all false
set_option maxRecDepth 100000
namespace PL
open PySem PySem.Spec PyProof.Rows L2
/-! ### all(..), any(..) of a list of bools -/
def blsOf : List PV → Option (List Bool)
  | [] => some []
  | .bl b :: r => (blsOf r).map (b :: ·)
  | _ => none
def intsOf : List PV → Option (List Int)
  | [] => some []
  | .int i :: r => (intsOf r).map (i :: ·)
  | _ => none
theorem blsOf_map : ∀ bs : List Bool, blsOf (bs.map PV.bl) = some bs
  | [] => rfl
  | b :: r => by
    show (blsOf (r.map PV.bl)).map (b :: ·) = _
    rw [blsOf_map r]
    rfl
theorem intsOf_map : ∀ bs : List Int, intsOf (bs.map PV.int) = some bs
  | [] => rfl
  | b :: r => by
    show (intsOf (r.map PV.int)).map (b :: ·) = _
    rw [intsOf_map r]
    rfl
theorem blsOf_eq : ∀ {xs : List PV} {bs : List Bool}, blsOf xs = some bs → xs = bs.map PV.bl
  | [], bs, h => by cases h; rfl
  | .bl b :: r, bs, h => by
    cases hr : blsOf r with
    | none =>
      have h' : (blsOf r).map (b :: ·) = some bs := h
      rw [hr] at h'; cases h'
    | some cs =>
      have h' : (blsOf r).map (b :: ·) = some bs := h
      rw [hr] at h'; cases h'
      rw [blsOf_eq hr]; rfl
theorem intsOf_eq : ∀ {xs : List PV} {bs : List Int}, intsOf xs = some bs → xs = bs.map PV.int
  | [], bs, h => by cases h; rfl
  | .int b :: r, bs, h => by
    cases hr : intsOf r with
    | none =>
      have h' : (intsOf r).map (b :: ·) = some bs := h
      rw [hr] at h'; cases h'
    | some cs =>
      have h' : (intsOf r).map (b :: ·) = some bs := h
      rw [hr] at h'; cases h'
      rw [intsOf_eq hr]; rfl
theorem RAll.bls {K : PySem.W.Frag} {F : Hp} : ∀ {bs : List Bool} {vs : List V}, RAll K F (bs.map PV.bl) vs → vs = bs.map V.bl
  | [], _, .nil => rfl
  | b :: r, _, .cons (.bl _) t => by rw [RAll.bls t]; rfl
theorem RAll.intsI {K : PySem.W.Frag} {F : Hp} : ∀ {bs : List Int} {vs : List V}, RAll K F (bs.map PV.int) vs → vs = bs.map V.int
  | [], _, .nil => rfl
  | b :: r, _, .cons (.int _) t => by rw [RAll.intsI t]; rfl
def kAll (x : PV) (M : Mem) (Q : PQ) : Prop := need (lstOf M x) fun xs => need (blsOf xs) fun bs => Q (.bl (bs.all id)) M
def kAny (x : PV) (M : Mem) (Q : PQ) : Prop := need (lstOf M x) fun xs => need (blsOf xs) fun bs => Q (.bl (bs.any id)) M
section
variable {X : Cx} {a b c e : Expr} {ta tb tc te : PTE} {pos p p2 pos2 : Pos} {es : List Expr} {t : PTA} {x : Str}
theorem LE.all (hc : X.calm = true) (hg : Gl X "all") (hm : X.mg "all" = none) (ha : LA X [e] t) (he : starEach [e] X.env = (false, eval e X.env) :: starEach [] X.env := by rfl) : LE X (.Call (.Name "all" p) [e] [] pos) (pCallB (on1 kAll) t) := by
  refine LE.callB (cr_all hc) (fun F M H xs vs Q Qv rm rx h k => ?_) hg hm (by decide +kernel) ha (he := he)
  obtain ⟨x, ex, h1⟩ := on1_of h
  subst ex
  obtain ⟨v, ev, rx1⟩ := rx.one
  subst ev
  obtain ⟨ys, e1, h2⟩ := need_of h1
  obtain ⟨bs, e2, h3⟩ := need_of h2
  obtain ⟨q, ws, ev, hs, ra⟩ := rx1.lstI rm e1
  subst ev
  rw [blsOf_eq e2] at ra
  rw [ra.bls] at hs
  exact ⟨q, bs, rfl, hs, k _ _ (LQ.now rm (.bl _) h3)⟩
theorem LE.any (hc : X.calm = true) (hg : Gl X "any") (hm : X.mg "any" = none) (ha : LA X [e] t) (he : starEach [e] X.env = (false, eval e X.env) :: starEach [] X.env := by rfl) : LE X (.Call (.Name "any" p) [e] [] pos) (pCallB (on1 kAny) t) := by
  refine LE.callB (cr_any hc) (fun F M H xs vs Q Qv rm rx h k => ?_) hg hm (by decide +kernel) ha (he := he)
  obtain ⟨x, ex, h1⟩ := on1_of h
  subst ex
  obtain ⟨v, ev, rx1⟩ := rx.one
  subst ev
  obtain ⟨ys, e1, h2⟩ := need_of h1
  obtain ⟨bs, e2, h3⟩ := need_of h2
  obtain ⟨q, ws, ev, hs, ra⟩ := rx1.lstI rm e1
  subst ev
  rw [blsOf_eq e2] at ra
  rw [ra.bls] at hs
  exact ⟨q, bs, rfl, hs, k _ _ (LQ.now rm (.bl _) h3)⟩
end
/-! ### max(t) of a tuple of ints -/
section
variable {prog : Program} {w : World} {A : Around} {E : Value → Shared → Prop} {s : Shared} {l : Addr}
end
def kMaxT (x : PV) (M : Mem) (Q : PQ) : Prop := need (tupF x) fun xs => need (intsOf xs) fun ns => 0 < ns.length ∧ ∀ m, m ∈ ns → (∀ y, y ∈ ns → y ≤ m) → Q (.int m) M
section
variable {X : Cx} {a b c e : Expr} {ta tb tc te : PTE} {pos p p2 pos2 : Pos} {es : List Expr} {t : PTA} {x : Str}
end
/-! ### tuple(reversed(x)) -/
section
open RT
variable {prog : Program} {w : World} {A : Around} {E : Value → Shared → Prop} {s : Shared}
end
end PL
set_option Elab.async false
set_option linter.all false
set_option maxRecDepth 100000
set_option maxHeartbeats 1000000
namespace PL
open PySem PySem.Spec PyProof.Rows L2 RT
section
variable {prog : Program} {w : World} {A : Around} {E : Value → Shared → Prop} {s : Shared}
end
section
variable {X : Cx} {a b c e : Expr} {ta tb tc te : PTE} {pos p p2 pos2 : Pos} {es : List Expr} {t : PTA} {x : Str}
def pTupRev (te : PTE) : PTE := fun E σ M Q => te E σ M fun x M1 => need (tupF x) fun xs => Q (.tup xs.reverse) M1
end
end PL
set_option Elab.async false
set_option linter.all false
set_option maxRecDepth 100000
namespace PL
open PySem PySem.Spec PyProof.Rows L2
/-- the store without what stands at these slots -/
def dropSlots (σ : PSt) : List Nat → Mem → Mem
  | [], M => M
  | j :: js, M => dropSlots σ js (match σ[j]? with | some (some (.ptr p)) => M.drop p | _ => M)
theorem behDrops {K : PySem.W.Frag} {F H : Hp} {σ : PSt} : ∀ (js : List Nat) {M : Mem}, RM K F M H → Beh K F M H F (dropSlots σ js M) H
  | [], M, r => Beh.refl r
  | j :: js, M, r => by
    unfold dropSlots
    split
    · exact (r.behDrop).trans (behDrops js r.behDrop.rm)
    · exact behDrops js r
section
variable {X : Cx} {e : Expr} {te : PTE} {pos : Pos}
def pRetD (js : List Nat) (te : PTE) : PTS := fun D σ M => te D.ex σ M fun x M1 => D.rt x (dropSlots σ js M1)
theorem LS.retD (js : List Nat) (he : LE X e te) : LS X (.Return (some e) pos) (pRetD js te) := by
  refine ⟨fun σv H σ F M D tk rm rs h => WS.of (ps_ret WE.pe) ?_⟩
  refine (he.run σv H σ F M _ D.ex tk rm rs h).mono ?_
  rintro v H1 ⟨F1, M1, x, b1, rx, hx⟩
  exact ⟨F1, _, x, b1.trans (behDrops js b1.rm), rx, hx⟩
def pRetFD (js : List Nat) (te : PTE) : PTS := fun D σ M => te D.ex σ M fun x M1 => kFz x M1 fun y M2 => D.rt y (dropSlots σ js M2)
end
/-- a reading keeps a promise -/
def Keeps (t : PTS) (np n : Nat) (sp : PSp) : Prop := ∀ (xs : List PV) (M : Mem) (Q : PQ) (E : PXK), xs.length = np → sp xs M Q E → t { nx := fun _ M' => Q .non M', rt := Q, ex := E } (pstart n xs) M
end PL
set_option Elab.async false
set_option linter.all false
set_option maxRecDepth 100000
namespace PL
open PySem PySem.Spec PyProof.Rows L2
/-! ### a tuple times an int, of any sign -/
def rRepA (K : PySem.W.Frag) : R2 := fun x y H Q => ∃ l k xs, x = .ref l ∧ y = .int k ∧ SqT K H l xs ∧ -(2 ^ 62) ≤ k ∧ k ≤ 1000 ∧ xs.length ≤ 1000 ∧
  ((xs = [] ∨ k = 1) → Q (.ref l) H) ∧ (¬ (xs = [] ∨ k = 1) → ∀ p, H p = none → Q (.ref p) (upd H p (.tup (List.replicate k.toNat xs).flatten)))
section
variable {X : Cx} {a b : Expr} {ta tb : PTE} {pos : Pos}
def oMulA : PO2 := fun x y M Q => match x, y with
  | .int i, .int j => CMul i j ∧ Q (.int (i * j)) M
  | .tup xs, .int k => (-(2 ^ 62) ≤ k ∧ k ≤ 1000 ∧ xs.length ≤ 1000) ∧ Q (.tup (List.replicate k.toNat xs).flatten) M
  | _, _ => False
end
end PL
set_option Elab.async false
set_option linter.all false
set_option maxRecDepth 100000
namespace PL
open PySem PySem.Spec PyProof.Rows L2
/-! ### for over a list that may change, but doesn't meanwhile -/
def pForG (G : Mem → Prop) (g : PTG) (tb : PTS) : List PV → PTS
  | [] => fun D σ M => D.nx σ M
  | x :: xs => fun D σ M => g x σ M fun σ1 M1 => tb { D with nx := fun σ M => G M ∧ pForG G g tb xs D σ M, bk := D.nx, ct := fun σ M => G M ∧ pForG G g tb xs D σ M } σ1 M1
def pForM (te : PTE) (g : PTG) (tb : PTS) : PTS := fun D σ M => te D.ex σ M fun x M1 => need (lstOf M1 x) fun xs => pForG (fun M => lstOf M x = some xs) g tb xs D σ M1
section
variable {X : Cx} {tg iter : Expr} {body : List Stmt} {te : PTE} {g : PTG} {tb : PTS} {pos : Pos}
theorem LS.forM (hp : PassesOwn (model X.prog X.w) X.A X.env X.xe) (hc : X.calm = true) (hi : LE X iter te) (hg : LG X tg g) (hb : LSs X body tb) (hs : ∀ x, foldedSetIterable iter X.env x = pure x := by intro _; rfl) : LS X (.For tg iter body [] pos) (pForM te g tb) := by
  refine ⟨fun σv H σ F M D tk rm rs h => WS.of (ps_for hp hc (pi_list WE.pe) WG.pg WSs.ps hs) ?_⟩
  refine (hi.run σv H σ F M _ D.ex tk rm rs h).mono ?_
  rintro v H1 ⟨F1, M1, x, b1, rx, h1⟩
  obtain ⟨xs, e1, h1⟩ := need_of h1
  obtain ⟨a, vs0, ev, hs0, ra0⟩ := rx.lstI b1.rm e1
  subst ev
  have len0 := ra0.length
  refine ⟨a, rfl, ⟨vs0, hs0⟩, fun i m σv' H' => m = xs.length - i ∧ i ≤ xs.length ∧ ∃ F' M' σ', Beh X.K F M H F' M' H' ∧ Same F1 F' ∧ RS X.K F' σ' σv' ∧ lstOf M' x = some xs ∧ pForG (fun M => lstOf M x = some xs) g tb (xs.drop i) D σ' M', ⟨xs.length, rfl, Nat.zero_le _, F1, M1, σ, b1, Same.refl _, rs.same b1.sm, e1, h1⟩, ?_⟩
  rintro i m σv2 H2 ⟨rfl, hi2, F2, M2, σ2, b2, sm2, rs2, e2, h2⟩
  obtain ⟨a2, vs, ev, hs2, ra⟩ := (rx.same sm2).lstI b2.rm e2
  cases ev
  by_cases hlt : i < xs.length
  · rw [List.drop_eq_getElem_cons hlt] at h2
    obtain ⟨w, ew, rw'⟩ := ra.get (List.getElem?_eq_getElem hlt)
    refine .inr ⟨⟨vs, w, hs2, ew⟩, _, fun σv' H' n => ⟨_, (show xs.length - (i + 1) < xs.length - i by omega), n⟩, fun v H3 y => ?_⟩
    obtain ⟨rfl, y⟩ := y
    have e3 := y vs hs2
    rw [ew] at e3
    cases e3
    refine (hg.run σv2 H3 σ2 F2 M2 _ w _ b2.rm rs2 rw' h2).mono ?_
    rintro σv4 H4 ⟨F4, M4, σ4, b4, rs4, h4⟩
    have b04 := b2.trans b4
    refine (hb.run σv4 H4 σ4 F4 M4 { D with nx := fun σ M => lstOf M x = some xs ∧ pForG (fun M => lstOf M x = some xs) g tb (xs.drop (i + 1)) D σ M, bk := D.nx, ct := fun σ M => lstOf M x = some xs ∧ pForG (fun M => lstOf M x = some xs) g tb (xs.drop (i + 1)) D σ M } (tk.tr b04) b04.rm rs4 h4).mono ⟨?_, fun _ _ q => q.tr b04, fun _ _ q => q.tr b04, ?_⟩
    · rintro σv5 H5 ⟨F5, M5, σ5, b5, rs5, g5, h5⟩
      exact ⟨rfl, hlt, F5, M5, σ5, b04.trans b5, (sm2.trans b4.sm).trans b5.sm, rs5, g5, h5⟩
    · rintro σv5 H5 ⟨F5, M5, σ5, b5, rs5, g5, h5⟩
      exact ⟨rfl, hlt, F5, M5, σ5, b04.trans b5, (sm2.trans b4.sm).trans b5.sm, rs5, g5, h5⟩
  · have e : i = xs.length := by omega
    subst e
    rw [List.drop_length] at h2
    exact .inl ⟨⟨vs, hs2, by rw [← ra.length]; exact Nat.le_refl _⟩, F2, M2, σ2, b2, rs2, h2⟩
end
end PL
set_option Elab.async false
set_option linter.all false
set_option maxRecDepth 100000
namespace PL
open PySem PySem.Spec PyProof.Rows L2
/-! ### how readings compute -/
theorem kit_ib : kitB "int" "bool" = some false := by decide +kernel
theorem kit_ii : kitB "int" "int" = some true := by decide +kernel
theorem kit_it : kitB "int" "tuple" = some false := by decide +kernel
theorem kit_il : kitB "int" "list" = some false := by decide +kernel
theorem kit_is : kitB "int" "str" = some false := by decide +kernel
theorem kit_bb : kitB "bool" "bool" = some true := by decide +kernel
theorem kit_bi : kitB "bool" "int" = some true := by decide +kernel
theorem kit_bt : kitB "bool" "tuple" = some false := by decide +kernel
theorem kit_bl : kitB "bool" "list" = some false := by decide +kernel
theorem kit_bs : kitB "bool" "str" = some false := by decide +kernel
theorem kit_tb : kitB "tuple" "bool" = some false := by decide +kernel
theorem kit_ti : kitB "tuple" "int" = some false := by decide +kernel
theorem kit_tt : kitB "tuple" "tuple" = some true := by decide +kernel
theorem kit_tl : kitB "tuple" "list" = some false := by decide +kernel
theorem kit_ts : kitB "tuple" "str" = some false := by decide +kernel
theorem kit_lb : kitB "list" "bool" = some false := by decide +kernel
theorem kit_li : kitB "list" "int" = some false := by decide +kernel
theorem kit_lt : kitB "list" "tuple" = some false := by decide +kernel
theorem kit_ll : kitB "list" "list" = some true := by decide +kernel
theorem kit_ls : kitB "list" "str" = some false := by decide +kernel
theorem kit_sb : kitB "str" "bool" = some false := by decide +kernel
theorem kit_si : kitB "str" "int" = some false := by decide +kernel
theorem kit_st : kitB "str" "tuple" = some false := by decide +kernel
theorem kit_sl : kitB "str" "list" = some false := by decide +kernel
theorem kit_ss : kitB "str" "str" = some true := by decide +kernel
theorem kit_nb : kitB "NoneType" "bool" = some false := by decide +kernel
theorem kit_ni : kitB "NoneType" "int" = some false := by decide +kernel
theorem kit_nt : kitB "NoneType" "tuple" = some false := by decide +kernel
theorem kit_nl : kitB "NoneType" "list" = some false := by decide +kernel
theorem kit_ns : kitB "NoneType" "str" = some false := by decide +kernel
section
variable {M : Mem} {T : String} {Q : PQ} {n : String}
theorem isi_of {v : PV} (h : tyOf M v = some n) : kIsi T v M Q = need (kitB n T) fun b => Q (.bl b) M := by
  unfold kIsi isi
  rw [h]
  rfl
theorem isi_int {i : Int} : kIsi T (.int i) M Q = need (kitB "int" T) fun b => Q (.bl b) M := rfl
theorem isi_bl {i : Bool} : kIsi T (.bl i) M Q = need (kitB "bool" T) fun b => Q (.bl b) M := rfl
theorem isi_str {i : Str} : kIsi T (.str i) M Q = need (kitB "str" T) fun b => Q (.bl b) M := rfl
theorem isi_non : kIsi T .non M Q = need (kitB "NoneType" T) fun b => Q (.bl b) M := rfl
theorem isi_tup {xs : List PV} : kIsi T (.tup xs) M Q = need (kitB "tuple" T) fun b => Q (.bl b) M := rfl
theorem isi_lst {xs : List PV} : kIsi T (.lst xs) M Q = need (kitB "list" T) fun b => Q (.bl b) M := rfl
theorem tyOf_ptr {a : Addr} {xs : List PV} (h : M a = some (.lst xs)) : tyOf M (.ptr a) = some "list" := by
  show (match M a with | some (.lst _) => some "list" | _ => none) = some "list"
  rw [h]
/-! subscripts -/
theorem ix_tup {xs : List PV} {i : Int} : oIx (.tup xs) (.int i) M Q = need (L2.atI xs i) fun z => Q z M := rfl
theorem ix_lst {xs : List PV} {i : Int} : oIx (.lst xs) (.int i) M Q = need (L2.atI xs i) fun z => Q z M := rfl
theorem ix_scr {xs : List PV} {i : Int} : oIx (.scr xs) (.int i) M Q = need (L2.atI xs i) fun z => Q z M := rfl
theorem at_nat {α : Type} (xs : List α) (n : Nat) : L2.atI xs (n : Int) = xs[n]? := by
  unfold L2.atI ixN
  rw [if_pos (Int.natCast_nonneg n)]
  by_cases h : (n : Int) < xs.length
  · rw [if_pos h]
    rfl
  · rw [if_neg h]
    have : xs.length ≤ n := by omega
    rw [List.getElem?_eq_none this]
    rfl
theorem at_pos {α : Type} (xs : List α) {i : Int} (h : 0 ≤ i) : L2.atI xs i = xs[i.toNat]? := by
  have e : i = ((i.toNat : Nat) : Int) := (Int.toNat_of_nonneg h).symm
  rw [e, at_nat]
  rfl
theorem at_0 {α : Type} (xs : List α) : L2.atI xs 0 = xs[0]? := at_nat xs 0
theorem at_1 {α : Type} (xs : List α) : L2.atI xs 1 = xs[1]? := at_nat xs 1
theorem at_2 {α : Type} (xs : List α) : L2.atI xs 2 = xs[2]? := at_nat xs 2
theorem at_3 {α : Type} (xs : List α) : L2.atI xs 3 = xs[3]? := at_nat xs 3
theorem at_4 {α : Type} (xs : List α) : L2.atI xs 4 = xs[4]? := at_nat xs 4
theorem at_5 {α : Type} (xs : List α) : L2.atI xs 5 = xs[5]? := at_nat xs 5
theorem at_last {α : Type} (xs : List α) (h : xs ≠ []) : L2.atI xs (-1) = xs.getLast? := by
  rcases List.eq_nil_or_concat xs with e | ⟨r, y, e⟩
  · exact absurd e h
  · rw [e, List.concat_eq_append, atI_last]
    simp
/-! lengths -/
theorem len_tup {xs : List PV} : kLen (.tup xs) M Q = Q (.int xs.length) M := rfl
theorem len_lst {xs : List PV} : kLen (.lst xs) M Q = Q (.int xs.length) M := rfl
theorem len_scr {xs : List PV} : kLen (.scr xs) M Q = Q (.int xs.length) M := rfl
/-! == of ints, of tuples of ints -/
theorem eq_int' {i j : Int} : oEq (.int i) (.int j) M Q = Q (.bl (decide (i = j))) M := rfl
theorem ne_int' {i j : Int} : oNe (.int i) (.int j) M Q = Q (.bl (!decide (i = j))) M := rfl
theorem eq_bl' {i j : Bool} : oEq (.bl i) (.bl j) M Q = Q (.bl (decide (i = j))) M := rfl
theorem ne_bl' {i j : Bool} : oNe (.bl i) (.bl j) M Q = Q (.bl (!decide (i = j))) M := rfl
theorem eq_str' {i j : Str} : oEq (.str i) (.str j) M Q = Q (.bl (decide (i = j))) M := rfl
theorem ne_str' {i j : Str} : oNe (.str i) (.str j) M Q = Q (.bl (!decide (i = j))) M := rfl
theorem eqvAll_ints : ∀ xs ys : List Int, PyData.eqvAll (xs.map .int) (ys.map .int) = decide (xs = ys)
  | [], [] => rfl
  | [], _ :: _ => rfl
  | _ :: _, [] => rfl
  | x :: xs, y :: ys => by
    show (PyData.eqv (.int x) (.int y) && PyData.eqvAll (xs.map .int) (ys.map .int)) = _
    rw [eqvAll_ints xs ys]
    show ((x == y) && decide (xs = ys)) = decide (x :: xs = y :: ys)
    by_cases h : x = y
    · subst h
      simp
    · simp [h]
theorem toD_tI (xs : List Int) : toD (.tup (xs.map .int)) = some (.tuple (xs.map .int)) := by
  unfold toD
  rw [toDs_ints]
  rfl
theorem eqP_tI {xs ys : List Int} {k : Bool → Prop} : eqP (.tup (xs.map .int)) (.tup (ys.map .int)) k = k (decide (xs = ys)) := by
  unfold eqP
  show need (toD _) _ = _
  rw [toD_tI]
  show need (toD _) _ = _
  rw [toD_tI]
  show (_ ∧ _ ∧ k (PyData.eqvAll (xs.map .int) (ys.map .int))) = _
  rw [eqvAll_ints]
  have d : ∀ zs : List Int, PyData.depth (.tuple (zs.map .int)) ≤ 64 := fun zs => by
    show PyData.depthAll (zs.map .int) + 1 ≤ 64
    rw [depth_ints]
    decide
  exact propext ⟨fun h => h.2.2, fun h => ⟨d xs, d ys, h⟩⟩
end
/-! slices -/
def cutA {α : Type} (xs : List α) (lo hi : Option Int) : List α := (xs.drop (HT.sIx xs.length 0 lo)).take (HT.sIx xs.length xs.length hi - HT.sIx xs.length 0 lo)
theorem cutA_map {α β : Type} (f : α → β) (xs : List α) (lo hi : Option Int) : cutA (xs.map f) lo hi = (cutA xs lo hi).map f := by
  unfold cutA
  rw [List.length_map, List.map_take, List.map_drop]
theorem sIx_none' (n d : Nat) : HT.sIx n d none = d := rfl
theorem sIx_nn {n d : Nat} {k : Int} (h : 0 ≤ k) : HT.sIx n d (some k) = min k.toNat n := by
  show (if k < 0 then _ else _) = _
  rw [if_neg (by omega)]
theorem cutA_from {α : Type} (xs : List α) {k : Int} (h : 0 ≤ k) : cutA xs (some k) none = xs.drop k.toNat := by
  unfold cutA
  rw [sIx_nn h, sIx_none']
  by_cases hk : k.toNat ≤ xs.length
  · rw [Nat.min_eq_left hk]
    exact List.take_of_length_le (by rw [List.length_drop]; exact Nat.le_refl _)
  · rw [Nat.min_eq_right (by omega)]
    simp
    omega
theorem cutA_from1 {α : Type} (xs : List α) : cutA xs (some 1) none = xs.tail := by
  rw [cutA_from xs (by decide)]
  show xs.drop 1 = xs.tail
  simp
theorem cutA_to {α : Type} (xs : List α) {k : Int} (h : 0 ≤ k) : cutA xs none (some k) = xs.take k.toNat := by
  unfold cutA
  rw [sIx_nn h, sIx_none', Nat.sub_zero, List.drop_zero]
  by_cases hk : k.toNat ≤ xs.length
  · rw [Nat.min_eq_left hk]
  · rw [Nat.min_eq_right (by omega), List.take_of_length_le (Nat.le_refl _), List.take_of_length_le (by omega)]
section
variable {M : Mem} {Q : PQ} {lo hi : Option Int}
theorem sl_tup {xs : List PV} : oSl (.tup xs) lo hi M Q = Q (.tup (cutA xs lo hi)) M := rfl
theorem sl_lst {xs : List PV} : oSl (.lst xs) lo hi M Q = Q (.lst (cutA xs lo hi)) M := rfl
theorem sl_scr {xs : List PV} : oSl (.scr xs) lo hi M Q = Q (.lst (cutA xs lo hi)) M := rfl
end
theorem line_lt {n : Nat} (h : n < 10000000) : n ≤ sizeLine := by
  rw [sizeLine_eq]
  omega
theorem line_lt' {n : Nat} (h : n < 10000000) : n < sizeLine := by
  rw [sizeLine_eq]
  omega
/-! lists that may change, fields -/
section
variable {M : Mem} {Q : PQ}
theorem len_of {x : PV} {xs : List PV} (h : lstOf M x = some xs) : kLen x M Q = Q (.int xs.length) M := by
  have e := lstOf_seq h
  cases x <;> first
    | (show need (seqOf M (.ptr _)) _ = _; rw [e]; rfl)
    | (cases h; rfl)
    | cases h
theorem list_of {x : PV} {xs : List PV} (h : lstOf M x = some xs) : kList x M Q = Q (.lst xs) M := by
  unfold kList
  rw [lstOf_seq h]
  rfl
theorem putF_ptr {C : Addr} {f : Str} {x : PV} {p : Addr} {fs : List (Str × PV)} {k : Mem → Prop} (h : M p = some (.obj C fs)) : kPutF C f x (.ptr p) M k = (fs.length < 1000 ∧ k (M.put p (.obj C (putP f x fs)))) := by
  show (match M p with | some (.obj C' fs) => C' = C ∧ fs.length < 1000 ∧ k (M.put p (.obj C (putP f x fs))) | _ => False) = _
  rw [h]
  exact propext ⟨fun z => z.2, fun z => ⟨rfl, z⟩⟩
theorem app_ptr {p : Addr} {xs : List PV} {x : PV} (h : M p = some (.lst xs)) (hz : xs.length < sizeLine) : kApp (.ptr p) x M Q = Q .non (M.put p (.lst (xs ++ [x]))) := by
  show (match M p with | some (.lst xs) => xs.length < sizeLine ∧ Q .non (M.put p (.lst (xs ++ [x]))) | _ => False) = _
  rw [h]
  exact propext ⟨fun z => z.2, fun z => ⟨hz, z⟩⟩
theorem fz_ptr {p : Addr} {xs : List PV} (h : M p = some (.lst xs)) : kFz (.ptr p) M Q = Q (.lst xs) (M.drop p) := by
  show (match M p with | some (.lst xs) => Q (.lst xs) (M.drop p) | some (.obj C fs) => Q (.obj C fs) (M.drop p) | some (.dct a kvs) => a = p ∧ Q (.dct kvs) (M.drop p) | none => False) = _
  rw [h]
end
theorem lstOf_put {M : Mem} {x : PV} {xs : List PV} {p : Addr} {o : MO} (h : lstOf M x = some xs) (hp : ∀ ys, M p ≠ some (.lst ys)) : lstOf (M.put p o) x = some xs := by
  cases x with
  | ptr a =>
    have hm : M a = some (.lst xs) := by
      have h' : (match M a with | some (.lst xs) => some xs | _ => none) = some xs := h
      cases e : M a with
      | none => rw [e] at h'; cases h'
      | some m =>
        rw [e] at h'
        cases m with
        | lst ys => cases h'; rfl
        | obj C fs => cases h'
        | dct _ _ => cases h'
    have ne : a ≠ p := fun z => hp xs (by rw [← z]; exact hm)
    refine lstOf_ptr ?_
    rw [put_ne ne]
    exact hm
  | lst ys => exact h
  | scr ys => exact h
  | _ => cases h
/-! readings at values that are known -/
section
variable {M : Mem} {Q : PQ} {D : PEnds} {σ : PSt} {E : PXK}
theorem r_add_int {i j : Int} : oAdd (.int i) (.int j) M Q = Q (.int (i + j)) M := rfl
theorem r_add_str {i j : Str} : oAdd (.str i) (.str j) M Q = (i.length + j.length ≤ sizeLine ∧ Q (.str (i ++ j)) M) := rfl
theorem r_add_tup {i j : List PV} : oAdd (.tup i) (.tup j) M Q = (i.length + j.length ≤ sizeLine ∧ Q (.tup (i ++ j)) M) := rfl
theorem r_add_lst {i j : List PV} : oAdd (.lst i) (.lst j) M Q = (i.length + j.length ≤ sizeLine ∧ Q (.lst (i ++ j)) M) := rfl
theorem r_mulA_int {i j : Int} : oMulA (.int i) (.int j) M Q = (CMul i j ∧ Q (.int (i * j)) M) := rfl
theorem r_mulA_tup {i : List PV} {k : Int} : oMulA (.tup i) (.int k) M Q = ((-(2 ^ 62) ≤ k ∧ k ≤ 1000 ∧ i.length ≤ 1000) ∧ Q (.tup (List.replicate k.toNat i).flatten) M) := rfl
theorem r_I0 {g : Int → Int → PV} {i j : Int} : oI0 g (.int i) (.int j) M Q = Q (g i j) M := rfl
theorem r_I {C : Int → Int → Prop} {g : Int → Int → PV} {i j : Int} : oI C g (.int i) (.int j) M Q = (C i j ∧ Q (g i j) M) := rfl
def kNeg (x : PV) (M : Mem) (Q : PQ) : Prop := match x with | .int i => Q (.int (-i)) M | _ => False
theorem r_neg {ta : PTE} : pNeg ta E σ M Q = ta E σ M fun x M1 => kNeg x M1 Q := rfl
theorem r_neg_int {i : Int} : kNeg (.int i) M Q = Q (.int (-i)) M := rfl
def kCh1 (p q : Int → Int → Bool) (tc : PTE) (E : PXK) (σ : PSt) (x y : PV) (M2 : Mem) (Q : PQ) : Prop := match x, y with
  | .int i, .int j => if p i j = true then tc E σ M2 fun z M3 => match z with | .int l => Q (.bl (q j l)) M3 | _ => False else Q (.bl false) M2
  | _, _ => False
def kCh2 (q : Int → Int → Bool) (j : Int) (z : PV) (M3 : Mem) (Q : PQ) : Prop := match z with | .int l => Q (.bl (q j l)) M3 | _ => False
theorem r_chain {p q : Int → Int → Bool} {ta tb tc : PTE} : pChain p q ta tb tc E σ M Q = ta E σ M fun x M1 => tb E σ M1 fun y M2 => kCh1 p q tc E σ x y M2 Q := rfl
theorem r_ch1 {p q : Int → Int → Bool} {tc : PTE} {i j : Int} : kCh1 p q tc E σ (.int i) (.int j) M Q = if p i j = true then tc E σ M fun z M3 => kCh2 q j z M3 Q else Q (.bl false) M := rfl
theorem r_ch2 {q : Int → Int → Bool} {j l : Int} : kCh2 q j (.int l) M Q = Q (.bl (q j l)) M := rfl
theorem r_abs {i : Int} : kAbs (.int i) M Q = Q (.int (if i < 0 then -i else i)) M := rfl
theorem r_int {i : Int} : kInt (.int i) M Q = Q (.int i) M := rfl
theorem r_min2 {i j : Int} : kMin2 (.int i) (.int j) M Q = Q (.int (if j < i then j else i)) M := rfl
theorem r_max2 {i j : Int} : kMax2 (.int i) (.int j) M Q = Q (.int (if j > i then j else i)) M := rfl
theorem r_list_lst {xs : List PV} : kList (.lst xs) M Q = Q (.lst xs) M := rfl
theorem r_list_tup {xs : List PV} : kList (.tup xs) M Q = Q (.lst xs) M := rfl
theorem r_list_scr {xs : List PV} : kList (.scr xs) M Q = Q (.lst xs) M := rfl
theorem r_tup_lst {xs : List PV} : PL.kTup (.lst xs) M Q = Q (.tup xs) M := rfl
theorem r_tup_tup {xs : List PV} : PL.kTup (.tup xs) M Q = Q (.tup xs) M := rfl
theorem r_listM_lst {xs : List PV} : kListM (.lst xs) M Q = ∀ p, M p = none → Q (.ptr p) (M.put p (.lst xs)) := rfl
theorem r_listM_tup {xs : List PV} : kListM (.tup xs) M Q = ∀ p, M p = none → Q (.ptr p) (M.put p (.lst xs)) := rfl
theorem r_on1 {k : PV → Mem → PQ → Prop} {x : PV} : on1 k [x] M Q = k x M Q := rfl
theorem r_on2 {k : PV → PV → Mem → PQ → Prop} {x y : PV} : on2 k [x, y] M Q = k x y M Q := rfl
theorem r_gtup {n : Nat} {u : PTGs} {xs : List PV} {R : PNx} : gpTup n u (.tup xs) σ M R = (xs.length = n ∧ u xs σ M R) := rfl
theorem r_gcons {t : PTG} {u : PTGs} {x : PV} {r : List PV} {R : PNx} : gpCons t u (x :: r) σ M R = t x σ M fun σ' M' => u r σ' M' R := rfl
theorem r_gnil {R : PNx} : gpNil [] σ M R = R σ M := rfl
theorem r_non_non : isNon .non = true := rfl
theorem r_non_int {i : Int} : isNon (.int i) = false := rfl
theorem r_non_tup {i : List PV} : isNon (.tup i) = false := rfl
theorem r_non_lst {i : List PV} : isNon (.lst i) = false := rfl
theorem r_non_str {i : Str} : isNon (.str i) = false := rfl
theorem r_non_bl {i : Bool} : isNon (.bl i) = false := rfl
theorem r_non_ptr {i : Addr} : isNon (.ptr i) = false := rfl
theorem r_non_obj {C : Addr} {fs : List (Str × PV)} : isNon (.obj C fs) = false := rfl
def kPartI (x : PV) (k : Option Int → Prop) : Prop := match x with | .int i => k (some i) | _ => False
theorem r_part {t : PTE} {R : Option Int → Mem → Prop} : pPart t E σ M R = t E σ M fun x M1 => kPartI x fun o => R o M1 := rfl
theorem r_part_int {i : Int} {k : Option Int → Prop} : kPartI (.int i) k = k (some i) := rfl
def kR1 (x : PV) (M1 : Mem) (R : List PV → Mem → Prop) : Prop := match x with | .int j => (-(2 ^ 62) ≤ j ∧ j < 2 ^ 62) ∧ R (rngP 0 j.toNat) M1 | _ => False
theorem r_R1 {te : PTE} {R : List PV → Mem → Prop} : piR1 te E σ M R = te E σ M fun x M1 => kR1 x M1 R := rfl
theorem r_R1_int {j : Int} {R : List PV → Mem → Prop} : kR1 (.int j) M R = ((-(2 ^ 62) ≤ j ∧ j < 2 ^ 62) ∧ R (rngP 0 j.toNat) M) := rfl
def kR2 (x y : PV) (M2 : Mem) (R : List PV → Mem → Prop) : Prop := match x, y with | .int i, .int j => (-(2 ^ 62) ≤ i ∧ i < 2 ^ 62 ∧ -(2 ^ 62) ≤ j ∧ j < 2 ^ 62) ∧ R (rngP i (j - i).toNat) M2 | _, _ => False
theorem r_R2 {ta tb : PTE} {R : List PV → Mem → Prop} : piR2 ta tb E σ M R = ta E σ M fun x M1 => tb E σ M1 fun y M2 => kR2 x y M2 R := rfl
theorem r_R2_int {i j : Int} {R : List PV → Mem → Prop} : kR2 (.int i) (.int j) M R = ((-(2 ^ 62) ≤ i ∧ i < 2 ^ 62 ∧ -(2 ^ 62) ≤ j ∧ j < 2 ^ 62) ∧ R (rngP i (j - i).toNat) M) := rfl
theorem r_lstF {xs : List PV} : lstF (.lst xs) = some xs := rfl
theorem r_lstF_scr {xs : List PV} : lstF (.scr xs) = some xs := rfl
theorem r_tupF {xs : List PV} : tupF (.tup xs) = some xs := rfl
end
end PL
set_option Elab.async false
set_option linter.all false
set_option maxRecDepth 100000
namespace PL
open PySem
/-! ### loops by what holds between their turns -/
theorem forL {g : PTG} {tb : PTS} {D : PEnds} (I : Nat → PNx) : ∀ (xs : List PV) (j : Nat) (hs : ∀ i x σ M K, xs[i]? = some x → I (j + i) σ M → (∀ σ' M', I (j + i + 1) σ' M' → K σ' M') → g x σ M fun σ1 M1 => tb { D with nx := K, bk := D.nx, ct := K } σ1 M1)
    (hd : ∀ σ M, I (j + xs.length) σ M → D.nx σ M) (σ : PSt) (M : Mem), I j σ M → pForL g tb xs D σ M
  | [], j, hs, hd, σ, M, h => hd σ M h
  | x :: xs, j, hs, hd, σ, M, h => by
    refine hs 0 x σ M (pForL g tb xs D) rfl h fun σ' M' h' => ?_
    refine forL I xs (j + 1) (fun i y σ M K e hi hk => ?_) (fun σ M hl => hd σ M ?_) σ' M' h'
    · have e1 : j + 1 + i = j + (i + 1) := by omega
      rw [e1] at hi hk
      exact hs (i + 1) y σ M K e hi hk
    · have e1 : j + 1 + xs.length = j + (x :: xs).length := by rw [List.length_cons]; omega
      rw [e1] at hl
      exact hl
theorem for_in {g : PTG} {tb : PTS} {D : PEnds} (I : Nat → PNx) {xs : List PV} {σ : PSt} {M : Mem} (h0 : I 0 σ M)
    (hs : ∀ i x σ M K, xs[i]? = some x → I i σ M → (∀ σ' M', I (i + 1) σ' M' → K σ' M') → g x σ M fun σ1 M1 => tb { D with nx := K, bk := D.nx, ct := K } σ1 M1)
    (hd : ∀ σ M, I xs.length σ M → D.nx σ M) : pForL g tb xs D σ M :=
  forL I xs 0 (fun i x σ M K e hi hk => by rw [Nat.zero_add] at hi hk; exact hs i x σ M K e hi hk) (fun σ M h => hd σ M (by rw [Nat.zero_add] at h; exact h)) σ M h0
theorem for_rng {g : PTG} {tb : PTS} {D : PEnds} (I : Nat → PNx) {lo : Int} {n : Nat} {σ : PSt} {M : Mem} (h0 : I 0 σ M)
    (hs : ∀ (i : Nat) σ M K, i < n → I i σ M → (∀ σ' M', I (i + 1) σ' M' → K σ' M') → g (.int (lo + i)) σ M fun σ1 M1 => tb { D with nx := K, bk := D.nx, ct := K } σ1 M1)
    (hd : ∀ σ M, I n σ M → D.nx σ M) : pForL g tb (rngP lo n) D σ M := by
  refine for_in I h0 (fun i x σ M K e hi hk => ?_) (fun σ M h => hd σ M (by rw [rngP_length] at h; exact h))
  have hlt : i < n := by
    have := (List.getElem?_eq_some_iff.mp e).1
    rw [rngP_length] at this
    exact this
  have ex : x = .int (lo + i) := by
    have e2 : (rngP lo n)[i]? = some (PV.int (lo + i)) := by
      unfold rngP
      rw [List.getElem?_map, List.getElem?_range hlt]
      rfl
    exact Option.some.inj (e.symm.trans e2)
  rw [ex]
  exact hs i σ M K hlt hi hk
theorem forG {G : Mem → Prop} {g : PTG} {tb : PTS} {D : PEnds} (I : Nat → PNx) : ∀ (xs : List PV) (j : Nat) (hs : ∀ i x σ M K, xs[i]? = some x → I (j + i) σ M → (∀ σ' M', G M' → I (j + i + 1) σ' M' → K σ' M') → g x σ M fun σ1 M1 => tb { D with nx := K, bk := D.nx, ct := K } σ1 M1)
    (hd : ∀ σ M, I (j + xs.length) σ M → D.nx σ M) (σ : PSt) (M : Mem), I j σ M → pForG G g tb xs D σ M
  | [], j, hs, hd, σ, M, h => hd σ M h
  | x :: xs, j, hs, hd, σ, M, h => by
    refine hs 0 x σ M (fun σ M => G M ∧ pForG G g tb xs D σ M) rfl h fun σ' M' hg h' => ⟨hg, ?_⟩
    refine forG I xs (j + 1) (fun i y σ M K e hi hk => ?_) (fun σ M hl => hd σ M ?_) σ' M' h'
    · have e1 : j + 1 + i = j + (i + 1) := by omega
      rw [e1] at hi hk
      exact hs (i + 1) y σ M K e hi hk
    · have e1 : j + 1 + xs.length = j + (x :: xs).length := by rw [List.length_cons]; omega
      rw [e1] at hl
      exact hl
theorem for_inG {G : Mem → Prop} {g : PTG} {tb : PTS} {D : PEnds} (I : Nat → PNx) {xs : List PV} {σ : PSt} {M : Mem} (h0 : I 0 σ M)
    (hs : ∀ i x σ M K, xs[i]? = some x → I i σ M → (∀ σ' M', G M' → I (i + 1) σ' M' → K σ' M') → g x σ M fun σ1 M1 => tb { D with nx := K, bk := D.nx, ct := K } σ1 M1)
    (hd : ∀ σ M, I xs.length σ M → D.nx σ M) : pForG G g tb xs D σ M :=
  forG I xs 0 (fun i x σ M K e hi hk => by rw [Nat.zero_add] at hi hk; exact hs i x σ M K e hi hk) (fun σ M h => hd σ M (by rw [Nat.zero_add] at h; exact h)) σ M h0
theorem whileN {c : PTT} {tb : PTS} {D : PEnds} (I : Nat → PNx)
    (hs : ∀ m σ M K, I m σ M → (∀ m' σ' M', m' < m → I m' σ' M' → K σ' M') → c D.ex σ M fun b M1 => if b = true then tb { D with nx := K, bk := D.nx, ct := K } σ M1 else D.nx σ M1) :
    ∀ (n m : Nat) (σ : PSt) (M : Mem), m < n → I m σ M → pWhileN c tb n D σ M
  | 0, m, σ, M, h, _ => absurd h (Nat.not_lt_zero _)
  | n + 1, m, σ, M, h, hI => hs m σ M (pWhileN c tb n D) hI fun m' σ' M' hm hI' => whileN I hs n m' σ' M' (by omega) hI'
theorem while_in {c : PTT} {tb : PTS} {D : PEnds} (I : Nat → PNx) {m : Nat} {σ : PSt} {M : Mem} (h0 : I m σ M)
    (hs : ∀ m σ M K, I m σ M → (∀ m' σ' M', m' < m → I m' σ' M' → K σ' M') → c D.ex σ M fun b M1 => if b = true then tb { D with nx := K, bk := D.nx, ct := K } σ M1 else D.nx σ M1) : pWhile c tb D σ M :=
  ⟨m + 1, whileN I hs (m + 1) m σ M (Nat.lt_succ_self m) h0⟩
/-! ### comprehensions of plain elements -/
theorem lc_pure {i : Nat} {tt : PTT} {te : PTE} {σ : PSt} {M : Mem} {Q : PQ} (p : PV → Bool) (f : PV → PV) : ∀ (xs : List PV) (acc : List PV)
    (ht : ∀ x ∈ xs, ∀ R : Bool → Mem → Prop, R (p x) M → tt noX (σ.set i (some x)) M R) (he : ∀ x ∈ xs, p x = true → ∀ R : PQ, R (f x) M → te noX (σ.set i (some x)) M R),
    Q (.lst (acc ++ (xs.filter p).map f)) M → pLcL i tt te xs acc σ M Q
  | [], acc, ht, he, q => by
    rw [List.filter_nil, List.map_nil, List.append_nil] at q
    exact q
  | x :: xs, acc, ht, he, q => by
    refine ht x List.mem_cons_self _ ?_
    have ht' : ∀ y ∈ xs, ∀ R : Bool → Mem → Prop, R (p y) M → tt noX (σ.set i (some y)) M R := fun y hy => ht y (List.mem_cons_of_mem _ hy)
    have he' : ∀ y ∈ xs, p y = true → ∀ R : PQ, R (f y) M → te noX (σ.set i (some y)) M R := fun y hy => he y (List.mem_cons_of_mem _ hy)
    cases hp : p x with
    | true =>
      rw [if_pos rfl]
      refine he x List.mem_cons_self hp _ (lc_pure p f xs (acc ++ [f x]) ht' he' ?_)
      rw [List.filter_cons, if_pos hp, List.map_cons] at q
      rw [List.append_assoc]
      exact q
    | false =>
      rw [if_neg Bool.false_ne_true]
      refine lc_pure p f xs acc ht' he' ?_
      rw [List.filter_cons, if_neg (by rw [hp]; exact Bool.false_ne_true)] at q
      exact q
theorem lc_map {i : Nat} {te : PTE} {σ : PSt} {M : Mem} {Q : PQ} (f : PV → PV) {xs : List PV} (he : ∀ x ∈ xs, ∀ R : PQ, R (f x) M → te noX (σ.set i (some x)) M R) (q : Q (.lst (xs.map f)) M) : pLcL i pYes te xs [] σ M Q := by
  refine lc_pure (fun _ => true) f xs [] (fun x _ R h => h) (fun x hx _ => he x hx) ?_
  rw [List.nil_append, List.filter_eq_self.mpr (fun _ _ => rfl)]
  exact q
theorem cdiv_eq (i j : Int) : L2.CDiv i j = (0 < j ∧ j < 1073741824) := rfl
end PL
set_option Elab.async false
set_option linter.all false
set_option maxRecDepth 100000
namespace PL
open PySem PySem.Spec PyProof.Rows L2
section
variable {X : Cx}
/-! ### an own error without fields -/
def pRaise (C : Addr) : PTS := fun D _ M => D.ex C [] M
theorem LS.raise {C : Addr} {bmB : List Value} {B newId initId : String} {x m : Str} {j : Nat} {p p2 pos pos' : Pos} (F : ExcBaseFacts B newId initId bmB) (q : PySem.W.excIn X.K C bmB newId = true) (gC : X.mg x = some (.ref C)) (kC : PySem.W.keepIn X.K (.ref C) = true)
    (r : Raises X (.ref C)) (hg : Gl X x) (hc : X.calm = true := by rfl) (hd : (x == ("__debug__" : Str)) = false := by decide) : LS X (.Raise (some (.Call (.Name x p) [.Constant (.str m) j p2] [] pos)) none pos') (pRaise C) :=
  ⟨fun σv H σ F0 M D tk rm rs h => WS.of (ps_raise hc tk (pmk_own F q gC kC r hg hd)) ⟨F0, M, C, [], rfl, Beh.refl rm, rfl, h⟩⟩
structure OwnErr (K : PySem.W.Frag) (C : Addr) : Prop where
  x : PySem.W.excIn K C [.type "ValueError", .type "Exception", .type "BaseException", .type "object"] "ValueError.__new__" = true
  k : PySem.W.keepIn K (.ref C) = true
  b : PySem.W.subIn K (.ref C) (.type "BaseException") = some true
  t : PySem.W.typeIn K (.ref C) = some (.type "type")
/-! ### try .. except X as n -/
def pTryAs (n i : Nat) (exm : Addr → Option Bool) (tb : PTS) (ts : Addr → Addr → PTS) : PTS := fun D σ M =>
  tb { D with ex := fun C fs M' => need (exm C) fun b => (b = true → fs = [] ∧ ∀ a, M' a = none → ts C a { nx := fun σ' M'' => D.nx (σ'.set i none) M'', rt := D.rt, ex := noX, bk := fun σ' M'' => D.bk (σ'.set i none) M'', ct := fun σ' M'' => D.ct (σ'.set i none) M'' } ((List.replicate n none).set i (some (.ptr a))) M') ∧ (b = false → D.ex C fs M') } σ M
theorem Takes.weak {X : Cx} {W W' : WX} (h : Takes X W) (m : ∀ cls d σ H, σ.length = X.N.length → W' cls d σ H → W cls d σ H) : Takes X W' := by
  rintro u s' ⟨a, B, sI, pins, σ, H, cls, d, e, I, q1, q2, q3, q4, q5, q6, w⟩
  exact h u s' ⟨a, B, sI, pins, σ, H, cls, d, e, I, q1, q2, q3, q4, q5, q6, m _ _ _ _ I.len w⟩
theorem RS.setN {K : PySem.W.Frag} {F : Hp} {σ : PSt} {σv : L2.St} (r : RS K F σ σv) (i : Nat) : RS K F (σ.set i none) (σv.set i none) := by
  refine ⟨by rw [List.length_set, List.length_set, r.len], fun j x h => ?_⟩
  rw [List.getElem?_set] at h
  split at h
  · split at h <;> cases h
  · rename_i hn
    obtain ⟨v, h1, h2⟩ := r.at_ j x h
    exact ⟨v, by rw [List.getElem?_set, if_neg hn]; exact h1, h2⟩
theorem LS.tryAs {x n : Str} {c : Value} {i : Nat} {body suite : List Stmt} {b₀ : Stmt} {np pos pos' : Pos} {tb : PTS} {ts : Addr → Addr → PTS} {exm : Addr → Option Bool}
    (hN : X.N.Nodup) (hc : Names X x c) (hx : ∀ C b, exm C = some b → PySem.W.exmOne X.K (.ref C) c = some b)
    (hb : ∀ (pn : List (Addr × Obj)) (xe : Value → Shared → Prop), PassesOwn (model X.prog X.w) X.A X.env xe → LSs (X.tr pn xe) body tb)
    (hsu : ∀ (C : Addr) (b : Bool) (a : Addr) (oe : Obj) (pn : List (Addr × Obj)), exm C = some b → Zc (.ref C) none oe → (∃ vs, oe.data = .fields vs) → LSs (X.suite a ((a, oe) :: pn)) (b₀ :: suite) (ts C a))
    (hs : X.stack = X.env :: X.outer := by rfl) (hf : X.env.frame = some X.env.locals := by rfl) (hi : X.N[i]? = some n := by rfl) (hln : X.env.kindOf n = some .local := by rfl) :
    LS X (.Try body [.ExceptHandler (some (.Name x np)) (some n) (b₀ :: suite) pos'] [] [] pos) (pTryAs X.N.length i exm tb ts) := by
  refine ⟨fun σv H σ F M D tk rm rs h => ?_⟩
  let tbV : WX → TS := fun W D' σ1 H1 => ∃ F1 M1 σp Dp, RM X.K F1 M1 H1 ∧ RS X.K F1 σp σ1 ∧ tb Dp σp M1 ∧ Ends.Le (LD X.K F1 M1 H1 Dp) D' ∧ ∀ cls d y H', y.length = X.N.length → LX X.K F1 M1 H1 Dp.ex cls d H' → W cls d y H'
  let tsV : Addr → Value → Option Addr → TS := fun a cls d D' σ1 H1 => ∃ C b F1 M1 σp Dp, cls = .ref C ∧ exm C = some b ∧ d = none ∧ RM X.K F1 M1 H1 ∧ RS X.K F1 σp σ1 ∧ ts C a Dp σp M1 ∧ Dp.ex = noX ∧ Ends.Le (LD X.K F1 M1 H1 Dp) D'
  refine WS.of (ps_try_as (tb := tbV) (ts := tsV) hs hf hN hi hln hc tk ?_ ?_) ?_
  · intro W pn xe tkW hp
    refine ⟨fun pins s σ1 H1 D' I h1 => ?_⟩
    obtain ⟨F1, M1, σp, Dp, rm1, rs1, h1, le, w⟩ := h1
    exact ((hb pn xe hp).run σ1 H1 σp F1 M1 Dp (Takes.weak tkW w) rm1 rs1 h1).mono le pins s I
  · intro a oe cls d pn hz hfl
    refine ⟨fun pins s σ1 H1 D' I h1 => ?_⟩
    obtain ⟨C, b, F1, M1, σp, Dp, rfl, hC, rfl, rm1, rs1, h1, hx0, le⟩ := h1
    refine ((hsu C b a oe pn hC hz hfl).run σ1 H1 σp F1 M1 Dp ?_ rm1 rs1 h1).mono le pins s I
    refine Takes.weak takes0 fun cls d y H' _ z => ?_
    obtain ⟨_, _, _, _, _, _, _, z⟩ := z
    rw [hx0] at z
    exact z
  · refine ⟨F, M, σ, _, rm, rs, h, ⟨fun _ _ q => q, fun _ _ q => q, fun _ _ q => q, fun _ _ q => q⟩, fun cls d y H' hy z => ?_⟩
    obtain ⟨F', M', C, fs, rfl, beh, xa, z⟩ := z
    obtain ⟨b, e1, z1, z2⟩ := need_of z
    refine ⟨b, hx C b e1, fun e a ha => ?_, fun e => ⟨F', M', C, fs, rfl, beh, xa, z2 e⟩⟩
    obtain ⟨rfl, z3⟩ := z1 e
    have hd : d = none := by
      cases d with
      | none => rfl
      | some a => exact absurd rfl xa.1
    subst hd
    have hM : M' a = none := by
      cases e2 : M' a with
      | none => rfl
      | some m =>
        obtain ⟨o, e3, _⟩ := beh.rm.mu a m e2
        rw [ha] at e3
        cases e3
    have rs0 : RS X.K F' (List.replicate X.N.length none) y := ⟨by rw [List.length_replicate, hy], fun j x h => by
      rw [List.getElem?_replicate] at h
      split at h <;> cases h⟩
    refine ⟨C, b, F', M', _, _, rfl, e1, rfl, beh.rm, rs0.set i (.ptr a), z3 a hM, rfl, ?_⟩
    have nx : ∀ (N : PNx) σ2 H2, LN X.K F' M' H' (fun σ' M'' => N (σ'.set i none) M'') σ2 H2 → LN X.K F M H N (σ2.set i none) H2 := by
      rintro N σ2 H2 ⟨F2, M2, σ3, b2, rs2, q⟩
      exact ⟨F2, M2, _, beh.trans b2, rs2.setN i, q⟩
    exact ⟨fun σ2 H2 q => nx _ _ _ q, fun v H2 q => LQ.tr beh q, fun σ2 H2 q => nx _ _ _ q, fun σ2 H2 q => nx _ _ _ q⟩
/-! ### isinstance(error, Y) in the suite -/
def kIsE (a : Addr) (b : Option Bool) (x : PV) (M : Mem) (Q : PQ) : Prop := x = .ptr a ∧ need b fun b => Q (.bl b) M
theorem LE.isE {Y : Str} {k : Option Bool} {D a CY : Addr} {oe : Obj} {pn : List (Addr × Obj)} {e : Expr} {te : PTE} {p py pos : Pos} (C : ExcC X.K D) (hz : Zc (.ref D) none oe) (hfl : ∃ vs, oe.data = .fields vs) (hg : Gl X "isinstance") (hm : X.mg "isinstance" = none) (hgY : Gl X Y) (hmY : X.mg Y = some (.ref CY))
    (hk : ∀ b, k = some b → PySem.W.kitOne X.K (.ref D) (.ref CY) = some b) (ha : LE (X.suite a ((a, oe) :: pn)) e te) (hdT : (Y == ("__debug__" : Str)) = false := by decide)
    (he : starEach [e, .Name Y py] X.env = (false, eval e X.env) :: starEach [.Name Y py] X.env := by rfl) (he2 : starEach [.Name Y py] X.env = (false, eval (.Name Y py) X.env) :: starEach [] X.env := by rfl)
    (hpl : (backTo pos (starEach [.Name Y py] X.env)).any (·.1) = false := by rfl) : LE (X.suite a ((a, oe) :: pn)) (.Call (.Name "isinstance" p) [e, .Name Y py] [] pos) (fun E σ M Q => te E σ M fun x M1 => kIsE a k x M1 Q) := by
  refine ⟨fun σv H σ F M Q E tk rm rs h => WE.of (pe_callB (call_isE C hz hfl) hg hm (by decide +kernel) (pa_cons WE.pe (pa_cons (pe_glob (v := .ref CY) hgY hmY rfl hdT) pa_nil he2) he) (he := he) (hpl := hpl)) ?_⟩
  refine (ha.run σv H σ F M _ E tk rm rs h).mono ?_
  rintro v H1 ⟨F1, M1, x, b1, rx, rfl, hx⟩
  obtain ⟨b, e1, h2⟩ := need_of hx
  cases rx
  exact ⟨.ref CY, .ref CY, b, rfl, fun u r => by cases r; rfl, hk b e1, LQ.tr b1 (LQ.now b1.rm (.bl b) h2)⟩
theorem LE.isEB {Y : Str} {Ys : String} {k : Option Bool} {D a : Addr} {oe : Obj} {pn : List (Addr × Obj)} {e : Expr} {te : PTE} {p py pos : Pos} (C : ExcC X.K D) (hz : Zc (.ref D) none oe) (hfl : ∃ vs, oe.data = .fields vs) (hg : Gl X "isinstance") (hm : X.mg "isinstance" = none) (hgY : Gl X Y) (hmY : X.mg Y = none) (hvY : bootBuiltins Y = some (.type Ys))
    (hk : ∀ b, k = some b → PySem.W.kitOne X.K (.ref D) (.type Ys) = some b) (ha : LE (X.suite a ((a, oe) :: pn)) e te) (hnY : Y ≠ "__name__" := by decide) (hdT : (Y == ("__debug__" : Str)) = false := by decide)
    (he : starEach [e, .Name Y py] X.env = (false, eval e X.env) :: starEach [.Name Y py] X.env := by rfl) (he2 : starEach [.Name Y py] X.env = (false, eval (.Name Y py) X.env) :: starEach [] X.env := by rfl)
    (hpl : (backTo pos (starEach [.Name Y py] X.env)).any (·.1) = false := by rfl) : LE (X.suite a ((a, oe) :: pn)) (.Call (.Name "isinstance" p) [e, .Name Y py] [] pos) (fun E σ M Q => te E σ M fun x M1 => kIsE a k x M1 Q) := by
  refine ⟨fun σv H σ F M Q E tk rm rs h => WE.of (pe_callB (call_isE C hz hfl) hg hm (by decide +kernel) (pa_cons WE.pe (pa_cons (pe_bltn (v := .ty Ys) hgY hmY hvY rfl hnY hdT) pa_nil he2) he) (he := he) (hpl := hpl)) ?_⟩
  refine (ha.run σv H σ F M _ E tk rm rs h).mono ?_
  rintro v H1 ⟨F1, M1, x, b1, rx, rfl, hx⟩
  obtain ⟨b, e1, h2⟩ := need_of hx
  cases rx
  exact ⟨.ty Ys, .type Ys, b, rfl, fun u r => by cases r; rfl, hk b e1, LQ.tr b1 (LQ.now b1.rm (.bl b) h2)⟩
/-! ### is True, is False -/
def oIsB : PO2 := fun x y M Q => match x, y with
  | .bl a, .bl b => Q (.bl (decide (a = b))) M
  | _, _ => False
def oNotB : PO2 := fun x y M Q => match x, y with
  | .bl a, .bl b => Q (.bl (!decide (a = b))) M
  | _, _ => False
theorem r_isB {a b : Bool} {M : Mem} {Q : PQ} : oIsB (.bl a) (.bl b) M Q = Q (.bl (decide (a = b))) M := rfl
theorem r_notB {a b : Bool} {M : Mem} {Q : PQ} : oNotB (.bl a) (.bl b) M Q = Q (.bl (!decide (a = b))) M := rfl
end
end PL
set_option Elab.async false
set_option linter.all false
set_option maxRecDepth 100000
/-! the head of a reading, step by step (made by tools/genw.py) -/
namespace PL
open PySem PySem.Spec PyProof.Rows L2
theorem w_C {x : PV} {E : PXK} {σ : PSt} {M : Mem} {Q : PQ} (h : Q x M) : pC x E σ M Q := h
theorem w_var {i : Nat} {x : PV} {E : PXK} {σ : PSt} {M : Mem} {Q : PQ} (e : σ[i]? = some (some x)) (h : Q x M) : pVar i E σ M Q := by unfold pVar; rw [e]; exact h
theorem w_nil {E : PXK} {σ : PSt} {M : Mem} {Q : List PV → Mem → Prop} (h : Q [] M) : pNil E σ M Q := h
theorem w_cons {ta : PTE} {tr : PTA} {E : PXK} {σ : PSt} {M : Mem} {Q : List PV → Mem → Prop} (h : ta E σ M fun x M1 => tr E σ M1 fun xs M2 => Q (x :: xs) M2) : pCons ta tr E σ M Q := h
theorem w_bin {o : PO2} {ta tb : PTE} {E : PXK} {σ : PSt} {M : Mem} {Q : PQ} (h : ta E σ M fun x M1 => tb E σ M1 fun y M2 => o x y M2 Q) : pBin o ta tb E σ M Q := h
theorem w_test {t : PTE} {E : PXK} {σ : PSt} {M : Mem} {Q : Bool → Mem → Prop} (h : t E σ M fun x M1 => kB x fun b => Q b M1) : pTest t E σ M Q := h
theorem w_kB {b : Bool} {k : Bool → Prop} (h : k b) : kB (.bl b) k := h
theorem w_call {sp : PSp} {t : PTA} {E : PXK} {σ : PSt} {M : Mem} {Q : PQ} (h : t E σ M fun xs M1 => sp xs M1 Q E) : pCall sp t E σ M Q := h
theorem w_callB {o : POn} {t : PTA} {E : PXK} {σ : PSt} {M : Mem} {Q : PQ} (h : t E σ M fun xs M1 => o xs M1 Q) : pCallB o t E σ M Q := h
theorem w_on1 {k : PV → Mem → PQ → Prop} {x : PV} {M : Mem} {Q : PQ} (h : k x M Q) : on1 k [x] M Q := h
theorem w_on2 {k : PV → PV → Mem → PQ → Prop} {x y : PV} {M : Mem} {Q : PQ} (h : k x y M Q) : on2 k [x, y] M Q := h
theorem w_tup {t : PTA} {E : PXK} {σ : PSt} {M : Mem} {Q : PQ} (h : t E σ M fun xs M1 => Q (.tup xs) M1) : pTup t E σ M Q := h
theorem w_lst {t : PTA} {E : PXK} {σ : PSt} {M : Mem} {Q : PQ} (h : t E σ M fun xs M1 => Q (.lst xs) M1) : pLst t E σ M Q := h
theorem w_lstM {t : PTA} {E : PXK} {σ : PSt} {M : Mem} {Q : PQ} (h : t E σ M fun xs M1 => ∀ p, M1 p = none → Q (.ptr p) (M1.put p (.lst xs))) : pLstM t E σ M Q := h
theorem w_seq {t u : PTS} {dn db dc : PNx} {dr : PQ} {de : PXK} {σ : PSt} {M : Mem} (h : t (PEnds.mk (u (PEnds.mk dn dr de db dc)) dr de db dc) σ M) : pSeq t u (PEnds.mk dn dr de db dc) σ M := h
theorem w_pset {i : Nat} {te : PTE} {f : PV → PSt} {dn db dc : PNx} {dr : PQ} {de : PXK} {σ : PSt} {M : Mem} (e : ∀ x, σ.set i (some x) = f x) (h : te de σ M fun x M1 => dn (f x) M1) : pSet i te (PEnds.mk dn dr de db dc) σ M := by unfold pSet; simp only [e]; exact h
theorem w_next {dn db dc : PNx} {dr : PQ} {de : PXK} {σ : PSt} {M : Mem} (h : dn σ M) : pNext (PEnds.mk dn dr de db dc) σ M := h
theorem w_ret {te : PTE} {dn db dc : PNx} {dr : PQ} {de : PXK} {σ : PSt} {M : Mem} (h : te de σ M dr) : pRet te (PEnds.mk dn dr de db dc) σ M := h
theorem w_retN {dn db dc : PNx} {dr : PQ} {de : PXK} {σ : PSt} {M : Mem} (h : dr .non M) : pRetN (PEnds.mk dn dr de db dc) σ M := h
theorem w_ifs {c : PTT} {t u : PTS} {dn db dc : PNx} {dr : PQ} {de : PXK} {σ : PSt} {M : Mem} (h : c de σ M fun b M1 => if b = true then t (PEnds.mk dn dr de db dc) σ M1 else u (PEnds.mk dn dr de db dc) σ M1) : pIfS c t u (PEnds.mk dn dr de db dc) σ M := h
theorem w_dnx {a c d : PNx} {b : PQ} {x : PXK} {σ : PSt} {M : Mem} {Q : PQ} {v : PV} (h : a σ M) : (PEnds.mk a b x c d).nx σ M := h
theorem w_drt {a c d : PNx} {b : PQ} {x : PXK} {σ : PSt} {M : Mem} {Q : PQ} {v : PV} (h : b v M) : (PEnds.mk a b x c d).rt v M := h
theorem w_dbk {a c d : PNx} {b : PQ} {x : PXK} {σ : PSt} {M : Mem} {Q : PQ} {v : PV} (h : c σ M) : (PEnds.mk a b x c d).bk σ M := h
theorem w_dct {a c d : PNx} {b : PQ} {x : PXK} {σ : PSt} {M : Mem} {Q : PQ} {v : PV} (h : d σ M) : (PEnds.mk a b x c d).ct σ M := h
theorem w_ifT {A B : Prop} (h : A) : if true = true then A else B := by rw [if_pos rfl]; exact h
theorem w_ifF {A B : Prop} (h : B) : if false = true then A else B := by rw [if_neg Bool.false_ne_true]; exact h
theorem w_ifd {P A B : Prop} {i : Decidable P} (h : if P then A else B) : if decide P = true then A else B := by
  by_cases p : P
  · rw [if_pos p] at h; rw [if_pos (decide_eq_true p)]; exact h
  · rw [if_neg p] at h; rw [if_neg (by rw [decide_eq_false p]; exact Bool.false_ne_true)]; exact h
theorem w_ifn {b : Bool} {A B : Prop} (h : if b = true then B else A) : if (!b) = true then A else B := by cases b <;> exact h
theorem w_drop {te : PTE} {dn db dc : PNx} {dr : PQ} {de : PXK} {σ : PSt} {M : Mem} (h : te de σ M fun _ M1 => dn σ M1) : pDrop te (PEnds.mk dn dr de db dc) σ M := h
theorem w_asg {te : PTE} {g : PTG} {dn db dc : PNx} {dr : PQ} {de : PXK} {σ : PSt} {M : Mem} (h : te de σ M fun x M1 => g x σ M1 dn) : pAsg te g (PEnds.mk dn dr de db dc) σ M := h
theorem w_gname {i : Nat} {x : PV} {σ σ1 : PSt} {M : Mem} {R : PNx} (e : σ.set i (some x) = σ1) (h : R σ1 M) : gpName i x σ M R := by unfold gpName; rw [e]; exact h
theorem w_gtup {n : Nat} {u : PTGs} {xs : List PV} {σ : PSt} {M : Mem} {R : PNx} (e : xs.length = n) (h : u xs σ M R) : gpTup n u (.tup xs) σ M R := ⟨e, h⟩
theorem w_gcons {t : PTG} {u : PTGs} {x : PV} {r : List PV} {σ : PSt} {M : Mem} {R : PNx} (h : t x σ M fun σ' M' => u r σ' M' R) : gpCons t u (x :: r) σ M R := h
theorem w_gnil {σ : PSt} {M : Mem} {R : PNx} (h : R σ M) : gpNil [] σ M R := h
theorem w_gsub {to ti : PTE} {x : PV} {σ : PSt} {M : Mem} {R : PNx} (h : to noX σ M fun o M1 => ti noX σ M1 fun i M2 => kSet o i x M2 fun M3 => R σ M3) : gpSub to ti x σ M R := h
theorem w_I0 {g : Int → Int → PV} {i j : Int} {M : Mem} {Q : PQ} (h : Q (g i j) M) : oI0 g (.int i) (.int j) M Q := h
theorem w_mod {i j : Int} {M : Mem} {Q : PQ} (c : 0 < j) (h : Q (.int (i % j)) M) : oMod (.int i) (.int j) M Q := ⟨c, h⟩
theorem w_div {i j : Int} {M : Mem} {Q : PQ} (c : 0 < j ∧ j < 1073741824) (h : Q (.int (i / j)) M) : oDiv (.int i) (.int j) M Q := ⟨c, h⟩
theorem w_I {C : Int → Int → Prop} {g : Int → Int → PV} {i j : Int} {M : Mem} {Q : PQ} (c : C i j) (h : Q (g i j) M) : oI C g (.int i) (.int j) M Q := ⟨c, h⟩
theorem w_add {i j : Int} {M : Mem} {Q : PQ} (h : Q (.int (i + j)) M) : oAdd (.int i) (.int j) M Q := h
theorem w_addT {i j : List PV} {M : Mem} {Q : PQ} (c : i.length + j.length ≤ sizeLine) (h : Q (.tup (i ++ j)) M) : oAdd (.tup i) (.tup j) M Q := ⟨c, h⟩
theorem w_neg {ta : PTE} {E : PXK} {σ : PSt} {M : Mem} {Q : PQ} (h : ta E σ M fun x M1 => kNeg x M1 Q) : pNeg ta E σ M Q := h
theorem w_negI {i : Int} {M : Mem} {Q : PQ} (h : Q (.int (-i)) M) : kNeg (.int i) M Q := h
theorem w_eqInt {i j : Int} {M : Mem} {Q : PQ} (h : Q (.bl (decide (i = j))) M) : oEq (.int i) (.int j) M Q := by rw [eq_int']; exact h
theorem w_neInt {i j : Int} {M : Mem} {Q : PQ} (h : Q (.bl (!decide (i = j))) M) : oNe (.int i) (.int j) M Q := by rw [ne_int']; exact h
theorem w_eqBl {i j : Bool} {M : Mem} {Q : PQ} (h : Q (.bl (decide (i = j))) M) : oEq (.bl i) (.bl j) M Q := by rw [eq_bl']; exact h
theorem w_neBl {i j : Bool} {M : Mem} {Q : PQ} (h : Q (.bl (!decide (i = j))) M) : oNe (.bl i) (.bl j) M Q := by rw [ne_bl']; exact h
theorem w_eqStr {i j : Str} {M : Mem} {Q : PQ} (h : Q (.bl (decide (i = j))) M) : oEq (.str i) (.str j) M Q := by rw [eq_str']; exact h
theorem w_neStr {i j : Str} {M : Mem} {Q : PQ} (h : Q (.bl (!decide (i = j))) M) : oNe (.str i) (.str j) M Q := by rw [ne_str']; exact h
theorem w_ixtup0 {a0 : PV} {l : List PV} {M : Mem} {Q : PQ} (h : Q a0 M) : oIx (.tup (a0 :: l)) (.int 0) M Q := by rw [PL.ix_tup, at_0]; exact h
theorem w_ixlst0 {a0 : PV} {l : List PV} {M : Mem} {Q : PQ} (h : Q a0 M) : oIx (.lst (a0 :: l)) (.int 0) M Q := by rw [PL.ix_lst, at_0]; exact h
theorem w_ixtup1 {a0 a1 : PV} {l : List PV} {M : Mem} {Q : PQ} (h : Q a1 M) : oIx (.tup (a0 :: a1 :: l)) (.int 1) M Q := by rw [PL.ix_tup, at_1]; exact h
theorem w_ixlst1 {a0 a1 : PV} {l : List PV} {M : Mem} {Q : PQ} (h : Q a1 M) : oIx (.lst (a0 :: a1 :: l)) (.int 1) M Q := by rw [PL.ix_lst, at_1]; exact h
theorem w_ixtup2 {a0 a1 a2 : PV} {l : List PV} {M : Mem} {Q : PQ} (h : Q a2 M) : oIx (.tup (a0 :: a1 :: a2 :: l)) (.int 2) M Q := by rw [PL.ix_tup, at_2]; exact h
theorem w_ixlst2 {a0 a1 a2 : PV} {l : List PV} {M : Mem} {Q : PQ} (h : Q a2 M) : oIx (.lst (a0 :: a1 :: a2 :: l)) (.int 2) M Q := by rw [PL.ix_lst, at_2]; exact h
theorem w_ixtup3 {a0 a1 a2 a3 : PV} {l : List PV} {M : Mem} {Q : PQ} (h : Q a3 M) : oIx (.tup (a0 :: a1 :: a2 :: a3 :: l)) (.int 3) M Q := by rw [PL.ix_tup, at_3]; exact h
theorem w_ixlst3 {a0 a1 a2 a3 : PV} {l : List PV} {M : Mem} {Q : PQ} (h : Q a3 M) : oIx (.lst (a0 :: a1 :: a2 :: a3 :: l)) (.int 3) M Q := by rw [PL.ix_lst, at_3]; exact h
theorem w_ixtup4 {a0 a1 a2 a3 a4 : PV} {l : List PV} {M : Mem} {Q : PQ} (h : Q a4 M) : oIx (.tup (a0 :: a1 :: a2 :: a3 :: a4 :: l)) (.int 4) M Q := by rw [PL.ix_tup, at_4]; exact h
theorem w_ixlst4 {a0 a1 a2 a3 a4 : PV} {l : List PV} {M : Mem} {Q : PQ} (h : Q a4 M) : oIx (.lst (a0 :: a1 :: a2 :: a3 :: a4 :: l)) (.int 4) M Q := by rw [PL.ix_lst, at_4]; exact h
theorem w_ixtup5 {a0 a1 a2 a3 a4 a5 : PV} {l : List PV} {M : Mem} {Q : PQ} (h : Q a5 M) : oIx (.tup (a0 :: a1 :: a2 :: a3 :: a4 :: a5 :: l)) (.int 5) M Q := by rw [PL.ix_tup, at_5]; exact h
theorem w_ixlst5 {a0 a1 a2 a3 a4 a5 : PV} {l : List PV} {M : Mem} {Q : PQ} (h : Q a5 M) : oIx (.lst (a0 :: a1 :: a2 :: a3 :: a4 :: a5 :: l)) (.int 5) M Q := by rw [PL.ix_lst, at_5]; exact h
theorem w_ixT {xs : List PV} {i : Int} {x : PV} {M : Mem} {Q : PQ} (e : L2.atI xs i = some x) (h : Q x M) : oIx (.tup xs) (.int i) M Q := by rw [PL.ix_tup, e]; exact h
theorem w_ixL {xs : List PV} {i : Int} {x : PV} {M : Mem} {Q : PQ} (e : L2.atI xs i = some x) (h : Q x M) : oIx (.lst xs) (.int i) M Q := by rw [PL.ix_lst, e]; exact h
theorem w_need {α : Type} {a : α} {k : α → Prop} (h : k a) : need (some a) k := h
theorem w_lentup {xs : List PV} {M : Mem} {Q : PQ} (h : Q (.int xs.length) M) : kLen (.tup xs) M Q := h
theorem w_lenlst {xs : List PV} {M : Mem} {Q : PQ} (h : Q (.int xs.length) M) : kLen (.lst xs) M Q := h
theorem w_lenscr {xs : List PV} {M : Mem} {Q : PQ} (h : Q (.int xs.length) M) : kLen (.scr xs) M Q := h
theorem w_sl {ta : PTE} {tl th : PTO} {E : PXK} {σ : PSt} {M : Mem} {Q : PQ} (h : ta E σ M fun x M1 => tl E σ M1 fun l M2 => th E σ M2 fun u M3 => oSl x l u M3 Q) : pSl ta tl th E σ M Q := h
theorem w_nop {E : PXK} {σ : PSt} {M : Mem} {Q : Option Int → Mem → Prop} (h : Q none M) : pNoPart E σ M Q := h
theorem w_part {t : PTE} {E : PXK} {σ : PSt} {M : Mem} {Q : Option Int → Mem → Prop} (h : t E σ M fun x M1 => kPartI x fun o => Q o M1) : pPart t E σ M Q := h
theorem w_partI {i : Int} {k : Option Int → Prop} (h : k (some i)) : kPartI (.int i) k := h
theorem w_slT {xs : List PV} {lo hi : Option Int} {M : Mem} {Q : PQ} (h : Q (.tup (cutA xs lo hi)) M) : oSl (.tup xs) lo hi M Q := h
theorem w_slL {xs : List PV} {lo hi : Option Int} {M : Mem} {Q : PQ} (h : Q (.lst (cutA xs lo hi)) M) : oSl (.lst xs) lo hi M Q := h
theorem w_slS {xs : List PV} {lo hi : Option Int} {M : Mem} {Q : PQ} (h : Q (.lst (cutA xs lo hi)) M) : oSl (.scr xs) lo hi M Q := h
theorem w_abs {i : Int} {M : Mem} {Q : PQ} (h : Q (.int (if i < 0 then -i else i)) M) : kAbs (.int i) M Q := h
theorem w_int {i : Int} {M : Mem} {Q : PQ} (h : Q (.int i) M) : kInt (.int i) M Q := h
theorem w_listL {xs : List PV} {M : Mem} {Q : PQ} (h : Q (.lst xs) M) : kList (.lst xs) M Q := h
theorem w_listT {xs : List PV} {M : Mem} {Q : PQ} (h : Q (.lst xs) M) : kList (.tup xs) M Q := h
theorem w_listS {xs : List PV} {M : Mem} {Q : PQ} (h : Q (.lst xs) M) : kList (.scr xs) M Q := h
theorem w_tupL {xs : List PV} {M : Mem} {Q : PQ} (h : Q (.tup xs) M) : PL.kTup (.lst xs) M Q := h
theorem w_tupT {xs : List PV} {M : Mem} {Q : PQ} (h : Q (.tup xs) M) : PL.kTup (.tup xs) M Q := h
theorem w_listML {xs : List PV} {M : Mem} {Q : PQ} (h : ∀ p, M p = none → Q (.ptr p) (M.put p (.lst xs))) : kListM (.lst xs) M Q := h
theorem w_listMT {xs : List PV} {M : Mem} {Q : PQ} (h : ∀ p, M p = none → Q (.ptr p) (M.put p (.lst xs))) : kListM (.tup xs) M Q := h
theorem w_and {t u : PTT} {E : PXK} {σ : PSt} {M : Mem} {Q : Bool → Mem → Prop} (h : t E σ M fun c M1 => if c = true then u E σ M1 Q else Q false M1) : pAnd t u E σ M Q := h
theorem w_or {t u : PTT} {E : PXK} {σ : PSt} {M : Mem} {Q : Bool → Mem → Prop} (h : t E σ M fun c M1 => if c = true then Q true M1 else u E σ M1 Q) : pOr t u E σ M Q := h
theorem w_not {t : PTT} {E : PXK} {σ : PSt} {M : Mem} {Q : Bool → Mem → Prop} (h : t E σ M fun c M1 => Q (!c) M1) : pNot t E σ M Q := h
theorem w_andV {ta tb : PTE} {E : PXK} {σ : PSt} {M : Mem} {Q : PQ} (h : ta E σ M fun x M1 => kB x fun c => if c = true then tb E σ M1 Q else Q (.bl false) M1) : pAndV ta tb E σ M Q := h
theorem w_orV {ta tb : PTE} {E : PXK} {σ : PSt} {M : Mem} {Q : PQ} (h : ta E σ M fun x M1 => kB x fun c => if c = true then Q (.bl true) M1 else tb E σ M1 Q) : pOrV ta tb E σ M Q := h
theorem w_notV {ta : PTE} {E : PXK} {σ : PSt} {M : Mem} {Q : PQ} (h : ta E σ M fun x M1 => kB x fun c => Q (.bl (!c)) M1) : pNotV ta E σ M Q := h
theorem w_if {t : PTT} {ta tb : PTE} {E : PXK} {σ : PSt} {M : Mem} {Q : PQ} (h : t E σ M fun c M1 => if c = true then ta E σ M1 Q else tb E σ M1 Q) : pIf t ta tb E σ M Q := h
theorem w_isN {ta : PTE} {E : PXK} {σ : PSt} {M : Mem} {Q : PQ} (h : ta E σ M fun x M1 => Q (.bl (isNon x)) M1) : pIsN ta E σ M Q := h
theorem w_notN {ta : PTE} {E : PXK} {σ : PSt} {M : Mem} {Q : PQ} (h : ta E σ M fun x M1 => Q (.bl (!isNon x)) M1) : pNotN ta E σ M Q := h
theorem w_tisN {ta : PTE} {E : PXK} {σ : PSt} {M : Mem} {Q : Bool → Mem → Prop} (h : ta E σ M fun x M1 => Q (isNon x) M1) : pTIsN ta E σ M Q := h
theorem w_tnotN {ta : PTE} {E : PXK} {σ : PSt} {M : Mem} {Q : Bool → Mem → Prop} (h : ta E σ M fun x M1 => Q (!isNon x) M1) : pTNotN ta E σ M Q := h
theorem w_in_non  {A B : Prop} (h : A) : if isNon .non = true then A else B := by simpa [isNon] using h
theorem w_in_int {i : Int} {A B : Prop} (h : B) : if isNon (.int i) = true then A else B := by simpa [isNon] using h
theorem w_in_tup {l : List PV} {A B : Prop} (h : B) : if isNon (.tup l) = true then A else B := by simpa [isNon] using h
theorem w_in_lst {l : List PV} {A B : Prop} (h : B) : if isNon (.lst l) = true then A else B := by simpa [isNon] using h
theorem w_in_ptr {a : Addr} {A B : Prop} (h : B) : if isNon (.ptr a) = true then A else B := by simpa [isNon] using h
theorem w_in_str {s : Str} {A B : Prop} (h : B) : if isNon (.str s) = true then A else B := by simpa [isNon] using h
theorem w_in_bl {c : Bool} {A B : Prop} (h : B) : if isNon (.bl c) = true then A else B := by simpa [isNon] using h
theorem w_isB {a b : Bool} {M : Mem} {Q : PQ} (h : Q (.bl (decide (a = b))) M) : oIsB (.bl a) (.bl b) M Q := h
theorem w_notB {a b : Bool} {M : Mem} {Q : PQ} (h : Q (.bl (!decide (a = b))) M) : oNotB (.bl a) (.bl b) M Q := h
theorem w_for {wi : PTI} {g : PTG} {tb : PTS} {dn db dc : PNx} {dr : PQ} {de : PXK} {σ : PSt} {M : Mem} (h : wi de σ M fun xs M1 => pForL g tb xs (PEnds.mk dn dr de db dc) σ M1) : pFor wi g tb (PEnds.mk dn dr de db dc) σ M := h
theorem w_iL {te : PTE} {E : PXK} {σ : PSt} {M : Mem} {Q : List PV → Mem → Prop} (h : te E σ M fun x M1 => need (lstF x) fun xs => Q xs M1) : piL te E σ M Q := h
theorem w_iT {te : PTE} {E : PXK} {σ : PSt} {M : Mem} {Q : List PV → Mem → Prop} (h : te E σ M fun x M1 => need (tupF x) fun xs => Q xs M1) : piT te E σ M Q := h
theorem w_lstF {xs : List PV} {k : List PV → Prop} (h : k xs) : need (lstF (.lst xs)) k := h
theorem w_lstFs {xs : List PV} {k : List PV → Prop} (h : k xs) : need (lstF (.scr xs)) k := h
theorem w_tupF {xs : List PV} {k : List PV → Prop} (h : k xs) : need (tupF (.tup xs)) k := h
theorem w_R1 {te : PTE} {E : PXK} {σ : PSt} {M : Mem} {Q : List PV → Mem → Prop} (h : te E σ M fun x M1 => kR1 x M1 Q) : piR1 te E σ M Q := h
theorem w_R1I {j : Int} {M : Mem} {R : List PV → Mem → Prop} (c : -(2 ^ 62) ≤ j ∧ j < 2 ^ 62) (h : R (rngP 0 j.toNat) M) : kR1 (.int j) M R := ⟨c, h⟩
theorem w_R2 {ta tb : PTE} {E : PXK} {σ : PSt} {M : Mem} {Q : List PV → Mem → Prop} (h : ta E σ M fun x M1 => tb E σ M1 fun y M2 => kR2 x y M2 Q) : piR2 ta tb E σ M Q := h
theorem w_forM {te : PTE} {g : PTG} {tb : PTS} {dn db dc : PNx} {dr : PQ} {de : PXK} {σ : PSt} {M : Mem} (h : te de σ M fun x M1 => need (lstOf M1 x) fun xs => pForG (fun M => lstOf M x = some xs) g tb xs (PEnds.mk dn dr de db dc) σ M1) : pForM te g tb (PEnds.mk dn dr de db dc) σ M := h
theorem w_brk {dn db dc : PNx} {dr : PQ} {de : PXK} {σ : PSt} {M : Mem} (h : db σ M) : pBreak (PEnds.mk dn dr de db dc) σ M := h
theorem w_cnt {dn db dc : PNx} {dr : PQ} {de : PXK} {σ : PSt} {M : Mem} (h : dc σ M) : pCont (PEnds.mk dn dr de db dc) σ M := h
theorem w_lc {wi : PTI} {i : Nat} {tt : PTT} {te : PTE} {E : PXK} {σ : PSt} {M : Mem} {Q : PQ} (h : wi E σ M fun xs M1 => xs.length ≤ sizeLine ∧ pLcL i tt te xs [] σ M1 Q) : pLc wi i tt te E σ M Q := h
theorem w_lcnil {i : Nat} {tt : PTT} {te : PTE} {acc : List PV} {σ : PSt} {M : Mem} {Q : PQ} (h : Q (.lst acc) M) : pLcL i tt te [] acc σ M Q := h
theorem w_lccons {i : Nat} {te : PTE} {x : PV} {xs acc : List PV} {σ : PSt} {M : Mem} {Q : PQ} (h : te noX (σ.set i (some x)) M fun y M2 => pLcL i pYes te xs (acc ++ [y]) σ M2 Q) : pLcL i pYes te (x :: xs) acc σ M Q := h
theorem w_fld {C : Addr} {ta : PTE} {f : Str} {E : PXK} {σ : PSt} {M : Mem} {Q : PQ} (h : ta E σ M fun x M1 => need (fldOf M1 C f x) fun v => Q v M1) : pFld C ta f E σ M Q := h
theorem w_fldO {C : Addr} {f : Str} {fs : List (Str × PV)} {v : PV} {M : Mem} {k : PV → Prop} (e : fs.lookup f = some v) (h : k v) : need (fldOf M C f (.obj C fs)) k := by
  have e2 : fldOf M C f (.obj C fs) = some v := (if_pos rfl).trans e
  rw [e2]; exact h
theorem w_meth {C : Addr} {m : Str} {sp : PSp} {ta : PTE} {t : PTA} {E : PXK} {σ : PSt} {M : Mem} {Q : PQ} (h : ta E σ M fun x M1 => need (objOf M1 C x) fun fs => fs.lookup m = none ∧ t E σ M1 fun xs M2 => sp (x :: xs) M2 Q E) : pMeth C m sp ta t E σ M Q := h
theorem w_objO {C : Addr} {m : Str} {fs : List (Str × PV)} {M : Mem} {A : Prop} (e : fs.lookup m = none) (h : A) : need (objOf M C (.obj C fs)) fun fs => fs.lookup m = none ∧ A := by
  have e2 : objOf M C (.obj C fs) = some fs := if_pos rfl
  rw [e2]; exact ⟨e, h⟩
theorem w_make {C : Addr} {sp : PSp} {t : PTA} {E : PXK} {σ : PSt} {M : Mem} {Q : PQ} (h : t E σ M fun xs M1 => ∀ p, M1 p = none → sp (.ptr p :: xs) (M1.put p (.obj C [])) (fun r M2 => isNon r = true ∧ match M2 p with | some (.obj C' fs) => C' = C ∧ Q (.obj C fs) (M2.drop p) | _ => False) E) : pMake C sp t E σ M Q := h
theorem w_fldS {C : Addr} {f : Str} {to tv : PTE} {dn db dc : PNx} {dr : PQ} {de : PXK} {σ : PSt} {M : Mem} (h : tv de σ M fun x M1 => to de σ M1 fun o M2 => kPutF C f x o M2 fun M3 => dn σ M3) : pFldS C f to tv (PEnds.mk dn dr de db dc) σ M := h
theorem w_app {to te : PTE} {E : PXK} {σ : PSt} {M : Mem} {Q : PQ} (h : to E σ M fun o M1 => lstOf M1 o ≠ none ∧ te E σ M1 fun x M2 => kApp o x M2 Q) : pApp to te E σ M Q := h
theorem w_retF {te : PTE} {dn db dc : PNx} {dr : PQ} {de : PXK} {σ : PSt} {M : Mem} (h : te de σ M fun x M1 => kFz x M1 dr) : pRetF te (PEnds.mk dn dr de db dc) σ M := h
theorem w_retD {js : List Nat} {te : PTE} {dn db dc : PNx} {dr : PQ} {de : PXK} {σ : PSt} {M : Mem} (h : te de σ M fun x M1 => dr x (dropSlots σ js M1)) : pRetD js te (PEnds.mk dn dr de db dc) σ M := h
theorem w_retFD {js : List Nat} {te : PTE} {dn db dc : PNx} {dr : PQ} {de : PXK} {σ : PSt} {M : Mem} (h : te de σ M fun x M1 => kFz x M1 fun y M2 => dr y (dropSlots σ js M2)) : pRetFD js te (PEnds.mk dn dr de db dc) σ M := h
theorem w_raise {C : Addr} {dn db dc : PNx} {dr : PQ} {de : PXK} {σ : PSt} {M : Mem} (h : de C [] M) : pRaise C (PEnds.mk dn dr de db dc) σ M := h
theorem w_aug {i : Nat} {o : PO2} {te : PTE} {x : PV} {f : PV → PSt} {dn db dc : PNx} {dr : PQ} {de : PXK} {σ : PSt} {M : Mem} (e : σ[i]? = some (some x)) (g : ∀ x, σ.set i (some x) = f x) (h : te de σ M fun y M1 => o x y M1 fun z M2 => dn (f z) M2) : pAug i o te (PEnds.mk dn dr de db dc) σ M := by unfold pAug; rw [e]; simp only [g]; exact h
theorem w_try {n i : Nat} {exm : Addr → Option Bool} {tb : PTS} {ts : Addr → Addr → PTS} {dn db dc : PNx} {dr : PQ} {de : PXK} {σ : PSt} {M : Mem} (h : tb (PEnds.mk dn dr (fun C fs M' => need (exm C) fun b => (b = true → fs = [] ∧ ∀ a, M' a = none → ts C a { nx := fun σ' M'' => dn (σ'.set i none) M'', rt := dr, ex := noX, bk := fun σ' M'' => db (σ'.set i none) M'', ct := fun σ' M'' => dc (σ'.set i none) M'' } ((List.replicate n none).set i (some (.ptr a))) M') ∧ (b = false → de C fs M') ) db dc) σ M) : pTryAs n i exm tb ts (PEnds.mk dn dr de db dc) σ M := h
theorem w_isi_i {i : Int} {T : String} {b : Bool} {M : Mem} {Q : PQ} (e : kitB "int" T = some b) (h : Q (.bl b) M) : kIsi T (.int i) M Q := need_by e h
theorem w_isi_b {c : Bool} {T : String} {b : Bool} {M : Mem} {Q : PQ} (e : kitB "bool" T = some b) (h : Q (.bl b) M) : kIsi T (.bl c) M Q := need_by e h
theorem w_isi_t {l : List PV} {T : String} {b : Bool} {M : Mem} {Q : PQ} (e : kitB "tuple" T = some b) (h : Q (.bl b) M) : kIsi T (.tup l) M Q := need_by e h
theorem w_isi_l {l : List PV} {T : String} {b : Bool} {M : Mem} {Q : PQ} (e : kitB "list" T = some b) (h : Q (.bl b) M) : kIsi T (.lst l) M Q := need_by e h
theorem w_isi_s {s : Str} {T : String} {b : Bool} {M : Mem} {Q : PQ} (e : kitB "str" T = some b) (h : Q (.bl b) M) : kIsi T (.str s) M Q := need_by e h
theorem w_isi_n  {T : String} {b : Bool} {M : Mem} {Q : PQ} (e : kitB "NoneType" T = some b) (h : Q (.bl b) M) : kIsi T .non M Q := need_by e h
theorem set_h0 {α : Type} {a0 y : α} {l : List α} : (a0 :: l).set 0 y = y :: l := rfl
theorem set_h1 {α : Type} {a0 a1 y : α} {l : List α} : (a0 :: a1 :: l).set 1 y = a0 :: y :: l := rfl
theorem set_h2 {α : Type} {a0 a1 a2 y : α} {l : List α} : (a0 :: a1 :: a2 :: l).set 2 y = a0 :: a1 :: y :: l := rfl
theorem set_h3 {α : Type} {a0 a1 a2 a3 y : α} {l : List α} : (a0 :: a1 :: a2 :: a3 :: l).set 3 y = a0 :: a1 :: a2 :: y :: l := rfl
theorem set_h4 {α : Type} {a0 a1 a2 a3 a4 y : α} {l : List α} : (a0 :: a1 :: a2 :: a3 :: a4 :: l).set 4 y = a0 :: a1 :: a2 :: a3 :: y :: l := rfl
theorem set_h5 {α : Type} {a0 a1 a2 a3 a4 a5 y : α} {l : List α} : (a0 :: a1 :: a2 :: a3 :: a4 :: a5 :: l).set 5 y = a0 :: a1 :: a2 :: a3 :: a4 :: y :: l := rfl
theorem set_h6 {α : Type} {a0 a1 a2 a3 a4 a5 a6 y : α} {l : List α} : (a0 :: a1 :: a2 :: a3 :: a4 :: a5 :: a6 :: l).set 6 y = a0 :: a1 :: a2 :: a3 :: a4 :: a5 :: y :: l := rfl
theorem set_h7 {α : Type} {a0 a1 a2 a3 a4 a5 a6 a7 y : α} {l : List α} : (a0 :: a1 :: a2 :: a3 :: a4 :: a5 :: a6 :: a7 :: l).set 7 y = a0 :: a1 :: a2 :: a3 :: a4 :: a5 :: a6 :: y :: l := rfl
theorem set_h8 {α : Type} {a0 a1 a2 a3 a4 a5 a6 a7 a8 y : α} {l : List α} : (a0 :: a1 :: a2 :: a3 :: a4 :: a5 :: a6 :: a7 :: a8 :: l).set 8 y = a0 :: a1 :: a2 :: a3 :: a4 :: a5 :: a6 :: a7 :: y :: l := rfl
theorem set_h9 {α : Type} {a0 a1 a2 a3 a4 a5 a6 a7 a8 a9 y : α} {l : List α} : (a0 :: a1 :: a2 :: a3 :: a4 :: a5 :: a6 :: a7 :: a8 :: a9 :: l).set 9 y = a0 :: a1 :: a2 :: a3 :: a4 :: a5 :: a6 :: a7 :: a8 :: y :: l := rfl
theorem set_h10 {α : Type} {a0 a1 a2 a3 a4 a5 a6 a7 a8 a9 a10 y : α} {l : List α} : (a0 :: a1 :: a2 :: a3 :: a4 :: a5 :: a6 :: a7 :: a8 :: a9 :: a10 :: l).set 10 y = a0 :: a1 :: a2 :: a3 :: a4 :: a5 :: a6 :: a7 :: a8 :: a9 :: y :: l := rfl
theorem set_h11 {α : Type} {a0 a1 a2 a3 a4 a5 a6 a7 a8 a9 a10 a11 y : α} {l : List α} : (a0 :: a1 :: a2 :: a3 :: a4 :: a5 :: a6 :: a7 :: a8 :: a9 :: a10 :: a11 :: l).set 11 y = a0 :: a1 :: a2 :: a3 :: a4 :: a5 :: a6 :: a7 :: a8 :: a9 :: a10 :: y :: l := rfl
theorem set_h12 {α : Type} {a0 a1 a2 a3 a4 a5 a6 a7 a8 a9 a10 a11 a12 y : α} {l : List α} : (a0 :: a1 :: a2 :: a3 :: a4 :: a5 :: a6 :: a7 :: a8 :: a9 :: a10 :: a11 :: a12 :: l).set 12 y = a0 :: a1 :: a2 :: a3 :: a4 :: a5 :: a6 :: a7 :: a8 :: a9 :: a10 :: a11 :: y :: l := rfl
theorem set_h13 {α : Type} {a0 a1 a2 a3 a4 a5 a6 a7 a8 a9 a10 a11 a12 a13 y : α} {l : List α} : (a0 :: a1 :: a2 :: a3 :: a4 :: a5 :: a6 :: a7 :: a8 :: a9 :: a10 :: a11 :: a12 :: a13 :: l).set 13 y = a0 :: a1 :: a2 :: a3 :: a4 :: a5 :: a6 :: a7 :: a8 :: a9 :: a10 :: a11 :: a12 :: y :: l := rfl
theorem set_h14 {α : Type} {a0 a1 a2 a3 a4 a5 a6 a7 a8 a9 a10 a11 a12 a13 a14 y : α} {l : List α} : (a0 :: a1 :: a2 :: a3 :: a4 :: a5 :: a6 :: a7 :: a8 :: a9 :: a10 :: a11 :: a12 :: a13 :: a14 :: l).set 14 y = a0 :: a1 :: a2 :: a3 :: a4 :: a5 :: a6 :: a7 :: a8 :: a9 :: a10 :: a11 :: a12 :: a13 :: y :: l := rfl
theorem set_h15 {α : Type} {a0 a1 a2 a3 a4 a5 a6 a7 a8 a9 a10 a11 a12 a13 a14 a15 y : α} {l : List α} : (a0 :: a1 :: a2 :: a3 :: a4 :: a5 :: a6 :: a7 :: a8 :: a9 :: a10 :: a11 :: a12 :: a13 :: a14 :: a15 :: l).set 15 y = a0 :: a1 :: a2 :: a3 :: a4 :: a5 :: a6 :: a7 :: a8 :: a9 :: a10 :: a11 :: a12 :: a13 :: a14 :: y :: l := rfl
theorem set_h16 {α : Type} {a0 a1 a2 a3 a4 a5 a6 a7 a8 a9 a10 a11 a12 a13 a14 a15 a16 y : α} {l : List α} : (a0 :: a1 :: a2 :: a3 :: a4 :: a5 :: a6 :: a7 :: a8 :: a9 :: a10 :: a11 :: a12 :: a13 :: a14 :: a15 :: a16 :: l).set 16 y = a0 :: a1 :: a2 :: a3 :: a4 :: a5 :: a6 :: a7 :: a8 :: a9 :: a10 :: a11 :: a12 :: a13 :: a14 :: a15 :: y :: l := rfl
theorem set_h17 {α : Type} {a0 a1 a2 a3 a4 a5 a6 a7 a8 a9 a10 a11 a12 a13 a14 a15 a16 a17 y : α} {l : List α} : (a0 :: a1 :: a2 :: a3 :: a4 :: a5 :: a6 :: a7 :: a8 :: a9 :: a10 :: a11 :: a12 :: a13 :: a14 :: a15 :: a16 :: a17 :: l).set 17 y = a0 :: a1 :: a2 :: a3 :: a4 :: a5 :: a6 :: a7 :: a8 :: a9 :: a10 :: a11 :: a12 :: a13 :: a14 :: a15 :: a16 :: y :: l := rfl
theorem set_h18 {α : Type} {a0 a1 a2 a3 a4 a5 a6 a7 a8 a9 a10 a11 a12 a13 a14 a15 a16 a17 a18 y : α} {l : List α} : (a0 :: a1 :: a2 :: a3 :: a4 :: a5 :: a6 :: a7 :: a8 :: a9 :: a10 :: a11 :: a12 :: a13 :: a14 :: a15 :: a16 :: a17 :: a18 :: l).set 18 y = a0 :: a1 :: a2 :: a3 :: a4 :: a5 :: a6 :: a7 :: a8 :: a9 :: a10 :: a11 :: a12 :: a13 :: a14 :: a15 :: a16 :: a17 :: y :: l := rfl
theorem set_h19 {α : Type} {a0 a1 a2 a3 a4 a5 a6 a7 a8 a9 a10 a11 a12 a13 a14 a15 a16 a17 a18 a19 y : α} {l : List α} : (a0 :: a1 :: a2 :: a3 :: a4 :: a5 :: a6 :: a7 :: a8 :: a9 :: a10 :: a11 :: a12 :: a13 :: a14 :: a15 :: a16 :: a17 :: a18 :: a19 :: l).set 19 y = a0 :: a1 :: a2 :: a3 :: a4 :: a5 :: a6 :: a7 :: a8 :: a9 :: a10 :: a11 :: a12 :: a13 :: a14 :: a15 :: a16 :: a17 :: a18 :: y :: l := rfl
theorem set_h20 {α : Type} {a0 a1 a2 a3 a4 a5 a6 a7 a8 a9 a10 a11 a12 a13 a14 a15 a16 a17 a18 a19 a20 y : α} {l : List α} : (a0 :: a1 :: a2 :: a3 :: a4 :: a5 :: a6 :: a7 :: a8 :: a9 :: a10 :: a11 :: a12 :: a13 :: a14 :: a15 :: a16 :: a17 :: a18 :: a19 :: a20 :: l).set 20 y = a0 :: a1 :: a2 :: a3 :: a4 :: a5 :: a6 :: a7 :: a8 :: a9 :: a10 :: a11 :: a12 :: a13 :: a14 :: a15 :: a16 :: a17 :: a18 :: a19 :: y :: l := rfl
theorem set_h21 {α : Type} {a0 a1 a2 a3 a4 a5 a6 a7 a8 a9 a10 a11 a12 a13 a14 a15 a16 a17 a18 a19 a20 a21 y : α} {l : List α} : (a0 :: a1 :: a2 :: a3 :: a4 :: a5 :: a6 :: a7 :: a8 :: a9 :: a10 :: a11 :: a12 :: a13 :: a14 :: a15 :: a16 :: a17 :: a18 :: a19 :: a20 :: a21 :: l).set 21 y = a0 :: a1 :: a2 :: a3 :: a4 :: a5 :: a6 :: a7 :: a8 :: a9 :: a10 :: a11 :: a12 :: a13 :: a14 :: a15 :: a16 :: a17 :: a18 :: a19 :: a20 :: y :: l := rfl
theorem set_h22 {α : Type} {a0 a1 a2 a3 a4 a5 a6 a7 a8 a9 a10 a11 a12 a13 a14 a15 a16 a17 a18 a19 a20 a21 a22 y : α} {l : List α} : (a0 :: a1 :: a2 :: a3 :: a4 :: a5 :: a6 :: a7 :: a8 :: a9 :: a10 :: a11 :: a12 :: a13 :: a14 :: a15 :: a16 :: a17 :: a18 :: a19 :: a20 :: a21 :: a22 :: l).set 22 y = a0 :: a1 :: a2 :: a3 :: a4 :: a5 :: a6 :: a7 :: a8 :: a9 :: a10 :: a11 :: a12 :: a13 :: a14 :: a15 :: a16 :: a17 :: a18 :: a19 :: a20 :: a21 :: y :: l := rfl
theorem set_h23 {α : Type} {a0 a1 a2 a3 a4 a5 a6 a7 a8 a9 a10 a11 a12 a13 a14 a15 a16 a17 a18 a19 a20 a21 a22 a23 y : α} {l : List α} : (a0 :: a1 :: a2 :: a3 :: a4 :: a5 :: a6 :: a7 :: a8 :: a9 :: a10 :: a11 :: a12 :: a13 :: a14 :: a15 :: a16 :: a17 :: a18 :: a19 :: a20 :: a21 :: a22 :: a23 :: l).set 23 y = a0 :: a1 :: a2 :: a3 :: a4 :: a5 :: a6 :: a7 :: a8 :: a9 :: a10 :: a11 :: a12 :: a13 :: a14 :: a15 :: a16 :: a17 :: a18 :: a19 :: a20 :: a21 :: a22 :: y :: l := rfl
theorem set_h24 {α : Type} {a0 a1 a2 a3 a4 a5 a6 a7 a8 a9 a10 a11 a12 a13 a14 a15 a16 a17 a18 a19 a20 a21 a22 a23 a24 y : α} {l : List α} : (a0 :: a1 :: a2 :: a3 :: a4 :: a5 :: a6 :: a7 :: a8 :: a9 :: a10 :: a11 :: a12 :: a13 :: a14 :: a15 :: a16 :: a17 :: a18 :: a19 :: a20 :: a21 :: a22 :: a23 :: a24 :: l).set 24 y = a0 :: a1 :: a2 :: a3 :: a4 :: a5 :: a6 :: a7 :: a8 :: a9 :: a10 :: a11 :: a12 :: a13 :: a14 :: a15 :: a16 :: a17 :: a18 :: a19 :: a20 :: a21 :: a22 :: a23 :: y :: l := rfl
theorem set_h25 {α : Type} {a0 a1 a2 a3 a4 a5 a6 a7 a8 a9 a10 a11 a12 a13 a14 a15 a16 a17 a18 a19 a20 a21 a22 a23 a24 a25 y : α} {l : List α} : (a0 :: a1 :: a2 :: a3 :: a4 :: a5 :: a6 :: a7 :: a8 :: a9 :: a10 :: a11 :: a12 :: a13 :: a14 :: a15 :: a16 :: a17 :: a18 :: a19 :: a20 :: a21 :: a22 :: a23 :: a24 :: a25 :: l).set 25 y = a0 :: a1 :: a2 :: a3 :: a4 :: a5 :: a6 :: a7 :: a8 :: a9 :: a10 :: a11 :: a12 :: a13 :: a14 :: a15 :: a16 :: a17 :: a18 :: a19 :: a20 :: a21 :: a22 :: a23 :: a24 :: y :: l := rfl
end PL
set_option Elab.async false
set_option linter.all false
set_option maxRecDepth 100000
namespace PL
open PySem PySem.Spec PyProof.Rows L2
section
variable {X : Cx} {a b c e : Expr} {ta tb tc te to : PTE} {pos p : Pos} {es : List Expr} {t : PTA} {x : Str}
/-! ### what never changes from now on, in the midst of an expression -/
def pFzE (te : PTE) : PTE := fun E σ M Q => te E σ M fun x M1 => kFz x M1 Q
theorem LE.fz (he : LE X e te) : LE X e (pFzE te) := by
  refine ⟨fun σv H σ F M Q E tk rm rs h => ?_⟩
  refine (he.run σv H σ F M _ E tk rm rs h).mono ?_
  rintro v H1 ⟨F1, M1, x, b1, rx, hx⟩
  exact LQ.tr b1 (R.fz b1.rm rx hx)
theorem w_fzE {E : PXK} {σ : PSt} {M : Mem} {Q : PQ} (h : te E σ M fun x M1 => kFz x M1 Q) : pFzE te E σ M Q := h
theorem w_fzP {p : Addr} {xs : List PV} {M : Mem} {Q : PQ} (e : M p = some (.lst xs)) (h : Q (.lst xs) (M.drop p)) : kFz (.ptr p) M Q := by rw [fz_ptr e]; exact h
/-! ### list(range(n)) -/
def kLstRg (x : PV) (M : Mem) (Q : PQ) : Prop := match x with | .int j => (0 ≤ j ∧ j ≤ 16777216) ∧ ∀ p, M p = none → Q (.ptr p) (M.put p (.lst (rngP 0 j.toNat))) | _ => False
def pLstRg (te : PTE) : PTE := fun E σ M Q => te E σ M fun x M1 => kLstRg x M1 Q
theorem w_lstRg {E : PXK} {σ : PSt} {M : Mem} {Q : PQ} (h : te E σ M fun x M1 => kLstRg x M1 Q) : pLstRg te E σ M Q := h
/-! ### xs.pop(i) of a list that may change -/
def kPop (o i : PV) (M : Mem) (Q : PQ) : Prop := match o, i with
  | .ptr p, .int k => match M p with
    | some (.lst xs) => (0 ≤ k ∧ k < xs.length ∧ xs.length < 2 ^ 62) ∧ need xs[k.toNat]? fun y => Q y (M.put p (.lst (xs.eraseIdx k.toNat)))
    | _ => False
  | _, _ => False
def pPop (to te : PTE) : PTE := fun E σ M Q => to E σ M fun o M1 => lstOf M1 o ≠ none ∧ te E σ M1 fun i M2 => kPop o i M2 Q
theorem w_pop {E : PXK} {σ : PSt} {M : Mem} {Q : PQ} (h : to E σ M fun o M1 => lstOf M1 o ≠ none ∧ te E σ M1 fun i M2 => kPop o i M2 Q) : pPop to te E σ M Q := h
/-! ### sorted(xs) of ints -/
def kSort (x : PV) (M : Mem) (Q : PQ) : Prop := need (lstOf M x) fun xs => need (intsOf xs) fun ns => ∀ ns' : List Int, ns'.Perm ns → ns'.Pairwise (· ≤ ·) → Q (.lst (ns'.map .int)) M
theorem rall_intsV {K : PySem.W.Frag} {F : Hp} : ∀ ns : List Int, RAll K F (ns.map PV.int) (ns.map V.int)
  | [] => .nil
  | n :: r => .cons (.int n) (rall_intsV r)
theorem LE.sorted (hg : Gl X "sorted") (hm : X.mg "sorted" = none) (ha : LA X [e] t) (he : starEach [e] X.env = (false, eval e X.env) :: starEach [] X.env := by rfl) : LE X (.Call (.Name "sorted" p) [e] [] pos) (pCallB (on1 kSort) t) := by
  refine LE.callB cr_sortedI (fun F M H xs vs Q Qv rm rx h k => ?_) hg hm (by decide +kernel) ha (he := he)
  obtain ⟨x, ex, h1⟩ := on1_of h
  subst ex
  obtain ⟨v, ev, rx1⟩ := rx.one
  subst ev
  obtain ⟨ys, e1, h2⟩ := need_of h1
  obtain ⟨ns, e2, h3⟩ := need_of h2
  obtain ⟨q, ws, ev, hs, ra⟩ := rx1.lstI rm e1
  subst ev
  rw [intsOf_eq e2] at ra
  rw [ra.intsI] at hs
  refine ⟨q, ns, rfl, hs, fun ns' l h5 h6 nl => k _ _ ⟨_, M, _, rm.beh nl, .lst upd_same (rall_intsV ns'), h3 ns' h5 h6⟩⟩
/-! ### xs[::-1] of a list -/
def kRev (x : PV) (M : Mem) (Q : PQ) : Prop := need (lstOf M x) fun xs => Q (.lst xs.reverse) M
def pRev (te : PTE) : PTE := fun E σ M Q => te E σ M fun x M1 => kRev x M1 Q
theorem RAll.rev {K : PySem.W.Frag} {F : Hp} : ∀ {xs : List PV} {vs : List V}, RAll K F xs vs → RAll K F xs.reverse vs.reverse
  | _, _, .nil => .nil
  | _, _, .cons h r => by
    rw [List.reverse_cons, List.reverse_cons]
    exact (RAll.rev r).append (.cons h .nil)
theorem LE.revL {k : Nat} {p1 p2 p3 : Pos} (he : LE X e te) : LE X (.Subscript e (.Slice none none (some (.UnaryOp .USub (.Constant (.int 1) k p1) p2)) p3) pos) (pRev te) := by
  refine ⟨fun σv H σ F M Q E tk rm rs h => WE.of (pe_revL WE.pe) ?_⟩
  refine (he.run σv H σ F M _ E tk rm rs h).mono ?_
  rintro v H1 ⟨F1, M1, x, b1, rx, hx⟩
  obtain ⟨xs, e1, h2⟩ := need_of hx
  obtain ⟨q, ws, ev, hs, ra⟩ := rx.lstI b1.rm e1
  subst ev
  exact ⟨q, ws, rfl, hs, fun l nl => ⟨_, M1, _, b1.trans (b1.rm.beh nl), .lst upd_same (ra.rev.same (b1.rm.beh (o := .lst ws.reverse) nl).sm), h2⟩⟩
theorem w_rev {E : PXK} {σ : PSt} {M : Mem} {Q : PQ} (h : te E σ M fun x M1 => kRev x M1 Q) : pRev te E σ M Q := h
theorem w_revL {xs : List PV} {M : Mem} {Q : PQ} (h : Q (.lst xs.reverse) M) : kRev (.lst xs) M Q := h
/-! ### x in t, a tuple -/
def inP (x y : PV) (k : Bool → Prop) : Prop := match y with
  | .tup ys => need (toD x) fun d => need (toDs ys) fun ds => d.depth ≤ 64 ∧ k (ds.any fun z => PyData.eqv z d)
  | _ => False
def oIn : PO2 := fun x y M Q => inP x y fun b => Q (.bl b) M
def oNin : PO2 := fun x y M Q => inP x y fun b => Q (.bl (!b)) M
def rInT (K : PySem.W.Frag) (f : Bool → Bool) : R2 := fun x y H Q => ∃ d ds, Dp K H x d ∧ Dp K H y (.tuple ds) ∧ d.canLay0 = true ∧ PyData.canLayAll0 ds = true ∧ d.depth ≤ 64 ∧ Q (.bl (f (ds.any fun z => PyData.eqv z d))) H
/-! ### for .. else -/
def pForEL (g : PTG) (tb u : PTS) : List PV → PTS
  | [] => fun D σ M => u D σ M
  | x :: xs => fun D σ M => g x σ M fun σ1 M1 => tb { D with nx := pForEL g tb u xs D, bk := D.nx, ct := pForEL g tb u xs D } σ1 M1
def pForE (wi : PTI) (g : PTG) (tb u : PTS) : PTS := fun D σ M => wi D.ex σ M fun xs M1 => pForEL g tb u xs D σ M1
theorem w_forE {wi : PTI} {g : PTG} {tb u : PTS} {dn db dc : PNx} {dr : PQ} {de : PXK} {σ : PSt} {M : Mem} (h : wi de σ M fun xs M1 => pForEL g tb u xs (PEnds.mk dn dr de db dc) σ M1) : pForE wi g tb u (PEnds.mk dn dr de db dc) σ M := h
/-! ### a number that stands in the text's own names -/
theorem LE.globI {x : Str} {i : Int} (hg : Gl X x) (hm : ∃ t, X.mg x = some (.int i t)) (hd : (x == ("__debug__" : Str)) = false := by decide) : LE X (.Name x pos) (pC (.int i)) := by
  refine ⟨fun σv H σ F M Q E tk rm rs h => ?_⟩
  obtain ⟨t, hm⟩ := hm
  exact WE.of (pe_glob (v := .int i) hg hm ⟨t, rfl⟩ hd) (LQ.now rm (.int i) h)
/-! ### a place among those of a list, dropped behind a loop's turn -/
theorem Room.units65 {k : Nat} {A : Around} (r : Room k A) : A.units + 65 < cLine := by have := r.un; omega
/-! ### a, b = x, y -/
def kPar (i j : Nat) (σ : PSt) (dn : PNx) (xs : List PV) (M : Mem) : Prop := match xs with
  | [x, y] => dn ((σ.set i (some x)).set j (some y)) M
  | _ => False
def pPar (i j : Nat) (ta : PTA) : PTS := fun D σ M => ta D.ex σ M fun xs M1 => kPar i j σ D.nx xs M1
theorem w_kpar {i j : Nat} {x y : PV} {σ σ1 σ2 : PSt} {dn : PNx} {M : Mem} (e1 : σ.set i (some x) = σ1) (e2 : σ1.set j (some y) = σ2) (h : dn σ2 M) : kPar i j σ dn [x, y] M := by
  subst e1
  subst e2
  exact h
theorem LS.par {y : Str} {e1 e2 : Expr} {px py pt : Pos} {kt k2 pt2} (i j : Nat) {ta : PTA} (hc : X.calm = true) (hN : X.N.Nodup) (hij : i ≠ j) (ha : LA X [e1, e2] ta)
    (hw : swappedStores [.Tuple [.Name x px, .Name y py] kt pt] (.Tuple [e1, e2] k2 pt2) X.env = pure (some [x, y])) (hi : X.N[i]? = some x := by rfl) (hj : X.N[j]? = some y := by rfl)
    (hx : X.env.scope.names.lookup x = some .local := by rfl) (hy : X.env.scope.names.lookup y = some .local := by rfl)
    (hs : swapsWithSole [.Tuple [.Name x px, .Name y py] kt pt] (.Tuple [e1, e2] k2 pt2) pos.line X.env = pure false := by rfl) :
    LS X (.Assign [.Tuple [.Name x px, .Name y py] kt pt] (.Tuple [e1, e2] k2 pt2) pos) (pPar i j ta) := by
  refine ⟨fun σv H σ F M D tk rm rs h => WS.of (ps_par hc hN hi hj hij hx hy WA.pa hw hs) ?_⟩
  refine (ha.run σv H σ F M _ D.ex tk rm rs h).mono ?_
  rintro vs H1 ⟨hl, F1, M1, xs, b1, ra, q⟩
  unfold kPar at q
  split at q
  · rename_i x y
    obtain ⟨v, w, rfl, r1, r2⟩ := ra.two
    exact ⟨v, w, rfl, F1, M1, _, b1, ((rs.same b1.sm).set i r1).set j r2, q⟩
  · exact q.elim
theorem w_par {i j : Nat} {ta : PTA} {dn db dc : PNx} {dr : PQ} {de : PXK} {σ : PSt} {M : Mem} (h : ta de σ M fun xs M1 => kPar i j σ dn xs M1) : pPar i j ta (PEnds.mk dn dr de db dc) σ M := h
end
end PL
set_option Elab.async false
set_option linter.all false
set_option maxRecDepth 100000
namespace PL
open PySem PySem.Spec PyProof.Rows L2
section
variable {X : Cx} {a b c e : Expr} {ta tb tc te to : PTE} {pos p : Pos} {es : List Expr} {t : PTA} {x : Str}
/-! ### [..] * n, a list of its own -/
def oRepP : PO2 := fun x y M Q => match x, y with
  | .ptr p, .int k => match M p with
    | some (.lst xs) => (0 ≤ k ∧ k < 2 ^ 62) ∧ xs.length * k.toNat ≤ sizeLine ∧ Q (.lst (List.replicate k.toNat xs).flatten) M
    | _ => False
  | _, _ => False
end
end PL
set_option Elab.async false
set_option linter.all false
set_option maxRecDepth 100000
namespace HT
open PySem PySem.Spec PyProof.Rows
section
variable {prog : Program} {w : World} {A : Around} {E : Value → Shared → Prop} {s : Shared}
theorem places_rev (n : Nat) : Builtin.Slice.slicePlaces ((n : Int) - 1) (-1) (-1) = n := by
  unfold Builtin.Slice.slicePlaces
  have h1 : ¬ ((-1 : Int) > 0) := by omega
  simp only [h1, if_false]
  split
  · rw [show (- -1 : Int) = 1 from rfl, Int.ediv_one]
    omega
  · omega
theorem adjust_rev (n : Nat) : Builtin.Slice.sliceAdjust none none (-1) (n : Int) = ((n : Int) - 1, -1) := by
  unfold Builtin.Slice.sliceAdjust
  have h1 : ((-1 : Int) < 0) := by omega
  simp only [h1, if_true]
theorem sliceApplied_rev {sl : Addr} {vs : Value} {n : Nat} {Q : Int × Int × Nat → Shared → Prop} (hs : s.heap.IsSliceOf sl .none .none vs) (ps : IsPart vs (some (-1)))
    (h : Q ((n : Int) - 1, -1, n) s) : wpAny (model prog w) A (Builtin.Slice.sliceApplied (.ref sl) (pure (n : Int))) Q E s := by
  obtain ⟨os, hos, hcs, hds⟩ := id hs
  unfold Builtin.Slice.sliceApplied Builtin.Slice.sliceFields
  refine wpAny_bind (wpAny_bind (wpAny_field hos hds (x := .none) rfl (wpAny_bind (wpAny_field hos hds (x := .none) rfl (wpAny_bind (wpAny_field hos hds (x := vs) rfl (wpAny_pure ?_)))))))
  refine wpAny_bind (slicePart_ ps ?_)
  show wpAny _ _ (if ((-1 : Int) == 0) = true then _ else _) _ _ s
  rw [if_neg (by decide)]
  refine wpAny_bind (slicePart_none (wpAny_bind (slicePart_none (wpAny_bind (wpAny_pure ?_)))))
  show wpAny _ _ (match Builtin.Slice.sliceAdjust none none (-1) (n : Int) with | (lo, hi) => pure (lo, (-1 : Int), Builtin.Slice.slicePlaces lo hi (-1))) _ _ s
  rw [adjust_rev n]
  show wpAny _ _ (pure ((n : Int) - 1, (-1 : Int), Builtin.Slice.slicePlaces ((n : Int) - 1) (-1) (-1))) _ _ s
  rw [places_rev]
  exact wpAny_pure h
theorem fm_congr {α β : Type} {f g : α → Option β} : ∀ l : List α, (∀ k ∈ l, f k = g k) → l.filterMap f = l.filterMap g
  | [], _ => rfl
  | a :: l, h => by
    have ih := fm_congr l fun k hk => h k (List.mem_cons_of_mem _ hk)
    rw [List.filterMap_cons, List.filterMap_cons, h a List.mem_cons_self, ih]
theorem pick_rev (xs : Array Value) : ((List.range xs.size).filterMap fun (m : Nat) => xs[((xs.size : Int) - 1 + (m : Int) * (-1)).toNat]?).toArray = xs.toList.reverse.toArray := by
  congr 1
  apply List.ext_getElem?
  intro i
  have e : ∀ k ∈ List.range xs.size, (fun (m : Nat) => xs[((xs.size : Int) - 1 + (m : Int) * (-1)).toNat]?) k = some (xs.toList.reverse.getD k Value.none) := by
    intro k hk
    rw [List.mem_range] at hk
    show xs[((xs.size : Int) - 1 + (k : Int) * (-1)).toNat]? = _
    have h1 : ((xs.size : Int) - 1 + (k : Int) * (-1)).toNat = xs.size - 1 - k := by omega
    rw [h1]
    have h2 : k < xs.toList.reverse.length := by rw [List.length_reverse, Array.length_toList]; exact hk
    have h3 : xs.size - 1 - k < xs.toList.length := by rw [Array.length_toList]; omega
    rw [List.getD_eq_getElem?_getD, List.getElem?_reverse (by rw [Array.length_toList]; exact hk), Array.length_toList, ← Array.getElem?_toList, List.getElem?_eq_getElem h3]
    rfl
  rw [fm_congr _ e]
  have e2 : (List.range xs.size).filterMap (fun k => some (xs.toList.reverse.getD k Value.none)) = (List.range xs.size).map fun k => xs.toList.reverse.getD k Value.none := by
    rw [← List.filterMap_eq_map]
    rfl
  rw [e2]
  have e3 : (List.range xs.size).map (fun k => xs.toList.reverse.getD k Value.none) = xs.toList.reverse := by
    have hl : xs.toList.reverse.length = xs.size := by rw [List.length_reverse, Array.length_toList]
    rw [← hl]
    apply List.ext_getElem
    · rw [List.length_map, List.length_range]
    · intro j h1 h2
      rw [List.getElem_map, List.getElem_range, List.getD_eq_getElem?_getD, List.getElem?_eq_getElem h2]
      rfl
  rw [e3]
theorem getItem_tuple_rev {t sl : Addr} {items : Array Value} {vs : Value} {Q : Value → Shared → Prop} (ht : IsTup s.heap t items) (hs : s.heap.IsSliceOf sl .none .none vs) (ps : IsPart vs (some (-1)))
    (h : Q (.ref s.heap.objs.size) { s with heap := s.heap.push { cls := .type "tuple", data := .seq items.toList.reverse.toArray } })
    (hsz : items.size ≤ sizeLine) : wpAny (model prog w) A (getItem (.ref t) (.ref sl)) Q E s := by
  have htake : sizeOk (.seq items.toList.reverse.toArray) := by
    show items.toList.reverse.toArray.size ≤ sizeLine
    rw [List.size_toArray, List.length_reverse, Array.length_toList]
    exact hsz
  obtain ⟨os, hos, hcs, hds⟩ := id hs
  have hTs : s.TypeIs (.ref sl) "slice" := ⟨os, hos, hcs⟩
  unfold getItem
  try with_reducible refine wpAny_holding ?_
  first | refine wpAny_bind (wpAny_pure ?_) | skip
  refine wpAny_bind (wpAny_sequenceKey ht.typeIs (by decide) ?_)
  refine wpAny_bind (wpAny_callSpecial?_slot (name := Str.ofString "__getitem__") ht.typeIs PyProof.Rows.slot_tuple_getitem
    (wpAny_call_entry PyProof.Rows.slot_tuple_getitem ht.typeIs entry_tuple_getitem ?_ (args_tuple_getitem _ _)))
  show wpAny _ _ (Builtin.Tuple.tupleItemsOf (.ref t) >>= _) _ _ s
  refine wpAny_bind (tupleItemsOf_ ht ?_)
  refine wpAny_bind (wpAny_typeOf hTs ?_)
  rw [if_pos (by decide)]
  refine wpAny_bind (sliceApplied_rev hs ps ?_)
  have hno : ¬ ((((items.size : Int) - 1) == 0 && (-1 : Int) == 1 && items.size == items.size) = true) := by
    intro q
    rw [Bool.and_eq_true, Bool.and_eq_true] at q
    have q1 : (-1 : Int) = 1 := eq_of_beq q.1.2
    omega
  show wpAny _ _ (if (((items.size : Int) - 1) == 0 && (-1 : Int) == 1 && items.size == items.size) = true then _ else _) _ _ s
  rw [if_neg hno, pick_rev]
  first
    | exact wpAny_bind (m := Builtin.Tuple.tupleExact _) (wpAny_newObj_type (wpAny_pure ⟨_, rfl, wpAny_pure h⟩) htake)
    | exact wpAny_bind (m := Builtin.Tuple.tupleExact _) (wpAny_newObj_type (wpAny_bind (wpAny_pure (wpAny_pure ⟨_, rfl, wpAny_pure h⟩))) htake)
    | exact wpAny_bind (wpAny_bind (m := Builtin.Tuple.tupleExact _) (wpAny_newObj_type (wpAny_pure (wpAny_pure ⟨_, rfl, wpAny_pure h⟩)) htake))
    | exact wpAny_bind (wpAny_bind (m := Builtin.Tuple.tupleExact _) (wpAny_newObj_type (wpAny_pure ⟨_, rfl, wpAny_pure h⟩) htake))
end
end HT
namespace PL
open PySem PySem.Spec PyProof.Rows L2
section
variable {X : Cx} {a b c e : Expr} {ta tb tc te to : PTE} {pos p : Pos} {es : List Expr} {t : PTA} {x : Str}
/-! ### t[::-1] of a tuple -/
def kRevT (x : PV) (M : Mem) (Q : PQ) : Prop := need (tupF x) fun xs => Q (.tup xs.reverse) M
def pRevT (te : PTE) : PTE := fun E σ M Q => te E σ M fun x M1 => kRevT x M1 Q
def tRevT (K : PySem.W.Frag) (te : TE) : TE := fun σ H Q => te σ H fun x H1 => ∃ a xs, x = .ref a ∧ SqT K H1 a xs ∧ ∀ p, H1 p = none → Q (.ref p) (upd H1 p (.tup xs.reverse))
theorem pe_revT {te : TE} {k : Nat} {p1 p2 p3 : Pos} (he : PE X e te) : PE X (.Subscript e (.Slice none none (some (.UnaryOp .USub (.Constant (.int 1) k p1) p2)) p3) pos) (tRevT X.K te) := by
  refine ⟨fun pins s σ H Q I h => ?_⟩
  refine Subscript_ (thn (he.run pins s σ H _ I h) fun v s1 ⟨x, H1, I1, r1, q1⟩ => ?_)
  obtain ⟨a, xs, ex, hx, q⟩ := q1
  subst ex
  cases r1
  have hst : PO X (some (.UnaryOp .USub (.Constant (.int 1) k p1) p2)) (tPart (tUn (rU fun i => .int (-i)) (tC (.int 1)))) := po_some (pe_un un_neg pe_int)
  refine wpAny_Slice (thn (po_none.run pins s1 σ H1 (fun o H2 => o = none ∧ H2 = H1) I1 ⟨rfl, rfl⟩) fun vl s2 ⟨l, H2, I2, pl, el, e2⟩ => ?_)
  subst el e2
  refine thn (po_none.run pins s2 σ H2 (fun o H3 => o = none ∧ H3 = H2) I2 ⟨rfl, rfl⟩) fun vu s3 ⟨u, H3, I3, pu, eu, e3⟩ => ?_
  subst eu e3
  refine thn (hst.run pins s3 σ H3 (fun o H4 => o = some (-1) ∧ H4 = H3) I3 ⟨1, rfl, -1, rfl, rfl, rfl⟩) fun vs s4 ⟨o, H4, I4, ps, eo, e4⟩ => ?_
  subst eo e4
  cases pl
  cases pu
  have I5 : Inv X pins σ H4 { s4 with heap := s4.heap.push { cls := .type "slice", data := .fields #[.none, .none, vs] } } := I4.kept (t' := s4.toks) fun b ob q => Heap.get?_push_of_some _ q
  obtain ⟨its, r, ht, hz⟩ := I5.tuple hx
  have hlen := r.length
  show wpAny (model X.prog X.w) X.A (subscriptTail e (.Slice none none (some (.UnaryOp .USub (.Constant (.int 1) k p1) p2)) p3) (.ref a) (.ref s4.heap.objs.size)) (EP X pins σ Q) X.xe { s4 with heap := s4.heap.push { cls := .type "slice", data := .fields #[.none, .none, vs] } }
  refine tail_any (ops := [.ref a, .ref s4.heap.objs.size]) ht.typeIs (PyProof.Rows.slot_tuple_getitem.lookup) ?_ (by with_unfolding_all rfl)
  refine HT.getItem_tuple_rev ht (Heap.IsSliceOf.new _ .none .none vs) ps ?_ (by rw [List.size_toArray]; omega)
  refine ⟨.ref _, _, I5.laid (t' := s4.toks) (o := .tup xs.reverse) (fun b ob q => Heap.get?_push_of_some _ q) (Nat.le_refl _) ?_, rfl, q _ (I5.hok.fresh (Nat.le_refl _))⟩
  exact ⟨by rw [List.length_reverse]; exact hz, _, r.reverse, IsTup.new _ _⟩
theorem LE.revT {k : Nat} {p1 p2 p3 : Pos} (he : LE X e te) : LE X (.Subscript e (.Slice none none (some (.UnaryOp .USub (.Constant (.int 1) k p1) p2)) p3) pos) (pRevT te) := by
  refine ⟨fun σv H σ F M Q E tk rm rs h => WE.of (pe_revT WE.pe) ?_⟩
  refine (he.run σv H σ F M _ E tk rm rs h).mono ?_
  rintro v H1 ⟨F1, M1, x, b1, rx, hx⟩
  obtain ⟨xs, e1, h2⟩ := need_of hx
  cases rx with
  | tup q ra =>
    cases e1
    exact ⟨_, _, rfl, sqT_same b1.rm.fr q, fun l nl => ⟨_, M1, _, b1.trans (b1.rm.beh nl), .tup (SqT.of upd_same) (ra.rev.same (b1.rm.beh (o := .tup _) nl).sm), h2⟩⟩
  | _ => cases e1
theorem w_revTt {xs : List PV} {M : Mem} {Q : PQ} (h : Q (.tup xs.reverse) M) : kRevT (.tup xs) M Q := h
/-! ### == of data, lists that may change among them -/
def toM (M : Mem) : PV → Option PyData
  | .ptr a => match M a with | some (.lst xs) => (toDs xs).map .list | _ => none
  | x => toD x
def oEqM : PO2 := fun x y M Q => need (toM M x) fun d => need (toM M y) fun e => d.depth ≤ 64 ∧ e.depth ≤ 64 ∧ Q (.bl (PyData.eqv d e)) M
def oNeM : PO2 := fun x y M Q => need (toM M x) fun d => need (toM M y) fun e => d.depth ≤ 64 ∧ e.depth ≤ 64 ∧ Q (.bl (!PyData.eqv d e)) M
theorem toM_dp {K : PySem.W.Frag} {F H : Hp} {M : Mem} (rm : RM K F M H) {x : PV} {v : V} {d : PyData} (r : R K F x v) (h : toM M x = some d) : Dp K H v d ∧ d.canLay0 = true := by
  cases x with
  | ptr a =>
    have h' : (match M a with | some (.lst xs) => (toDs xs).map PyData.list | _ => none) = some d := h
    cases r
    split at h'
    · rename_i xs hm
      obtain ⟨q, ws, ev, hs, ra⟩ := R.lstI (x := .ptr a) rm (.ptr a) (lstOf_ptr hm)
      cases ev
      cases e : toDs xs with
      | none => rw [e] at h'; cases h'
      | some ds =>
        rw [e] at h'
        cases h'
        obtain ⟨a1, a2⟩ := toDs_dp rm.fr xs ws ds ra e
        exact ⟨.lst hs a1, by simpa [PyData.canLay0] using a2⟩
    · cases h'
  | _ => exact toD_dp rm.fr _ v d r h
/-! ### what was there stays -/
def Ext (M M' : Mem) : Prop := ∀ b, M b ≠ none → M' b = M b
theorem Ext.refl {M : Mem} : Ext M M := fun _ _ => rfl
theorem Ext.put {M : Mem} {p : Addr} {o : MO} (h : M p = none) : Ext M (M.put p o) := fun b hb => put_ne fun e => hb (by rw [e]; exact h)
theorem Ext.trans {M M1 M2 : Mem} (a : Ext M M1) (b : Ext M1 M2) : Ext M M2 := fun c hc => by rw [b c (by rw [a c hc]; exact hc), a c hc]
end
end PL
set_option Elab.async false
set_option linter.all false
set_option maxRecDepth 100000
namespace SrtO
open PySem PySem.Spec PyProof.Rows
section
variable {prog : Program} {w : World} {A : Around} {E : Value → Shared → Prop} {s : Shared}
end
end SrtO
namespace PL
open PySem PySem.Spec PyProof.Rows L2
section
variable {X : Cx} {a b c e : Expr} {ta tb tc te to : PTE} {pos p : Pos} {es : List Expr} {t : PTA} {x : Str}
def rSortedT (K : PySem.W.Frag) : List V → Hp → VK → Prop := fun vs H Q => ∃ (a : Addr) (ns : List Int), vs = [V.ref a] ∧ SqT K H a (ns.map V.int) ∧
  ∀ (ns' : List Int) (p : Addr), ns'.Perm ns → ns'.Pairwise (· ≤ ·) → H p = none → Q (.ref p) (upd H p (.lst (ns'.map V.int)))
def kSortT (x : PV) (M : Mem) (Q : PQ) : Prop := need (tupF x) fun xs => need (intsOf xs) fun ns => ∀ ns' : List Int, ns'.Perm ns → ns'.Pairwise (· ≤ ·) → Q (.lst (ns'.map .int)) M
end
end PL
set_option Elab.async false
set_option linter.all false
set_option maxRecDepth 100000
namespace PL
open PySem PySem.Spec PyProof.Rows L2
section
variable {X : Cx} {a b c e : Expr} {ta tb tc te to : PTE} {pos p : Pos} {es : List Expr} {t : PTA} {x : Str}
/-! ### xs + ys of lists, those that may change among them -/
def lstM (M : Mem) : PV → Option (List PV)
  | .lst xs => some xs
  | .ptr a => match M a with | some (.lst xs) => some xs | _ => none
  | _ => none
theorem R.lstM {K : PySem.W.Frag} {F H : Hp} {M : Mem} {x : PV} {v : V} {xs : List PV} (rm : RM K F M H) (r : R K F x v) (h : lstM M x = some xs) : ∃ a vs, v = .ref a ∧ H a = some (.lst vs) ∧ RAll K F xs vs := by
  cases r with
  | lst e q => cases h; exact ⟨_, _, rfl, rm.fr _ _ e, q⟩
  | ptr a =>
    cases hm : M a with
    | none =>
      have h' : (match M a with | some (.lst xs) => some xs | _ => none) = some xs := h
      rw [hm] at h'
      cases h'
    | some m =>
      have h' : (match M a with | some (.lst xs) => some xs | _ => none) = some xs := h
      rw [hm] at h'
      cases m with
      | lst ys =>
        cases h'
        obtain ⟨u, e, ru⟩ := rm.mu _ _ hm
        cases ru with
        | lst ru => exact ⟨_, _, rfl, e, ru⟩
      | _ => cases h'
  | _ => cases h
def oAddL : PO2 := fun x y M Q => need (lstM M x) fun xs => need (lstM M y) fun ys => xs.length + ys.length ≤ sizeLine ∧ Q (.lst (xs ++ ys)) M
/-! ### xs += ys of a list that may change -/
def oExt : PO2 := fun x y M Q => match x with
  | .ptr p => match M p with
    | some (.lst xs) => need (lstM M y) fun ys => xs.length + ys.length ≤ sizeLine ∧ Q (.ptr p) (M.put p (.lst (xs ++ ys)))
    | _ => False
  | _ => False
theorem pop_ext {K : PySem.W.Frag} : POp K rExt2 oExt := by
  intro F M H x y xv yv Q Qv rm rx ry h k
  unfold oExt at h
  split at h
  · rename_i p
    split at h
    · rename_i xs hm
      obtain ⟨ys, e2, h⟩ := need_of h
      obtain ⟨b', ws, ew, hs2, rb⟩ := R.lstM rm ry e2
      obtain ⟨u, e3, ru⟩ := rm.mu _ _ hm
      cases rx
      cases ru with
      | lst ru =>
        refine ⟨p, b', _, _, rfl, ew, e3, hs2, by rw [← ru.length, ← rb.length]; exact h.1, k _ _ ⟨F, _, _, rm.behWrite (o := .lst _) hm (.lst (ru.append rb)), .ptr p, h.2⟩⟩
    · exact h.elim
  · exact h.elim
theorem LS.augExt (i : Nat) {pos' : Pos} (hN : X.N.Nodup) (he : LE X e te) (hi : X.N[i]? = some x := by rfl) (hx : Loc X.env.scope x := by first | exact .inl rfl | exact .inr rfl)
    (hf : X.fn x = true ∨ X.env.scope.names.lookup x = some .local := by first | exact .inl rfl | exact .inr rfl) : LS X (.AugAssign (.Name x pos') .Add e pos) (pAug i oExt te) := LS.aug i iop_ext pop_ext hN he hi hx hf
theorem w_ext {p : Addr} {y : PV} {xs ys : List PV} {M : Mem} {Q : PQ} (e1 : M p = some (.lst xs)) (e2 : lstM M y = some ys) (c : xs.length + ys.length ≤ sizeLine) (h : Q (.ptr p) (M.put p (.lst (xs ++ ys)))) : oExt (.ptr p) y M Q := by
  show (match M p with | some (.lst xs) => _ | _ => False)
  rw [e1]
  exact need_by e2 ⟨c, h⟩
end
/-! ### max(xs) of a list of ints -/
section
variable {prog : Program} {w : World} {A : Around} {E : Value → Shared → Prop} {s : Shared} {l : Addr}
end
def kMaxL (x : PV) (M : Mem) (Q : PQ) : Prop := need (lstOf M x) fun xs => need (intsOf xs) fun ns => 0 < ns.length ∧ ∀ m, m ∈ ns → (∀ y, y ∈ ns → y ≤ m) → Q (.int m) M
section
variable {X : Cx} {a b c e : Expr} {ta tb tc te : PTE} {pos p p2 pos2 : Pos} {es : List Expr} {t : PTA} {x : Str}
end
end PL
set_option Elab.async false
set_option linter.all false
set_option maxRecDepth 100000
namespace PL
open PySem PySem.Spec PyProof.Rows L2
section
variable {X : Cx} {a b c e tg : Expr} {ta tb tc te to : PTE} {pos p : Pos} {es : List Expr} {t : PTA} {x : Str}
/-! ### shifts and bits -/
abbrev oShl := oI CPow fun i j => .int (i * 2 ^ j.toNat)
abbrev oShr := oI (fun _ j => 0 ≤ j) fun i j => .int (i / 2 ^ j.toNat)
abbrev oBand := oI0 fun i j => .int (Builtin.bitAnd i j)
abbrev oBor := oI0 fun i j => .int (Builtin.bitOr i j)
abbrev oBxor := oI0 fun i j => .int (Builtin.bitXor i j)
/-! ### zip of two frozen lists, or of two tuples -/
def zipP (xs ys : List PV) : List PV := (xs.zip ys).map fun p => .tup [p.1, p.2]
theorem zipP_at {xs ys : List PV} {i : Nat} {x y : PV} (e : xs[i]? = some x) (e' : ys[i]? = some y) : (zipP xs ys)[i]? = some (.tup [x, y]) := by
  unfold zipP
  rw [List.getElem?_map, List.zip_eq_zipWith, List.getElem?_zipWith, e, e']
  rfl
theorem stab_zip {K : PySem.W.Frag} {F : Hp} {a b : Addr} {xs ys : List PV} {vs ws : List V} (h : SqL K F a vs) (r : RAll K F xs vs) (h' : SqL K F b ws) (r' : RAll K F ys ws) : Stab K (Itz K a b) F (zipP xs ys) := by
  intro i F' M H sm rm
  have hH : SqL K H a vs := rm.fr.seq (sm.seq h)
  have hH' : SqL K H b ws := rm.fr.seq (sm.seq h')
  have hl : (zipP xs ys).length = min xs.length ys.length := by unfold zipP; rw [List.length_map, List.length_zip]
  refine ⟨fun hi => ?_, fun hi => ⟨vs, ws, hH, hH', by rw [← r.length, ← r'.length]; omega⟩⟩
  have hi2 := hi
  rw [hl] at hi2
  obtain ⟨v, e, rv⟩ := r.get (List.getElem?_eq_getElem (show i < xs.length by omega))
  obtain ⟨w, e', rw'⟩ := r'.get (List.getElem?_eq_getElem (show i < ys.length by omega))
  refine ⟨⟨vs, ws, v, w, hH, hH', e, e'⟩, fun u H' y => ?_⟩
  obtain ⟨T, v1, w1, rfl, nT, rfl, y1, y2⟩ := y
  have e2 := y1 vs hH
  rw [e] at e2
  cases e2
  have e3 := y2 ws hH'
  rw [e'] at e3
  cases e3
  have eq : (zipP xs ys)[i] = .tup [xs[i], ys[i]] := by
    have z := zipP_at (List.getElem?_eq_getElem (show i < xs.length by omega)) (List.getElem?_eq_getElem (show i < ys.length by omega))
    rw [List.getElem?_eq_getElem hi] at z
    exact Option.some.inj z
  rw [eq]
  exact ⟨_, rm.beh nT, .tup (SqT.of upd_same) (.cons ((rv.same sm).same (rm.beh (o := .tup [v, w]) nT).sm) (.cons ((rw'.same sm).same (rm.beh (o := .tup [v, w]) nT).sm) .nil))⟩
theorem stab_zipT {K : PySem.W.Frag} {F : Hp} {a b : Addr} {xs ys : List PV} {vs ws : List V} (h : SqT K F a vs) (r : RAll K F xs vs) (h' : SqT K F b ws) (r' : RAll K F ys ws) : Stab K (RZ.ItzT K a b) F (zipP xs ys) := by
  intro i F' M H sm rm
  have hH : SqT K H a vs := sqT_same rm.fr (sqT_same sm h)
  have hH' : SqT K H b ws := sqT_same rm.fr (sqT_same sm h')
  have hl : (zipP xs ys).length = min xs.length ys.length := by unfold zipP; rw [List.length_map, List.length_zip]
  refine ⟨fun hi => ?_, fun hi => ⟨vs, ws, hH, hH', by rw [← r.length, ← r'.length]; omega⟩⟩
  have hi2 := hi
  rw [hl] at hi2
  obtain ⟨v, e, rv⟩ := r.get (List.getElem?_eq_getElem (show i < xs.length by omega))
  obtain ⟨w, e', rw'⟩ := r'.get (List.getElem?_eq_getElem (show i < ys.length by omega))
  refine ⟨⟨vs, ws, v, w, hH, hH', e, e'⟩, fun u H' y => ?_⟩
  obtain ⟨T, v1, w1, rfl, nT, rfl, y1, y2⟩ := y
  have e2 := y1 vs hH
  rw [e] at e2
  cases e2
  have e3 := y2 ws hH'
  rw [e'] at e3
  cases e3
  have eq : (zipP xs ys)[i] = .tup [xs[i], ys[i]] := by
    have z := zipP_at (List.getElem?_eq_getElem (show i < xs.length by omega)) (List.getElem?_eq_getElem (show i < ys.length by omega))
    rw [List.getElem?_eq_getElem hi] at z
    exact Option.some.inj z
  rw [eq]
  exact ⟨_, rm.beh nT, .tup (SqT.of upd_same) (.cons ((rv.same sm).same (rm.beh (o := .tup [v, w]) nT).sm) (.cons ((rw'.same sm).same (rm.beh (o := .tup [v, w]) nT).sm) .nil))⟩
def seqK : PV → Option (Bool × List PV)
  | .lst xs => some (false, xs)
  | .scr xs => some (false, xs)
  | .tup xs => some (true, xs)
  | _ => none
def piZ (ta tb : PTE) : PTI := fun E σ M Q => ta E σ M fun x M1 => tb E σ M1 fun y M2 => need (seqK x) fun p => need (seqK y) fun q => p.1 = q.1 ∧ Q (zipP p.2 q.2) M2
theorem R.seqK_lst {K : PySem.W.Frag} {F : Hp} {x : PV} {v : V} {xs : List PV} (r : R K F x v) (h : seqK x = some (false, xs)) : ∃ a vs, v = .ref a ∧ SqL K F a vs ∧ RAll K F xs vs := by
  cases r with
  | lst q s => cases h; exact ⟨_, _, rfl, SqL.of q, s⟩
  | scr q s => cases h; exact ⟨_, _, rfl, q, s⟩
  | _ => cases h
theorem R.seqK_tup {K : PySem.W.Frag} {F : Hp} {x : PV} {v : V} {xs : List PV} (r : R K F x v) (h : seqK x = some (true, xs)) : ∃ a vs, v = .ref a ∧ SqT K F a vs ∧ RAll K F xs vs := by
  cases r with
  | tup q s => cases h; exact ⟨_, _, rfl, q, s⟩
  | _ => cases h
theorem LI.zip {elts : List Expr} {kk : Nat} {tpos : Pos} (hg : Gl X "zip") (hm : X.mg "zip" = none) (ha : LE X a ta) (hb : LE X b tb)
    (hs : starEach [a, b] X.env = (false, eval a X.env) :: starEach [b] X.env := by rfl) (hs2 : starEach [b] X.env = [(false, eval b X.env)] := by rfl) :
    LI X (.Tuple elts kk tpos) (.Call (.Name "zip" p) [a, b] [] pos) (piZ ta tb) := by
  refine ⟨fun σv H σ F M Q E tk rm rs h => WI.of (RZ.pi_zipA hg hm (pa_cons WE.pe (pa_cons WE.pe pa_nil hs2) hs) hs (by rw [hs2]; rfl)) ?_⟩
  refine seq2 ha hb tk rm rs h fun x y xv yv F2 M2 H2 bh rx ry h2 => ?_
  obtain ⟨⟨k1, xs⟩, e1, h3⟩ := need_of h2
  obtain ⟨⟨k2, ys⟩, e2, h4⟩ := need_of h3
  obtain ⟨h5, h6⟩ := h4
  have h5' : k1 = k2 := h5
  subst h5'
  cases k1 with
  | false =>
    obtain ⟨a1, vs, rfl, q1, r1⟩ := rx.seqK_lst e1
    obtain ⟨a2, ws, rfl, q2, r2⟩ := ry.seqK_lst e2
    exact ⟨a1, a2, vs, ws, rfl, .inl ⟨bh.rm.fr.seq q1, bh.rm.fr.seq q2, F2, M2, _, bh, stab_zip q1 r1 q2 r2, h6⟩⟩
  | true =>
    obtain ⟨a1, vs, rfl, q1, r1⟩ := rx.seqK_tup e1
    obtain ⟨a2, ws, rfl, q2, r2⟩ := ry.seqK_tup e2
    exact ⟨a1, a2, vs, ws, rfl, .inr ⟨sqT_same bh.rm.fr q1, sqT_same bh.rm.fr q2, F2, M2, _, bh, stab_zipT q1 r1 q2 r2, h6⟩⟩
/-! ### reversed(range(n)) -/
def piRv (te : PTE) : PTI := fun E σ M Q => te E σ M fun x M1 => match x with | .int j => (0 ≤ j ∧ j < 2 ^ 62) ∧ Q (rngP 0 j.toNat).reverse M1 | _ => False
/-! ### tuple(range(n)) -/
def kTupRg (x : PV) (M : Mem) (Q : PQ) : Prop := match x with | .int j => (-1000000 < j ∧ j < 1000000) ∧ Q (.tup (rngP 0 j.toNat)) M | _ => False
def pTupRg (ta : PTE) : PTE := fun E σ M Q => ta E σ M fun x M1 => kTupRg x M1 Q
theorem w_tupRg {E : PXK} {σ : PSt} {M : Mem} {Q : PQ} (h : ta E σ M fun x M1 => kTupRg x M1 Q) : pTupRg ta E σ M Q := h
/-! ### steps of the walk -/
def kRv (x : PV) (M : Mem) (Q : List PV → Mem → Prop) : Prop := match x with | .int j => (0 ≤ j ∧ j < 2 ^ 62) ∧ Q (rngP 0 j.toNat).reverse M | _ => False
theorem w_rv {E : PXK} {σ : PSt} {M : Mem} {Q : List PV → Mem → Prop} (h : ta E σ M fun x M1 => kRv x M1 Q) : piRv ta E σ M Q := h
def kZ (x y : PV) (M : Mem) (Q : List PV → Mem → Prop) : Prop := need (seqK x) fun p => need (seqK y) fun q => p.1 = q.1 ∧ Q (zipP p.2 q.2) M
theorem w_z {E : PXK} {σ : PSt} {M : Mem} {Q : List PV → Mem → Prop} (h : ta E σ M fun x M1 => tb E σ M1 fun y M2 => kZ x y M2 Q) : piZ ta tb E σ M Q := h
theorem w_zL {xs ys : List PV} {M : Mem} {Q : List PV → Mem → Prop} (h : Q (zipP xs ys) M) : kZ (.lst xs) (.lst ys) M Q := ⟨rfl, h⟩
theorem w_zT {xs ys : List PV} {M : Mem} {Q : List PV → Mem → Prop} (h : Q (zipP xs ys) M) : kZ (.tup xs) (.tup ys) M Q := ⟨rfl, h⟩
theorem w_shr {i j : Int} {M : Mem} {Q : PQ} (hj : 0 ≤ j) (h : Q (.int (i / 2 ^ j.toNat)) M) : oShr (.int i) (.int j) M Q := ⟨hj, h⟩
end
end PL
set_option Elab.async false
set_option linter.all false
set_option maxRecDepth 100000
namespace PL
open PySem PySem.Spec PyProof.Rows L2
/-! ### min(t) of a tuple of ints -/
section
variable {prog : Program} {w : World} {A : Around} {E : Value → Shared → Prop} {s : Shared} {l : Addr}
end
def kMinT (x : PV) (M : Mem) (Q : PQ) : Prop := need (tupF x) fun xs => need (intsOf xs) fun ns => 0 < ns.length ∧ ∀ m, m ∈ ns → (∀ y, y ∈ ns → m ≤ y) → Q (.int m) M
section
variable {X : Cx} {a b c e : Expr} {ta tb tc te : PTE} {pos p p2 pos2 : Pos} {es : List Expr} {t : PTA} {x : Str}
end
/-! ### s.join(xs), xs a frozen list or a tuple of texts -/
def strsOf : List PV → Option (List Str)
  | [] => some []
  | .str x :: r => (strsOf r).map (x :: ·)
  | _ :: _ => none
theorem strsOf_eq : ∀ {xs : List PV} {ss : List Str}, strsOf xs = some ss → xs = ss.map PV.str
  | [], ss, h => by cases h; rfl
  | .str x :: r, ss, h => by
    cases e : strsOf r with
    | none => simp only [strsOf, e] at h; cases h
    | some t =>
      simp only [strsOf, e] at h
      cases h
      rw [strsOf_eq e]
      rfl
  | .non :: _, _, h => by cases h
  | .bl _ :: _, _, h => by cases h
  | .int _ :: _, _, h => by cases h
  | .ty _ :: _, _, h => by cases h
  | .tup _ :: _, _, h => by cases h
  | .lst _ :: _, _, h => by cases h
  | .scr _ :: _, _, h => by cases h
  | .obj _ _ :: _, _, h => by cases h
  | .ptr _ :: _, _, h => by cases h
  | .dct _ :: _, _, h => by cases h
theorem RAll.strs {K : PySem.W.Frag} {F : Hp} : ∀ {ss : List Str} {vs : List V}, RAll K F (ss.map PV.str) vs → vs = ss.map V.str
  | [], _, .nil => rfl
  | x :: r, _, .cons h t => by
    cases h
    rw [RAll.strs t]
    rfl
def kStr (x : PV) (k : Str → Prop) : Prop := match x with | .str a => k a | _ => False
def kJoin (a : Str) (y : PV) (M : Mem) (Q : PQ) : Prop := need (seqK y) fun p => need (strsOf p.2) fun ss => (ss.map (·.length)).sum + ss.length * a.length ≤ 16777216 ∧ Q (.str (Str.join a ss)) M
def pJoin (to te : PTE) : PTE := fun E σ M Q => to E σ M fun x M1 => kStr x fun a => te E σ M1 fun y M2 => kJoin a y M2 Q
section
variable {X : Cx} {o e : Expr} {to te : PTE} {pos apos : Pos}
theorem LE.join (ho : LE X o to) (he : LE X e te) (hs : starEach [e] X.env = [(false, eval e X.env)] := by rfl) (hbase : attributeBase o "join" X.env (eval o X.env) = eval o X.env := by rfl) (hline : (apos.endLine == pos.line) = true := by rfl) :
    LE X (.Call (.Attribute o "join" apos) [e] [] pos) (pJoin to te) := by
  refine ⟨fun σv H σ F M Q E tk rm rs h => WE.of (pe_join WE.pe WE.pe hs hbase hline) ?_⟩
  refine (ho.run σv H σ F M _ E tk rm rs h).mono ?_
  rintro v H1 ⟨F1, M1, x, b1, rx, hx⟩
  cases rx with
  | str a =>
    refine ⟨⟨a, rfl⟩, (he.run σv H1 σ F1 M1 _ E (tk.tr b1) b1.rm (rs.same b1.sm) hx).mono ?_⟩
    rintro w H2 ⟨F2, M2, y, b2, ry, h2⟩
    obtain ⟨⟨k, xs⟩, e1, h3⟩ := need_of h2
    obtain ⟨ss, e2, h4, h5⟩ := need_of h3
    have e3 := strsOf_eq e2
    dsimp only at e3
    subst e3
    cases k with
    | false =>
      obtain ⟨p, vs, rfl, q1, r1⟩ := ry.seqK_lst e1
      rw [r1.strs] at q1
      exact ⟨a, p, ss, rfl, rfl, .inl (b2.rm.fr.seq q1), h4, LQ.tr b1 (LQ.tr b2 (LQ.now b2.rm (.str _) (by rw [TL.join_eq]; exact h5)))⟩
    | true =>
      obtain ⟨p, vs, rfl, q1, r1⟩ := ry.seqK_tup e1
      rw [r1.strs] at q1
      exact ⟨a, p, ss, rfl, rfl, .inr (sqT_same b2.rm.fr q1), h4, LQ.tr b1 (LQ.tr b2 (LQ.now b2.rm (.str _) (by rw [TL.join_eq]; exact h5)))⟩
  | _ => exact hx.elim
theorem w_join {E : PXK} {σ : PSt} {M : Mem} {Q : PQ} (h : to E σ M fun x M1 => kStr x fun a => te E σ M1 fun y M2 => kJoin a y M2 Q) : pJoin to te E σ M Q := h
theorem w_kStr {a : Str} {k : Str → Prop} (h : k a) : kStr (.str a) k := h
end
end PL
set_option Elab.async false
set_option linter.all false
set_option maxRecDepth 100000
/-! dicts with ints and (nested) tuples as keys -/
namespace PD
open PySem PySem.Spec PyProof.Rows L2 PL
/-! ### keys and rows by values -/
mutual
def KeyV (K : PySem.W.Frag) (H : Hp) : NestedKey → V → Prop
  | .none, v => v = .non
  | .num i, v => v = .int i
  | .text x, v => v = .str x
  | .tup ks, v => ∃ a vs, v = .ref a ∧ SqT K H a vs ∧ KeyVs K H ks vs
def KeyVs (K : PySem.W.Frag) (H : Hp) : List NestedKey → List V → Prop
  | [], vs => vs = []
  | k :: ks, vs => ∃ v r, vs = v :: r ∧ KeyV K H k v ∧ KeyVs K H ks r
end
def KeysV (K : PySem.W.Frag) (H : Hp) (es : List VRow) : Prop := ∀ e ∈ es, KeyV K H e.1 e.2.1
def atV (es : List VRow) (k : NestedKey) : Option V := (es.find? fun e => decide (e.1 = k)).map (·.2.2)
def putV (es : List VRow) (k : NestedKey) (u v : V) : List VRow := if (atV es k).isSome then es.map (fun e => if e.1 = k then (e.1, e.2.1, v) else e) else es ++ [(k, u, v)]
section
variable {X : Cx} {pins : List (Addr × Obj)} {σ : L2.St} {H : Hp} {s : Shared}
mutual
theorem KeyV.is (I : Inv X pins σ H s) : ∀ (k : NestedKey) (v : V) (u : Value), KeyV X.K H k v → RelV v u → NestedIs s.heap k u
  | .none, v, u, h, r => by
    have h' : v = .non := by unfold KeyV at h; exact h
    subst h'
    have : u = .none := r
    rw [this]
    exact .none
  | .num i, v, u, h, r => by
    have h' : v = .int i := by unfold KeyV at h; exact h
    subst h'
    obtain ⟨t, rfl⟩ := r
    exact .int _ _
  | .text x, v, u, h, r => by
    have h' : v = .str x := by unfold KeyV at h; exact h
    subst h'
    obtain ⟨t, rfl⟩ := r
    exact .text _ _
  | .tup ks, v, u, h, r => by
    unfold KeyV at h
    obtain ⟨a, vs, rfl, q, hk⟩ := h
    have : u = .ref a := r
    subst this
    obtain ⟨its, rv, hl, _⟩ := I.tuple q
    obtain ⟨o, h1, h2, n, h3⟩ := hl
    exact .tup h1 h2 h3 (by simpa using KeyVs.is I ks vs its hk rv)
theorem KeyVs.is (I : Inv X pins σ H s) : ∀ (ks : List NestedKey) (vs : List V) (us : List Value), KeyVs X.K H ks vs → Vals vs us → NestedAll s.heap ks us
  | [], vs, us, h, r => by
    have h' : vs = [] := by unfold KeyVs at h; exact h
    subst h'
    cases r
    exact .nil
  | k :: ks, vs, us, h, r => by
    unfold KeyVs at h
    obtain ⟨v, t, rfl, h1, h2⟩ := h
    cases r with
    | cons r1 r2 => exact .cons (KeyV.is I k v _ h1 r1) (KeyVs.is I ks t _ h2 r2)
end
theorem at_rel {k : NestedKey} : ∀ {es : List VRow} {xs : List Row}, Paired Same2 es xs → RelO (atV es k) (at_ xs k)
  | _, _, .nil => trivial
  | _, _, .cons (a := a) (b := b) (l₁ := l1) (l₂ := l2) h t => by
    have ih := at_rel (k := k) t
    unfold atV at_ at ih ⊢
    rw [List.find?_cons, List.find?_cons, h.1]
    by_cases e : b.1 = k
    · rw [decide_eq_true e]
      exact h.2.2
    · rw [decide_eq_false e]
      exact ih
theorem repl_rel {k : NestedKey} {v : V} {y : Value} (rv : RelV v y) : ∀ {es : List VRow} {xs : List Row}, Paired Same2 es xs → Paired Same2 (es.map fun e => if e.1 = k then (e.1, e.2.1, v) else e) (repl xs k y)
  | _, _, .nil => .nil
  | _, _, .cons (a := a) (b := b) (l₁ := l1) (l₂ := l2) h t => by
    refine .cons ?_ (repl_rel rv t)
    obtain ⟨h1, h2, h3⟩ := h
    show Same2 (if a.1 = k then (a.1, a.2.1, v) else a) (if b.1 = k then (b.1, b.2.1, y) else b)
    rw [h1]
    split
    · exact ⟨rfl, h2, rv⟩
    · exact ⟨h1, h2, h3⟩
theorem app_rel {p : VRow} {q : Row} (h : Same2 p q) : ∀ {es : List VRow} {xs : List Row}, Paired Same2 es xs → Paired Same2 (es ++ [p]) (xs ++ [q])
  | _, _, .nil => .cons h .nil
  | _, _, .cons h1 t => .cons h1 (app_rel h t)
theorem put_rel {k : NestedKey} {u v : V} {x y : Value} (ru : RelV u x) (rv : RelV v y) {es : List VRow} {xs : List Row} (r : Paired Same2 es xs) : Paired Same2 (putV es k u v) (put xs k x y) := by
  have hs : (atV es k).isSome = (at_ xs k).isSome := RelO.isSome_eq (at_rel r)
  unfold putV put
  rw [hs]
  split
  · exact repl_rel rv r
  · exact app_rel ⟨rfl, ru, rv⟩ r
theorem keyed_of (I : Inv X pins σ H s) : ∀ {es : List VRow} {xs : List Row}, Paired Same2 es xs → KeysV X.K H es → (∀ x ∈ xs, okK x.1) → Keyed s.heap xs
  | _, _, .nil, _, _ => fun _ h => absurd h List.not_mem_nil
  | _, _, .cons (a := b) (b := c) (l₁ := l1) (l₂ := l2) h t, hk, ok => fun x hx => by
    rcases List.mem_cons.mp hx with ex | ex
    · subst ex
      obtain ⟨q1, q2, q3⟩ := h
      have := hk b List.mem_cons_self
      rw [q1] at this
      exact ⟨KeyV.is I _ _ _ this q2, (ok x List.mem_cons_self).2⟩
    · exact keyed_of I t (fun e he => hk e (List.mem_cons_of_mem _ he)) (fun y hy => ok y (List.mem_cons_of_mem _ hy)) x ex
theorem d_rows (I : Inv X pins σ H s) {a : Addr} {es : List VRow} (e : dAt H a es) (hk : KeysV X.K H es) : (a == sysModules) = false ∧ (∀ x ∈ es, okK x.1) ∧ es.length ≤ sizeLine ∧ ∃ xs, Paired Same2 es xs ∧ Tab X.w s.heap a xs ∧ Keyed s.heap xs := by
  obtain ⟨ep, e⟩ := e
  have p : dPhi a ep es s.heap := dO_phi (I.hok a _ e)
  obtain ⟨h1, h2, h3, w, xs, r, t⟩ := p
  have t := t.tab
  have ok : ∀ x ∈ xs, okK x.1 := fun x hx => by
    obtain ⟨y, hy, ey⟩ := Paired.same_keys r x hx
    rw [← ey]
    exact h3 y hy
  exact ⟨h2, h3, h1, xs, r, t.world fun x hx => (ok x hx).1, keyed_of I r hk ok⟩
theorem paired_len {es : List VRow} {xs : List Row} (r : Paired Same2 es xs) : xs.length = es.length := by
  induction r with
  | nil => rfl
  | cons _ _ ih => rw [List.length_cons, List.length_cons, ih]
theorem putV_len (es : List VRow) (k : NestedKey) (u v : V) : (putV es k u v).length ≤ es.length + 1 := by
  unfold putV
  split
  · rw [List.length_map]; omega
  · rw [List.length_append]; simp
theorem putV_ok {es : List VRow} {k : NestedKey} {u v : V} (ok : okK k) (h : ∀ x ∈ es, okK x.1) : ∀ x ∈ putV es k u v, okK x.1 := by
  intro x hx
  unfold putV at hx
  split at hx
  · obtain ⟨y, hy, rfl⟩ := List.mem_map.mp hx
    split
    · exact h y hy
    · exact h y hy
  · rcases List.mem_append.mp hx with hx | hx
    · exact h x hx
    · rw [List.mem_singleton.mp hx]; exact ok
/-- d[k] -/
def rIxD (K : PySem.W.Frag) : R2 := fun x y H Q => ∃ a es k v, x = .ref a ∧ dAt H a es ∧ KeysV K H es ∧ KeyV K H k y ∧ okK k ∧ atV es k = some v ∧ Q v H
theorem ix_dct (hu : X.A.units + 65 < cLine) : IxR X (rIxD X.K) := by
  intro value slice pins s σ H x y v u Q I rx ry h hs
  obtain ⟨a, es, k, w, rfl, e, hk, ky, ok, hv, q⟩ := h
  have : v = .ref a := rx
  subst this
  obtain ⟨h1, h2, h3, xs, r, t, kd⟩ := d_rows I e hk
  have ra := at_rel (k := k) r
  rw [hv] at ra
  cases hx : at_ xs k with
  | none => rw [hx] at ra; exact ra.elim
  | some z =>
    rw [hx] at ra
    have hT : s.TypeIs (.ref a) "dict" := t.typeIs
    unfold subscriptTail
    refine wpAny_bind ?_
    rw [getitemInPython_of_ne hT.not_modules]
    refine wpAny_bind (wpAny_specialOf hT PySem.F.slot_dict_getitem.lookup ?_)
    have fin : wpAny (model X.prog X.w) X.A (subscripted slice false (.ref a) u) (fun r s₃ => wpAny (model X.prog X.w) X.A (letTemporaryGo value (.ref a) r >>= fun _ => pure r) (EP X pins σ Q) X.xe s₃) X.xe s := by
      rw [hs]
      exact wpAny_operating (getItem_key (by omega) (KeyV.is I k y u ky ry) ok.2 ok.1.notText t kd hx (wpAny_bind (wpAny_letTemporaryGo (wpAny_pure ⟨w, H, I.tok _, ra, q⟩))))
    first
      | exact wpAny_pure (wpAny_bind fin)
      | exact wpAny_bind (wpAny_pure (wpAny_bind fin))
      | exact wpAny_bind fin
/-- d[k] = v -/
def rSetD (K : PySem.W.Frag) : TSet := fun o i v H Q => ∃ a es k, o = .ref a ∧ dAt H a es ∧ KeysV K H es ∧ KeyV K H k i ∧ okK k ∧ es.length < sizeLine ∧ ∀ ep, Q (upd H a (dO a ep (putV es k i v)))
theorem set_dct (hu : X.A.units + 65 < cLine) : PSet X (rSetD X.K) := by
  intro pins s σ H o i v ov iv u Q I ro ri rv h
  obtain ⟨a, es, k, rfl, e, hk, ky, ok, hl, q⟩ := h
  have : ov = .ref a := ro
  subst this
  obtain ⟨h1, h2, h3, xs, r, t, kd⟩ := d_rows I e hk
  refine setItem_key (by omega) (KeyV.is I k i iv ky ri) ok.2 ok.1.notText t kd (by rw [paired_len r]; exact h3) fun h' t' hs => ?_
  obtain ⟨ob, en, ep, q1, q2⟩ := t'
  obtain ⟨ep0, e⟩ := e
  refine ⟨_, ?_, q ep⟩
  refine I.write (x := a) (e := a) (by rw [e]; trivial) (.inl rfl) (fun b w hb z => (hs.2 b hb).trans z) ⟨ob, q1⟩ (dO_ok ⟨?_, h1, putV_ok ok h2, X.w, _, put_rel ri rv r, ob, en, q1, q2⟩)
  have := putV_len es k i v
  omega
/-- k in d -/
def rInD (K : PySem.W.Frag) (f : Bool → Bool) : R2 := fun y x H Q => ∃ a es k, x = .ref a ∧ dAt H a es ∧ KeysV K H es ∧ KeyV K H k y ∧ okK k ∧ Q (.bl (f (atV es k).isSome)) H
theorem op_inD (hu : X.A.units + 65 < cLine) : OpR X (compareOp .In) (rInD X.K id) := by
  intro pins s σ H y x v u Q I ry rx h
  obtain ⟨a, es, k, rfl, e, hk, ky, ok, q⟩ := h
  have : u = .ref a := rx
  subst this
  obtain ⟨h1, h2, h3, xs, r, t, kd⟩ := d_rows I e hk
  refine in_key (by omega) h1 (KeyV.is I k y v ky ry) ok.2 ok.1.notText t kd ?_
  rw [← RelO.isSome_eq (at_rel r)]
  exact ⟨.bl _, H, I.tok _, rfl, q⟩
end
end PD
set_option Elab.async false
set_option linter.all false
set_option maxRecDepth 100000
namespace PL
open PySem PySem.Spec PyProof.Rows L2 PD
mutual
/-- the key that a value is -/
def keyP : PV → Option NestedKey
  | .int i => some (.num i)
  | .tup xs => (keyPs xs).map .tup
  | .non => some .none
  | _ => none
def keyPs : List PV → Option (List NestedKey)
  | [] => some []
  | x :: xs => match keyP x, keyPs xs with
    | some k, some ks => some (k :: ks)
    | _, _ => none
end
mutual
theorem keyP_eq : ∀ (x : PV) (k : NestedKey), keyP x = some k → x = pvK k ∧ plainK k
  | .int i, k, h => by
    unfold keyP at h
    cases h
    exact ⟨by unfold pvK; rfl, by unfold plainK; trivial⟩
  | .non, k, h => by
    unfold keyP at h
    cases h
    exact ⟨by unfold pvK; rfl, by unfold plainK; trivial⟩
  | .tup xs, k, h => by
    unfold keyP at h
    cases e : keyPs xs with
    | none => rw [e] at h; cases h
    | some ks =>
      rw [e] at h
      cases h
      obtain ⟨h1, h2⟩ := keyPs_eq xs ks e
      exact ⟨by unfold pvK; rw [← h1], by unfold plainK; exact h2⟩
  | .bl _, _, h => by unfold keyP at h; cases h
  | .str _, _, h => by unfold keyP at h; cases h
  | .ty _, _, h => by unfold keyP at h; cases h
  | .lst _, _, h => by unfold keyP at h; cases h
  | .scr _, _, h => by unfold keyP at h; cases h
  | .obj _ _, _, h => by unfold keyP at h; cases h
  | .ptr _, _, h => by unfold keyP at h; cases h
  | .dct _, _, h => by unfold keyP at h; cases h
theorem keyPs_eq : ∀ (xs : List PV) (ks : List NestedKey), keyPs xs = some ks → xs = pvKs ks ∧ plainKs ks
  | [], ks, h => by
    unfold keyPs at h
    cases h
    exact ⟨by unfold pvKs; rfl, by unfold plainKs; trivial⟩
  | x :: xs, ks, h => by
    unfold keyPs at h
    cases e1 : keyP x with
    | none => rw [e1] at h; cases h
    | some k =>
      cases e2 : keyPs xs with
      | none => rw [e1, e2] at h; cases h
      | some r =>
        rw [e1, e2] at h
        cases h
        obtain ⟨h1, h2⟩ := keyP_eq x k e1
        obtain ⟨h3, h4⟩ := keyPs_eq xs r e2
        exact ⟨by unfold pvKs; rw [← h1, ← h3], by unfold plainKs; exact ⟨h2, h4⟩⟩
end
section
variable {K : PySem.W.Frag} {F H : Hp} {M : Mem}
mutual
theorem R.keyV (sm : Same F H) : ∀ (k : NestedKey) (v : V), R K F (pvK k) v → KeyV K H k v
  | .none, v, r => by unfold pvK at r; cases r; unfold KeyV; rfl
  | .num i, v, r => by unfold pvK at r; cases r; unfold KeyV; rfl
  | .text x, v, r => by unfold pvK at r; cases r; unfold KeyV; rfl
  | .tup ks, v, r => by
    unfold pvK at r
    cases r with
    | tup q ra =>
      unfold KeyV
      exact ⟨_, _, rfl, sqT_same sm q, RAll.keyVs sm ks _ ra⟩
theorem RAll.keyVs (sm : Same F H) : ∀ (ks : List NestedKey) (vs : List V), RAll K F (pvKs ks) vs → KeyVs K H ks vs
  | [], vs, r => by unfold pvKs at r; cases r; unfold KeyVs; rfl
  | k :: ks, vs, r => by
    unfold pvKs at r
    cases r with
    | cons r1 r2 =>
      unfold KeyVs
      exact ⟨_, _, rfl, R.keyV sm k _ r1, RAll.keyVs sm ks _ r2⟩
end
def atP (kvs : List (NestedKey × PV)) (k : NestedKey) : Option PV := (kvs.find? fun e => decide (e.1 = k)).map (·.2)
def putD (kvs : List (NestedKey × PV)) (k : NestedKey) (x : PV) : List (NestedKey × PV) := if (atP kvs k).isSome then kvs.map (fun e => if e.1 = k then (e.1, x) else e) else kvs ++ [(k, x)]
theorem RKs.at_ {k : NestedKey} : ∀ {kvs : List (NestedKey × PV)} {es : List VRow}, RKs K F kvs es → (∀ x, atP kvs k = some x → ∃ v, atV es k = some v ∧ R K F x v) ∧ (atP kvs k = none → atV es k = none)
  | _, _, .nil => ⟨(fun _ h => by cases h), fun _ => rfl⟩
  | _, _, .cons (k := k') (x := x) (kvs := r) (u := u) (v := v) (es := t) r1 r2 r3 => by
    have ih := RKs.at_ (k := k) r3
    unfold atP atV at ih ⊢
    rw [List.find?_cons, List.find?_cons]
    dsimp only at ih ⊢
    by_cases e : k' = k
    · rw [decide_eq_true e]
      refine ⟨fun y hy => ?_, fun h => by cases h⟩
      cases hy
      exact ⟨v, rfl, r2⟩
    · rw [decide_eq_false e]
      exact ih
theorem RKs.repl {k : NestedKey} {x : PV} {v : V} (r : R K F x v) : ∀ {kvs : List (NestedKey × PV)} {es : List VRow}, RKs K F kvs es → RKs K F (kvs.map fun e => if e.1 = k then (e.1, x) else e) (es.map fun e => if e.1 = k then (e.1, e.2.1, v) else e)
  | _, _, .nil => .nil
  | _, _, .cons (k := k') (x := y) r1 r2 r3 => by
    have ih := RKs.repl (k := k) r r3
    rw [List.map_cons, List.map_cons]
    dsimp only
    by_cases e : k' = k
    · rw [if_pos e, if_pos e]
      exact .cons r1 r ih
    · rw [if_neg e, if_neg e]
      exact .cons r1 r2 ih
theorem RKs.app {k : NestedKey} {x : PV} {u v : V} (ru : R K F (pvK k) u) (r : R K F x v) : ∀ {kvs : List (NestedKey × PV)} {es : List VRow}, RKs K F kvs es → RKs K F (kvs ++ [(k, x)]) (es ++ [(k, u, v)])
  | _, _, .nil => .cons ru r .nil
  | _, _, .cons r1 r2 r3 => .cons r1 r2 (RKs.app ru r r3)
theorem RKs.put {k : NestedKey} {x : PV} {u v : V} {kvs : List (NestedKey × PV)} {es : List VRow} (ru : R K F (pvK k) u) (r : R K F x v) (h : RKs K F kvs es) : RKs K F (putD kvs k x) (putV es k u v) := by
  have hs : (atP kvs k).isSome = (atV es k).isSome := by
    cases e : atP kvs k with
    | none => rw [(RKs.at_ h).2 e]; rfl
    | some y =>
      obtain ⟨w, e2, _⟩ := (RKs.at_ h).1 y e
      rw [e2]
      rfl
  unfold putD putV
  rw [hs]
  split
  · exact RKs.repl r h
  · exact RKs.app ru r h
theorem RKs.keysV (sm : Same F H) : ∀ {kvs : List (NestedKey × PV)} {es : List VRow}, RKs K F kvs es → KeysV K H es
  | _, _, .nil => fun _ h => absurd h List.not_mem_nil
  | _, _, .cons r1 r2 r3 => fun e he => by
    rcases List.mem_cons.mp he with h | h
    · rw [h]; exact R.keyV sm _ _ r1
    · exact RKs.keysV sm r3 e h
theorem RKs.length : ∀ {kvs : List (NestedKey × PV)} {es : List VRow}, RKs K F kvs es → es.length = kvs.length
  | _, _, .nil => rfl
  | _, _, .cons _ _ r => congrArg (· + 1) (RKs.length r)
def dctOf (M : Mem) : PV → Option (List (NestedKey × PV))
  | .dct kvs => some kvs
  | .ptr p => match M p with | some (.dct a kvs) => if a = p then some kvs else none | _ => none
  | _ => none
theorem R.dctI {x : PV} {v : V} {kvs : List (NestedKey × PV)} (rm : RM K F M H) (r : R K F x v) (h : dctOf M x = some kvs) : ∃ a es, v = .ref a ∧ dAt H a es ∧ RKs K F kvs es := by
  cases r with
  | dct e q => cases h; exact ⟨_, _, rfl, ⟨_, rm.fr _ _ e⟩, q⟩
  | ptr a =>
    have h' : (match M a with | some (.dct b kvs) => if b = a then some kvs else none | _ => none) = some kvs := h
    cases hm : M a with
    | none => rw [hm] at h'; cases h'
    | some m =>
      rw [hm] at h'
      cases m with
      | lst _ => cases h'
      | obj _ _ => cases h'
      | dct b ks =>
        dsimp only at h'
        split at h'
        · rename_i e
          subst e
          cases h'
          obtain ⟨o, e1, q⟩ := rm.mu _ _ hm
          cases q with
          | dct q => exact ⟨_, _, rfl, ⟨_, e1⟩, q⟩
        · cases h'
  | _ => cases h
end
def kKey (x : PV) (f : NestedKey → Prop) : Prop := need (keyP x) fun k => k.depth ≤ 8 ∧ f k
theorem kKey.of {x : PV} {f : NestedKey → Prop} (h : kKey x f) : ∃ k, x = pvK k ∧ okK k ∧ f k := by
  obtain ⟨k, e, h1, h2⟩ := need_of h
  obtain ⟨e1, e2⟩ := keyP_eq x k e
  exact ⟨k, e1, ⟨e2, h1⟩, h2⟩
section
variable {X : Cx} {a b c e o i f : Expr} {ta tb tc te to ti tf : PTE} {pos p apos cpos : Pos} {es : List Expr} {t : PTA} {x : Str}
/-! ### {} -/
def pDNew : PTE := fun _ _ M Q => ∀ p, M p = none → Q (.ptr p) (M.put p (.dct p []))
/-! ### d[k] -/
def oIxD : PO2 := fun x y M Q => need (dctOf M x) fun kvs => kKey y fun k => need (atP kvs k) fun z => Q z M
theorem LE.ixD (hu : X.A.units + 65 < cLine) (ha : LE X a ta) (hb : LE X b tb) (hs : PlainIx b := by exact fun _ _ => rfl) : LE X (.Subscript a b pos) (pBin oIxD ta tb) := by
  refine ⟨fun σv H σ F M Q E tk rm rs h => WE.of (pe_ix (ix_dct hu) WE.pe WE.pe hs) ?_⟩
  refine seq2 ha hb tk rm rs h fun x y xv yv F2 M2 H2 bh rx ry h2 => ?_
  obtain ⟨kvs, e1, h3⟩ := need_of h2
  obtain ⟨k, rfl, ok, h4⟩ := kKey.of h3
  obtain ⟨z, e2, h5⟩ := need_of h4
  obtain ⟨q, es, rfl, e3, rk⟩ := rx.dctI bh.rm e1
  obtain ⟨v, e4, rv⟩ := (RKs.at_ rk).1 z e2
  exact ⟨q, es, k, v, rfl, e3, rk.keysV bh.rm.fr, R.keyV bh.rm.fr k yv ry, ok, e4, LQ.tr bh (LQ.now bh.rm rv h5)⟩
/-! ### k in d -/
def oInD : PO2 := fun y x M Q => need (dctOf M x) fun kvs => kKey y fun k => Q (.bl (atP kvs k).isSome) M
theorem RKs.some_eq {K : PySem.W.Frag} {F : Hp} {k : NestedKey} {kvs : List (NestedKey × PV)} {es : List VRow} (h : RKs K F kvs es) : (atP kvs k).isSome = (atV es k).isSome := by
  cases e : atP kvs k with
  | none => rw [(RKs.at_ h).2 e]; rfl
  | some y =>
    obtain ⟨w, e2, _⟩ := (RKs.at_ h).1 y e
    rw [e2]
    rfl
/-! ### d[k] = v -/
def kSetD (o i x : PV) (M : Mem) (Q : Mem → Prop) : Prop := match o with
  | .ptr p => match M p with
    | some (.dct q kvs) => q = p ∧ kKey i fun k => kvs.length < sizeLine ∧ Q (M.put p (.dct p (putD kvs k x)))
    | _ => False
  | _ => False
def gpSubD (to ti : PTE) : PTG := fun x σ M Q => to noX σ M fun o M1 => ti noX σ M1 fun i M2 => kSetD o i x M2 fun M3 => Q σ M3
theorem LG.subD (hu : X.A.units + 65 < cLine) (ho : LE X o to) (hi : LE X i ti) (ha : ∀ v, assign (.Subscript o i pos) X.env v = (do
      let ov ← holding [v] (eval o X.env)
      let iv ← holding [v, ov] (eval i X.env)
      standAt pos
      holding [v, ov, iv] (setItem ov iv v)
      release [v, ov, iv] []) := by intro _; rfl) : LG X (.Subscript o i pos) (gpSubD to ti) := by
  refine ⟨fun σv H σ F M x v Q rm rs r h => WG.of (pg_sub WE.pe WE.pe (set_dct hu) ha) ?_⟩
  refine seq2 (k := fun o i M2 => kSetD o i x M2 fun M3 => Q σ M3) ho hi PTk.no rm rs h fun o i ov iv F2 M2 H2 bh ro ri h2 => ?_
  unfold kSetD at h2
  split at h2
  · rename_i p
    cases ro
    cases hm : M2 p with
    | none => rw [hm] at h2; exact h2.elim
    | some mo =>
      rw [hm] at h2
      cases mo with
      | obj C fs => exact h2.elim
      | lst xs => exact h2.elim
      | dct q kvs =>
        obtain ⟨rfl, h3⟩ := h2
        obtain ⟨k, rfl, ok, h4, h5⟩ := kKey.of h3
        obtain ⟨u, e2, ru⟩ := bh.rm.mu _ _ hm
        cases ru with
        | dct ru =>
          rename_i es
          refine ⟨q, es, k, rfl, ⟨_, e2⟩, ru.keysV bh.rm.fr, R.keyV bh.rm.fr k iv ri, ok, by rw [ru.length]; exact h4, fun ep' => ?_⟩
          have b3 := bh.rm.behWrite (o := dO q ep' (putV es k iv v)) hm (.dct (ru.put ri (r.same bh.sm)))
          exact ⟨F2, _, σ, bh.trans b3, rs.same bh.sm, h5⟩
  · exact h2.elim
/-! ### d.get(k), d.get(k, x) -/
theorem d_head {pins : List (Addr × Obj)} {σ : L2.St} {H : Hp} {s : Shared} {q : Addr} {es : List VRow} (I : Inv X pins σ H s) (e : dAt H q es) :
    s.TypeIs (.ref q) "dict" ∧ ∀ b, Value.ref q = .ref b → ∃ ob, s.heap.get? b = some ob ∧ ob.dict = none := by
  obtain ⟨ep, e⟩ := e
  obtain ⟨_, _, _, w, xs, r, ob, en, q1, q2, _⟩ := dO_phi (I.hok q _ e)
  refine ⟨⟨ob, q1, q2.1⟩, fun b z => ?_⟩
  cases z
  exact ⟨ob, q1, q2.2.1⟩
def pDGet1 (to te : PTE) : PTE := fun E σ M Q => to E σ M fun x M1 => dctOf M1 x ≠ none ∧ te E σ M1 fun y M2 => need (dctOf M2 x) fun kvs => kKey y fun k => Q ((atP kvs k).getD .non) M2
def pDGet2 (to te tf : PTE) : PTE := fun E σ M Q => to E σ M fun x M1 => dctOf M1 x ≠ none ∧ te E σ M1 fun y M2 => tf E σ M2 fun z M3 => need (dctOf M3 x) fun kvs => kKey y fun k => Q ((atP kvs k).getD z) M3
theorem LE.dget1 (hu : X.A.units + 65 < cLine) (ho : LE X o to) (he : LE X e te) (m : M1 X o "get" apos e cpos) : LE X (.Call (.Attribute o "get" apos) [e] [] cpos) (pDGet1 to te) := by
  refine ⟨fun σv H σ F M Q E tk rm rs h pins s I => ?_⟩
  refine wpAny_Call_method m.base m.few m.line PySem.F.plainAttrs_dict PySem.F.slot_dict_get PySem.F.type_dict_get (thn (ho.run σv H σ F M _ E tk rm rs h pins s I) fun u s1 ⟨xv, H1, I1, rx, F1, M1, x, b1, r1, hx, q1⟩ => ?_)
  cases hd : dctOf M1 x with
  | none => exact absurd hd hx
  | some kvs1 =>
    obtain ⟨q, es1, rfl, e1, _⟩ := r1.dctI b1.rm hd
    have eu : u = .ref q := rx
    subst eu
    obtain ⟨t1, t2⟩ := d_head I1 e1
    refine ⟨t1, t2, ?_⟩
    rw [m.trees]
    refine Calls.callWith_builtin rfl (Calls.evalArgs_plain (Calls.spliced_cons (thn (he.run σv H1 σ F1 M1 _ E (tk.tr b1) b1.rm (rs.same b1.sm) q1 pins s1 I1) fun iv s2 ⟨yv, H2, I2, ry, F2, M2, y, b2, r2, q2⟩ => Calls.spliced_nil ?_)))
    obtain ⟨kvs, e2, h3⟩ := need_of q2
    obtain ⟨k, rfl, ok, h4⟩ := kKey.of h3
    obtain ⟨q', es, eq, e3, rk⟩ := (r1.same b2.sm).dctI b2.rm e2
    cases eq
    obtain ⟨g1, g2, g3, xs, r, t, kd⟩ := d_rows I2 e3 (rk.keysV b2.rm.fr)
    refine call_meetsIn PySem.F.slot_dict_get t.typeIs PySem.F.entry_dict_get (PySem.F.args_dict_get_2 _ _) (meet_get g1) ⟨by omega, k, xs, KeyV.is I2 k yv iv (R.keyV b2.rm.fr k yv r2) ry, ok.2, ok.1.notText, t, kd, ?_⟩
    have ra := at_rel (k := k) r
    cases hv : atP kvs k with
    | none =>
      rw [hv] at h4
      have e4 := (RKs.at_ rk).2 hv
      rw [e4] at ra
      cases hx2 : at_ xs k with
      | none => exact ⟨.non, H2, I2.tok _, rfl, LQ.tr (b1.trans b2) (LQ.now b2.rm .non h4)⟩
      | some z => rw [hx2] at ra; exact ra.elim
    | some z =>
      rw [hv] at h4
      obtain ⟨v, e4, rv⟩ := (RKs.at_ rk).1 z hv
      rw [e4] at ra
      cases hx2 : at_ xs k with
      | none => rw [hx2] at ra; exact ra.elim
      | some zz =>
        rw [hx2] at ra
        exact ⟨v, H2, I2.tok _, ra, LQ.tr (b1.trans b2) (LQ.now b2.rm rv h4)⟩
end
end PL
set_option Elab.async false
set_option linter.all false
set_option maxRecDepth 100000
namespace PL
open PySem PySem.Spec PyProof.Rows L2
/-! ### list comprehensions over a tuple of names -/
def gsN : List Nat → TGs
  | [] => gNil
  | i :: r => gCons (gName i) (gsN r)
def setsV : List Nat → List V → L2.St → L2.St
  | i :: is, v :: vs, σ => setsV is vs (σ.set i (some v))
  | _, _, σ => σ
def setsP : List Nat → List PV → PSt → Option PSt
  | [], [], σ => some σ
  | i :: is, x :: xs, σ => setsP is xs (σ.set i (some x))
  | _, _, _ => none
theorem setsP_len : ∀ {is : List Nat} {xs : List PV} {σ σ1 : PSt}, setsP is xs σ = some σ1 → is.length = xs.length
  | [], [], _, _, _ => rfl
  | i :: is, x :: xs, _, _, h => congrArg (· + 1) (setsP_len (is := is) (xs := xs) h)
  | [], _ :: _, _, _, h => by cases h
  | _ :: _, [], _, _, h => by cases h
theorem gsN_of : ∀ {is : List Nat} {vs : List V} {σ : L2.St} {H : Hp} {Q : L2.St → Hp → Prop}, is.length = vs.length → Q (setsV is vs σ) H → gsN is vs σ H Q
  | [], [], _, _, _, _, q => ⟨rfl, q⟩
  | i :: is, v :: vs, _, _, _, h, q => ⟨v, vs, rfl, gsN_of (is := is) (vs := vs) (by simpa using h) q⟩
  | [], _ :: _, _, _, _, h, _ => by cases h
  | _ :: _, [], _, _, _, h, _ => by cases h
theorem wipe_comm {i : Nat} {v : Option V} : ∀ {r : List Nat} {σ : L2.St}, i ∉ r → (wipe σ r).set i v = wipe (σ.set i v) r
  | [], _, _ => rfl
  | j :: r, σ, h => by
    rw [List.mem_cons, not_or] at h
    show ((wipe σ r).set j none).set i v = (wipe (σ.set i v) r).set j none
    rw [← wipe_comm h.2, List.set_comm _ _ (Ne.symm h.1)]
theorem setsV_wipe : ∀ {is : List Nat} {vs : List V} {σ : L2.St}, is.Nodup → is.length = vs.length → setsV is vs (wipe σ is) = setsV is vs σ
  | [], [], _, _, _ => rfl
  | i :: is, v :: vs, σ, hn, hl => by
    rw [List.nodup_cons] at hn
    show setsV is vs (((wipe σ is).set i none).set i (some v)) = setsV is vs (σ.set i (some v))
    rw [List.set_set, wipe_comm hn.1]
    exact setsV_wipe hn.2 (by simpa using hl)
  | [], _ :: _, _, _, h => by cases h
  | _ :: _, [], _, _, h => by cases h
theorem wipe_sets : ∀ {is : List Nat} {vs : List V} {σ : L2.St}, is.Nodup → is.length = vs.length → wipe (setsV is vs σ) is = wipe σ is
  | [], [], _, _, _ => rfl
  | i :: is, v :: vs, σ, hn, hl => by
    rw [List.nodup_cons] at hn
    show (wipe (setsV is vs (σ.set i (some v))) is).set i none = (wipe σ is).set i none
    rw [wipe_sets hn.2 (by simpa using hl), ← wipe_comm hn.1, List.set_set]
  | [], _ :: _, _, _, h => by cases h
  | _ :: _, [], _, _, h => by cases h
theorem RS.sets {K : PySem.W.Frag} {F : Hp} : ∀ (is : List Nat) {ys : List PV} {vs : List V} {σ σ1 : PSt} {σv : L2.St}, RS K F σ σv → RAll K F ys vs → setsP is ys σ = some σ1 → RS K F σ1 (setsV is vs σv)
  | [], [], _, _, _, _, rs, .nil, h => by cases h; exact rs
  | i :: is, y :: ys, _, _, _, _, rs, .cons r t, h => RS.sets is (rs.set i r) t h
  | [], _ :: _, _, _, _, _, _, _, h => by cases h
  | _ :: _, [], _, _, _, _, _, _, h => by cases h
theorem R.tupI {K : PySem.W.Frag} {F : Hp} {x : PV} {v : V} {ys : List PV} (r : R K F x v) (h : tupF x = some ys) : ∃ a vs, v = .ref a ∧ SqT K F a vs ∧ RAll K F ys vs := by
  cases r with
  | tup q s => cases h; exact ⟨_, _, rfl, q, s⟩
  | _ => cases h
def pLcTL (is : List Nat) (tt : PTT) (te : PTE) : List PV → List PV → PSt → Mem → PQ → Prop
  | [], acc => fun _ M Q => Q (.lst acc) M
  | x :: xs, acc => fun σ M Q => need (tupF x) fun ys => need (setsP is ys σ) fun σ1 => tt noX σ1 M fun b M1 => if b = true then te noX σ1 M1 fun y M2 => pLcTL is tt te xs (acc ++ [y]) σ M2 Q else pLcTL is tt te xs acc σ M1 Q
def pLcT (wi : PTI) (is : List Nat) (tt : PTT) (te : PTE) : PTE := fun E σ M Q => wi E σ M fun xs M1 => xs.length ≤ sizeLine ∧ pLcTL is tt te xs [] σ M1 Q
section
variable {X : Cx} {elt tg iter : Expr} {ifs : List Expr} {scope : Scope} {is : List Nat} {pos pt : Pos} {wi : PTI} {tt : PTT} {te : PTE} {own : List (Str × Nat)} {els : List Expr} {kk : Nat}
/-- the turns of the block, D the new list -/
theorem lcT_turns (K0 : PySem.W.Frag) (eK : K0 = X.K) {is : List Nat} (hnd : is.Nodup) {te' : TE} {tt' : TT} 
    (ht : ∀ (σv : L2.St) (H : Hp) (σ : PSt) (F : Hp) (M : Mem) (Q : Bool → Mem → Prop), RM X.K F M H → RS X.K F σ σv → tt noX σ M Q → tt' σv H (LB X.K F M H Q))
    (he : ∀ (σv : L2.St) (H : Hp) (σ : PSt) (F : Hp) (M : Mem) (Q : PQ), RM X.K F M H → RS X.K F σ σv → te noX σ M Q → te' σv H (LQ X.K F M H Q))
    (mt : ∀ σv H Q Q', tt' σv H Q → (∀ b H', Q b H' → Q' b H') → tt' σv H Q') (me : ∀ σv H Q Q', te' σv H Q → (∀ b H', Q b H' → Q' b H') → te' σv H Q')
    {σv : L2.St} {σ : PSt} {F M H F1 M1 H1} {Q : PQ} {J : It} {xs : List PV} (b1 : Beh X.K F M H F1 M1 H1) (rs : RS X.K F σ σv) (st : Stab X.K J F1 xs) (hz : xs.length ≤ sizeLine) (h1 : pLcTL is tt te xs [] σ M1 Q) {D : Addr} (nD : H1 D = none) :
    ∃ W : Nat → Nat → Hp → Prop, (∃ m, W 0 m (upd H1 D (.lst []))) ∧ ∀ j m H', W j m H' →
      (J.stop j H' ∧ LQ X.K F M H Q (.ref D) H') ∨ (J.go j H' ∧ ∃ Nx : Hp → Prop, (∀ H2, Nx H2 → ∃ m', m' < m ∧ W (j + 1) m' H2) ∧ ∀ v H2, J.yld j H' v H2 → gTup K0 is.length (gsN is) v (wipe σv is) H2 fun σ2 H3 => wipe σ2 is = wipe σv is ∧ tt' σ2 H3 fun b H4 =>
        if b = true then te' σ2 H4 fun y H5 => ∃ acc, H5 D = some (.lst acc) ∧ acc.length < sizeLine ∧ Nx (upd H5 D (.lst (acc ++ [y]))) else Nx H4) := by
  obtain ⟨nF, nM⟩ := b1.rm.nones nD
  have b1' := b1.trans ((b1.rm.behHid (o := .lst []) nF nM).2 nD)
  refine ⟨fun j m H' => m = xs.length - j ∧ j ≤ xs.length ∧ ∃ F' M' acc vacc, Beh X.K F M H F' M' H' ∧ Same F1 F' ∧ F' D = none ∧ M' D = none ∧ H' D = some (.lst vacc) ∧ RAll X.K F' acc vacc ∧ acc.length ≤ j ∧ pLcTL is tt te (xs.drop j) acc σ M' Q,
    ⟨xs.length, rfl, Nat.zero_le _, F1, M1, [], [], b1', Same.refl _, nF, nM, upd_same, .nil, Nat.le_refl _, h1⟩, ?_⟩
  rintro j m H2 ⟨rfl, hj, F2, M2, acc, vacc, b2, sm2, nF2, nM2, hD, ra, hl, h2⟩
  obtain ⟨s1, s2⟩ := st j F2 M2 H2 sm2 b2.rm
  by_cases hlt : j < xs.length
  · obtain ⟨go, yl⟩ := s1 hlt
    rw [List.drop_eq_getElem_cons hlt] at h2
    refine .inr ⟨go, _, fun H' n => ⟨_, (show xs.length - (j + 1) < xs.length - j by omega), n⟩, fun v H3 y => ?_⟩
    obtain ⟨F3, b3, r3⟩ := yl v H3 y
    have keepD : ∀ {Fa : Hp} {Ma : Mem} {Ha : Hp}, Beh X.K F2 M2 H2 Fa Ma Ha → Fa D = none ∧ Ma D = none ∧ Ha D = some (.lst vacc) := fun {Fa Ma Ha} b => by
      refine ⟨?_, ?_, b.fr.keep D _ hD nM2⟩
      · cases q : Fa D with
        | none => rfl
        | some u =>
          rcases b.fg D (by rw [q]; exact Option.some_ne_none _) with z | z | z
          · exact absurd nF2 z
          · exact absurd nM2 z
          · rw [hD] at z; cases z
      · cases q : Ma D with
        | none => rfl
        | some u =>
          rcases b.fr.grow D (by rw [q]; exact Option.some_ne_none _) with z | z
          · exact absurd nM2 z
          · rw [hD] at z; cases z
    have hs : pLcTL is tt te (xs[j] :: xs.drop (j + 1)) acc σ M2 Q := h2
    unfold pLcTL at hs
    obtain ⟨ys, ey, hs2⟩ := need_of hs
    obtain ⟨σ1, es, h2⟩ := need_of hs2
    obtain ⟨a, vs, rfl, qa, ra2⟩ := R.tupI r3 ey
    have hlen : is.length = ys.length := setsP_len es
    subst eK
    refine ⟨a, vs, rfl, sqT_same b3.rm.fr qa, by rw [← ra2.length, hlen], gsN_of (by rw [← ra2.length, hlen]) ?_⟩
    rw [setsV_wipe hnd (by rw [← ra2.length, hlen])]
    refine ⟨wipe_sets hnd (by rw [← ra2.length, hlen]), ?_⟩
    have rs3 : RS X.K F3 σ1 (setsV is vs σv) := RS.sets is (rs.same (b2.trans b3).sm) ra2 es
    refine mt _ _ _ _ (ht _ H3 _ F3 M2 _ b3.rm rs3 h2) ?_
    rintro b H4 ⟨F4, M4, b4, h4⟩
    have b24 := b3.trans b4
    split
    · rename_i e
      rw [if_pos e] at h4
      refine me _ _ _ _ (he _ H4 _ F4 M4 _ b4.rm (rs3.same b4.sm) h4) ?_
      rintro yv H5 ⟨F5, M5, y5, b5, r5, h5⟩
      have b25 := b24.trans b5
      obtain ⟨k1, k2, k3⟩ := keepD b25
      refine ⟨vacc, k3, by rw [← ra.length]; omega, rfl, hlt, F5, M5, acc ++ [y5], vacc ++ [yv], ?_, sm2.trans b25.sm, k1, k2, upd_same, (ra.same b25.sm).append (.cons r5 .nil), by rw [List.length_append]; show acc.length + 1 ≤ j + 1; omega, h5⟩
      have b05 := b2.trans b25
      have x : RM X.K F5 M5 (upd H5 D (.lst (vacc ++ [yv]))) := hid_app b05.rm k1 k2
      refine ⟨b05.sm, x, ⟨fun c u hc nc => ?_, b05.fr.grow, fun c hc => ?_⟩, b05.fg⟩
      · have hcD : c ≠ D := fun z => by
          subst z
          rcases b1.fr.there c (by rw [hc]; exact Option.some_ne_none _) with _
          exact absurd nD (b1.fr.there c (by rw [hc]; exact Option.some_ne_none _))
        rw [upd_ne hcD]
        exact b05.fr.keep c u hc nc
      · by_cases hcD : c = D
        · subst hcD; rw [upd_same]; exact Option.some_ne_none _
        · rw [upd_ne hcD]; exact b05.fr.there c hc
    · rename_i e
      rw [if_neg e] at h4
      obtain ⟨k1, k2, k3⟩ := keepD b24
      exact ⟨rfl, hlt, F4, M4, acc, vacc, b2.trans b24, sm2.trans b24.sm, k1, k2, k3, ra.same b24.sm, by omega, h4⟩
  · have e : j = xs.length := by omega
    subst e
    rw [List.drop_length] at h2
    refine .inl ⟨s2 (Nat.le_refl _), ?_⟩
    have sm : Same F2 (upd F2 D (.lst vacc)) := same_upd nF2
    refine ⟨upd F2 D (.lst vacc), M2, _, ⟨b2.sm.trans sm, ⟨fun c u hc => ?_, fun c hc => ?_, fun c mo hc => ?_⟩, b2.fr, fun c hc => ?_⟩, .lst upd_same (ra.same sm), h2⟩
    · by_cases hcD : c = D
      · subst hcD; rw [upd_same] at hc; cases hc; exact hD
      · rw [upd_ne hcD] at hc; exact b2.rm.fr c u hc
    · have hcD : c ≠ D := fun z => hc (by rw [z]; exact nM2)
      rw [upd_ne hcD]; exact b2.rm.dj c hc
    · obtain ⟨u, e1, e2⟩ := b2.rm.mu c mo hc
      exact ⟨u, e1, e2.same sm⟩
    · by_cases hcD : c = D
      · subst hcD
        right; right
        cases q : H c with
        | none => rfl
        | some u => exact absurd nD (b1.fr.there c (by rw [q]; exact Option.some_ne_none _))
      · rw [upd_ne hcD] at hc; exact b2.fg c hc
theorem lcT_core (hnd : is.Nodup) (hi : LI X tg iter wi)
    (ht : ∀ (s : Shared) (H : Hp) (C : Addr) (cl : List (Str × Addr)) (fp : List Addr), LTs (Blk X scope s H C cl fp) ifs tt)
    (he : ∀ (s : Shared) (H : Hp) (C : Addr) (cl : List (Str × Addr)) (fp : List Addr), LE (Blk X scope s H C cl fp) elt te)
    {σv : L2.St} {H : Hp} {σ : PSt} {F : Hp} {M : Mem} {Q : PQ} {E : PXK} (tk : PTk X F M H E) (rm : RM X.K F M H) (rs : RS X.K F σ σv) (h : pLcT wi is tt te E σ M Q) : tLc (WI X tg iter) (gTup X.K is.length (gsN is)) (TBlk X scope ifs) (EBlk X scope elt) is σv H (LQ X.K F M H Q) := by
  refine (hi.run σv H σ F M _ E tk rm rs h).mono ?_
  rintro J H1 ⟨F1, M1, xs, b1, st, hz, h1⟩
  intro D nD
  exact lcT_turns (te := te) (tt := tt) (te' := EBlk X scope elt) (tt' := TBlk X scope ifs) X.K rfl hnd (fun σv H σ F M Q rm rs h s0 H0 C cl fp pins s I => (ht s0 H0 C cl fp).run σv H σ F M Q rm rs h pins s I)
    (fun σv H σ F M Q rm rs h s0 H0 C cl fp => (he s0 H0 C cl fp).run σv H σ F M Q noX PTk.no rm rs h)
    (fun σv H Q Q' h m => TBlk.mono h m) (fun σv H Q Q' h m => EBlk.mono h m) b1 rs st hz h1 nD
theorem LE.lcT (hnd : is.Nodup) (hown : own.map (·.2) = is) (hc : X.calm = true) (hN : X.N.Nodup) (hi : LI X (.Tuple els kk pt) iter wi) (ok : BlkOk X.N X.env.scope scope own)
    (hg : ∀ (s : Shared) (H : Hp) (C : Addr) (cl : List (Str × Addr)) (fp : List Addr), PGs (Blk X scope s H C cl fp) els (gsN is))
    (hel : ∀ (s : Shared) (H : Hp) (C : Addr) (cl : List (Str × Addr)) (fp : List Addr), (assignEach els (Blk X scope s H C cl fp).env).length = is.length ∧ (assignEach els (Blk X scope s H C cl fp).env).findIdx? (·.1) = none)
    (ht : ∀ (s : Shared) (H : Hp) (C : Addr) (cl : List (Str × Addr)) (fp : List Addr), LTs (Blk X scope s H C cl fp) ifs tt)
    (he : ∀ (s : Shared) (H : Hp) (C : Addr) (cl : List (Str × Addr)) (fp : List Addr), LE (Blk X scope s H C cl fp) elt te)
    (hs : ∀ v, foldedSetIterable iter X.env v = pure v := by intro _; rfl) : LE X (.ListComp elt [⟨.Tuple els kk pt, iter, ifs, 0⟩] scope pos) (pLcT wi is tt te) := by
  refine ⟨fun σv H σ F M Q E tk rm rs h => ?_⟩
  subst hown
  refine WE.of (pe_lc (own := own) (g := gTup X.K (own.map (·.2)).length (gsN (own.map (·.2)))) (tt := TBlk X scope ifs) (te := EBlk X scope elt) hc hN WI.pi ok (fun s0 H0 C cl fp => pg_tup hc (hg s0 H0 C cl fp) (hel s0 H0 C cl fp).1 (hel s0 H0 C cl fp).2) (fun s0 H0 C cl fp => ⟨fun pins s σ H Q I hh => hh s0 H0 C cl fp pins s I⟩) (fun s0 H0 C cl fp => ⟨fun pins s σ H Q I hh => hh s0 H0 C cl fp pins s I⟩) hs) ?_
  exact lcT_core hnd hi ht he tk rm rs h
theorem LS.setLcT (k : Nat) {y : Str} {py spos : Pos} (hnd : is.Nodup) (hown : own.map (·.2) = is) (hc : X.calm = true) (hN : X.N.Nodup) (hy : X.N[k]? = some y) (hyl : X.env.scope.names.lookup y = some .local)
    (hsw : swapsWith (.ListComp elt [⟨.Tuple els kk pt, iter, ifs, 0⟩] scope pos) (some (.Name y py)) spos.line X.env = pure true) (hi : LI X (.Tuple els kk pt) iter wi) (ok : BlkOk X.N X.env.scope scope own)
    (hg : ∀ (s : Shared) (H : Hp) (C : Addr) (cl : List (Str × Addr)) (fp : List Addr), PGs (Blk X scope s H C cl fp) els (gsN is))
    (hel : ∀ (s : Shared) (H : Hp) (C : Addr) (cl : List (Str × Addr)) (fp : List Addr), (assignEach els (Blk X scope s H C cl fp).env).length = is.length ∧ (assignEach els (Blk X scope s H C cl fp).env).findIdx? (·.1) = none)
    (ht : ∀ (s : Shared) (H : Hp) (C : Addr) (cl : List (Str × Addr)) (fp : List Addr), LTs (Blk X scope s H C cl fp) ifs tt)
    (he : ∀ (s : Shared) (H : Hp) (C : Addr) (cl : List (Str × Addr)) (fp : List Addr), LE (Blk X scope s H C cl fp) elt te)
    (hs : ∀ v, foldedSetIterable iter X.env v = pure v := by intro _; rfl) : LS X (.Assign [.Name y py] (.ListComp elt [⟨.Tuple els kk pt, iter, ifs, 0⟩] scope pos) spos) (pSet k (pLcT wi is tt te)) := by
  refine ⟨fun σv H σ F M D tk rm rs h => ?_⟩
  subst hown
  refine WS.of (ps_setLc (own := own) (g := gTup X.K (own.map (·.2)).length (gsN (own.map (·.2)))) (tt := TBlk X scope ifs) (te := EBlk X scope elt) hc hN hy hyl hsw WI.pi ok (fun s0 H0 C cl fp => pg_tup hc (hg s0 H0 C cl fp) (hel s0 H0 C cl fp).1 (hel s0 H0 C cl fp).2) (fun s0 H0 C cl fp => ⟨fun pins s σ H Q I hh => hh s0 H0 C cl fp pins s I⟩) (fun s0 H0 C cl fp => ⟨fun pins s σ H Q I hh => hh s0 H0 C cl fp pins s I⟩) hs) ?_
  have q := lcT_core (elt := elt) (ifs := ifs) (scope := scope) hnd hi ht he tk rm rs h
  have m : ∀ v H', LQ X.K F M H (fun x M1 => D.nx (σ.set k (some x)) M1) v H' → gName k v σv H' (LD X.K F M H D).nx := fun v H' ⟨F1, M1, y, b1, ry, hy⟩ => ⟨F1, M1, _, b1, (rs.same b1.sm).set k ry, hy⟩
  refine WI.mono q fun J H1 h1 => ?_
  intro D' nD
  obtain ⟨W, w0, w1⟩ := h1 D' nD
  refine ⟨W, w0, fun j m' H' w => ?_⟩
  rcases w1 j m' H' w with ⟨s1, s2⟩ | s
  · exact .inl ⟨s1, m _ _ s2⟩
  · exact .inr s
theorem w_lcT {E : PXK} {σ : PSt} {M : Mem} {Q : PQ} (h : wi E σ M fun xs M1 => xs.length ≤ sizeLine ∧ pLcTL is tt te xs [] σ M1 Q) : pLcT wi is tt te E σ M Q := h
end
/-- a comprehension without tests whose turns give f -/
theorem lcT_map {α : Type} {is : List Nat} {te : PTE} {σ : PSt} {M : Mem} {Q : PQ} (h : α → List PV) (f : α → PV) : ∀ (l : List α) (acc : List PV), (∀ a ∈ l, ∃ σ1, setsP is (h a) σ = some σ1 ∧ ∀ R : PQ, R (f a) M → te noX σ1 M R) →
    Q (.lst (acc ++ l.map f)) M → pLcTL is pYes te (l.map fun a => .tup (h a)) acc σ M Q
  | [], acc, _, q => by
    rw [List.map_nil, List.append_nil] at q
    exact q
  | a :: l, acc, he, q => by
    obtain ⟨σ1, e, h1⟩ := he a List.mem_cons_self
    show need (setsP is (h a) σ) fun σ1 => if true = true then te noX σ1 M fun y M2 => pLcTL is pYes te (l.map fun a => .tup (h a)) (acc ++ [y]) σ M2 Q else pLcTL is pYes te (l.map fun a => .tup (h a)) acc σ M Q
    refine need_by e ?_
    rw [if_pos rfl]
    refine h1 _ (lcT_map h f l (acc ++ [f a]) (fun b hb => he b (List.mem_cons_of_mem _ hb)) ?_)
    rw [List.append_assoc]
    exact q
end PL
namespace PL
open PySem PySem.Spec PyProof.Rows L2
theorem w_dnew {E : PXK} {σ : PSt} {M : Mem} {Q : PQ} (h : ∀ p, M p = none → Q (.ptr p) (M.put p (.dct p []))) : pDNew E σ M Q := h
theorem w_gsubD {to ti : PTE} {x : PV} {σ : PSt} {M : Mem} {R : PNx} (h : to noX σ M fun o M1 => ti noX σ M1 fun i M2 => kSetD o i x M2 fun M3 => R σ M3) : gpSubD to ti x σ M R := h
theorem w_pdget1 {to te : PTE} {E : PXK} {σ : PSt} {M : Mem} {Q : PQ} (h : to E σ M fun x M1 => dctOf M1 x ≠ none ∧ te E σ M1 fun y M2 => need (dctOf M2 x) fun kvs => kKey y fun k => Q ((atP kvs k).getD .non) M2) : pDGet1 to te E σ M Q := h
theorem w_pdget2 {to te tf : PTE} {E : PXK} {σ : PSt} {M : Mem} {Q : PQ} (h : to E σ M fun x M1 => dctOf M1 x ≠ none ∧ te E σ M1 fun y M2 => tf E σ M2 fun z M3 => need (dctOf M3 x) fun kvs => kKey y fun k => Q ((atP kvs k).getD z) M3) : pDGet2 to te tf E σ M Q := h
end PL
set_option Elab.async false
set_option linter.all false
set_option maxRecDepth 100000
/-! data that is equal to itself -/
namespace PL
open PySem PySem.Spec PyProof.Rows L2
def SelfD (n : Nat) (x : PV) : Prop := ∃ d, toD x = some d ∧ d.depth ≤ n ∧ PyData.eqv d d = true
def SelfDs (n : Nat) (xs : List PV) : Prop := ∃ ds, toDs xs = some ds ∧ PyData.depthAll ds ≤ n ∧ PyData.eqvAll ds ds = true
theorem SelfD.mono {n m : Nat} {x : PV} (h : SelfD n x) (l : n ≤ m) : SelfD m x := by
  obtain ⟨d, h1, h2, h3⟩ := h
  exact ⟨d, h1, Nat.le_trans h2 l, h3⟩
theorem SelfD.non {n : Nat} : SelfD n .non := ⟨.none, rfl, Nat.zero_le _, rfl⟩
theorem SelfD.int {n : Nat} {i : Int} : SelfD n (.int i) := ⟨.int i, rfl, Nat.zero_le _, by show (i == i) = true; exact beq_self_eq_true i⟩
theorem SelfD.bl {n : Nat} {b : Bool} : SelfD n (.bl b) := ⟨.bool b, rfl, Nat.zero_le _, by cases b <;> rfl⟩
theorem SelfD.str {n : Nat} {s : Str} (h : (PyData.str s).canLay0 = true) : SelfD n (.str s) := ⟨.str s, by unfold toD; rw [if_pos h], Nat.zero_le _, by show (s == s) = true; exact beq_self_eq_true s⟩
theorem SelfDs.all {n : Nat} : ∀ {xs : List PV}, (∀ x ∈ xs, SelfD n x) → SelfDs n xs
  | [], _ => ⟨[], rfl, Nat.zero_le _, rfl⟩
  | x :: xs, h => by
    obtain ⟨d, a1, a2, a3⟩ := h x List.mem_cons_self
    obtain ⟨ds, b1, b2, b3⟩ := SelfDs.all (xs := xs) fun y hy => h y (List.mem_cons_of_mem _ hy)
    refine ⟨d :: ds, by unfold toDs; rw [a1, b1], ?_, ?_⟩
    · show max _ _ ≤ n
      omega
    · show (PyData.eqv d d && PyData.eqvAll ds ds) = true
      rw [a3, b3]
      rfl
theorem SelfD.tup {n : Nat} {xs : List PV} (h : ∀ x ∈ xs, SelfD n x) : SelfD (n + 1) (.tup xs) := by
  obtain ⟨ds, b1, b2, b3⟩ := SelfDs.all h
  exact ⟨.tuple ds, by unfold toD; rw [b1]; rfl, by show PyData.depthAll ds + 1 ≤ n + 1; omega, b3⟩
theorem SelfD.lst {n : Nat} {xs : List PV} (h : ∀ x ∈ xs, SelfD n x) : SelfD (n + 1) (.lst xs) := by
  obtain ⟨ds, b1, b2, b3⟩ := SelfDs.all h
  exact ⟨.list ds, by unfold toD; rw [b1]; rfl, by show PyData.depthAll ds + 1 ≤ n + 1; omega, b3⟩
theorem eqP_self {x : PV} (e : eqF x x = none ∨ eqF x x = some true) (h : SelfD 64 x) {k : Bool → Prop} (q : k true) : eqP x x k := by
  obtain ⟨d, h1, h2, h3⟩ := h
  unfold eqP
  rcases e with e | e
  · rw [e]
    exact need_by h1 (need_by h1 ⟨h2, h2, by rw [h3]; exact q⟩)
  · rw [e]
    exact q
theorem eqF_self : ∀ x : PV, SelfD 64 x → eqF x x = none ∨ eqF x x = some true := by
  intro x h
  cases x with
  | non => exact .inr rfl
  | bl b => exact .inr (by show some (decide (b = b)) = _; rw [decide_eq_true rfl])
  | int b => exact .inr (by show some (decide (b = b)) = _; rw [decide_eq_true rfl])
  | str b => exact .inr (by show some (decide (b = b)) = _; rw [decide_eq_true rfl])
  | tup _ => exact .inl rfl
  | lst _ => exact .inl rfl
  | scr _ => exact .inl rfl
  | ptr _ => exact .inl rfl
  | obj _ _ => exact .inl rfl
  | ty _ => exact .inl rfl
  | dct _ => exact .inl rfl
  | exc _ _ _ => exact .inl rfl
  | rng _ _ => exact .inl rfl
  | tpd _ => exact .inl rfl
theorem w_eqSelf {x : PV} {M : Mem} {Q : PQ} (h : SelfD 64 x) (q : Q (.bl true) M) : oEq x x M Q := eqP_self (eqF_self x h) h q
theorem SelfD.ints {n : Nat} {xs : List Int} : SelfD (n + 1) (.tup (xs.map .int)) := SelfD.tup fun x hx => by
  obtain ⟨i, _, rfl⟩ := List.mem_map.mp hx
  exact SelfD.int
end PL
set_option Elab.async false
set_option linter.all false
set_option maxRecDepth 100000
/-! errors with fields: raised, caught, their fields read -/
namespace PL
open PySem PySem.Spec PyProof.Rows L2
section
variable {X : Cx}
/-- D.__init__(self, ..): D an own class without an __init__ of its own -/
structure BaseIn (K : PySem.W.Frag) (D : Addr) : Prop where
  s : PySem.W.specialIn K (.ref D) "__getattribute__" = some (some (.builtin "type.__getattribute__"))
  r : PySem.W.readsIn K D (.type "type") = true
  f : PySem.W.findCls K (.ref D) (.type "type") "__init__" = some (.val (.builtin "ValueError.__init__"))
/-! ### the promise of an __init__ that stores its arguments -/
def fldsOf : List Str → List V → List (Str × V) → List (Str × V)
  | n :: ns, v :: vs, acc => fldsOf ns vs ((n, v) :: acc)
  | _, _, acc => acc
def fldsP : List Str → List PV → List (Str × PV) → List (Str × PV)
  | n :: ns, v :: vs, acc => fldsP ns vs ((n, v) :: acc)
  | _, _, acc => acc
/-- the first of the arguments is a number that is not too long -/
def headI : List V → Prop
  | .int i :: _ => i.natAbs.log2 < 1920
  | _ => False
def headP : List PV → Prop
  | .int i :: _ => i.natAbs.log2 < 1920
  | _ => False
/-- both are numbers -/
def bothI : List V → Prop
  | [.int i, .int j] => i.natAbs.log2 < 1920 ∧ j.natAbs.log2 < 1920
  | _ => False
def bothP : List PV → Prop
  | [.int i, .int j] => i.natAbs.log2 < 1920 ∧ j.natAbs.log2 < 1920
  | _ => False
def spOex (C : Addr) (ns : List Str) (good : List V → Prop) : L2.Sp := fun vs H Q _ => ∃ a ws, vs = .ref a :: ws ∧ ws.length = ns.length ∧ good ws ∧ H a = some (exo a C none) ∧ ∀ d, H d = none → d ≠ a → Q .non (upd (upd H d (exd d (fldsOf ns ws []))) a (exo a C (some d)))
/-- the class C, made by its own __init__ -/
structure GEx (P : Program) (w : World) (K : PySem.W.Frag) (mg : Str → Option Value) (base : Heap) (x : Str) (C : Addr) (k : Nat) (ps ns : List Str) (good : List V → Prop) : Prop where
  ex : ∃ f fd, FnOk P w K mg base (L2.CX P w) k f fd ps (spOex C ns good) ∧ mg x = some (.ref C) ∧ OexC K C ∧ PySem.W.findIn K (.ref C) "__init__" = some (some (.ref f)) ∧ PySem.W.typeIn K (.ref f) = some (.type "function") ∧ Binds K fd ps []
/-! ### raise -/
def pRaiseF (C : Addr) (ns : List Str) (good : List PV → Prop) (ta : PTA) : PTS := fun D σ M => ta D.ex σ M fun xs M1 => good xs ∧ D.ex C (fldsP ns xs []) M1
/-! ### try .. except X as n, with fields -/
def pTryAsF (n i : Nat) (exm : Addr → Option Bool) (tb : PTS) (ts : Addr → Option Addr → Addr → PTS) : PTS := fun D σ M =>
  tb { D with ex := fun C fs M' => need (exm C) fun b =>
      (b = true → (fs = [] → ∀ a, M' a = none → ts C none a { nx := fun σ' M'' => D.nx (σ'.set i none) M'', rt := D.rt, ex := noX, bk := fun σ' M'' => D.bk (σ'.set i none) M'', ct := fun σ' M'' => D.ct (σ'.set i none) M'' } ((List.replicate n none).set i (some (.ptr a))) M') ∧
        (fs ≠ [] → ∀ a d, M' a = none → ts C (some d) a { nx := fun σ' M'' => D.nx (σ'.set i none) M'', rt := D.rt, ex := noX, bk := fun σ' M'' => D.bk (σ'.set i none) M'', ct := fun σ' M'' => D.ct (σ'.set i none) M'' } ((List.replicate n none).set i (some (.exc a d fs))) M')) ∧
      (b = false → D.ex C fs M') } σ M
/-! ### isinstance(error, Y) in the suite -/
end
end PL
namespace PySem.W
open PySem PySem.Calls PyProof.Rows Builtin
section
variable {prog : Program} {w : World} {A : Around} {E : Value → Shared → Prop} {s : Shared} {K : Frag} {x D : Addr} {ox : Obj} {od : Option Obj}
end
end PySem.W
namespace PL
open PySem PySem.Spec PyProof.Rows L2
section
variable {X : Cx}
def rIsF (K : PySem.W.Frag) (D a : Addr) (d : Option Addr) : List V → Hp → VK → Prop := fun xs H Q => ∃ (c : V) (cv : Value) (b : Bool), xs = [.ref a, c] ∧ (∀ u, RelV c u → u = cv) ∧ PySem.W.kitOne K (.ref D) cv = some b ∧ (d = none ∨ ∃ dd vs, d = some dd ∧ H dd = some (.xd vs)) ∧ Q (.bl b) H
def isErr (a : Addr) (d : Option Addr) : PV → Prop
  | .ptr b => b = a ∧ d = none
  | .exc b dd _ => b = a ∧ d = some dd
  | _ => False
def kIsF (a : Addr) (d : Option Addr) (b : Option Bool) (x : PV) (M : Mem) (Q : PQ) : Prop := isErr a d x ∧ need b fun b => Q (.bl b) M
/-! ### error.f in the suite -/
def kXf (a : Addr) (d : Option Addr) (f : Str) (x : PV) (M : Mem) (Q : PQ) : Prop := match x with
  | .exc b dd fs => b = a ∧ d = some dd ∧ need (fs.lookup f) fun v => Q v M
  | _ => False
end
end PL
set_option Elab.async false
set_option linter.all false
set_option maxRecDepth 100000
/-! errors with fields: their __init__ -/
namespace PL
open PySem PySem.Spec PyProof.Rows L2
def tJn (ts : List TE) : TE := fun σ H Q => tJs ts Str.empty σ H fun out H1 => Q (.str out) H1
section
variable {K : PySem.W.Frag} {C a : Addr} {H : Hp} {D : Ends} {m1 m2 m3 : Str} {n1 n2 : Str} {i j : Int} {v : V}
end
section
variable {P : Program} {w : World} {K : PySem.W.Frag} {mg : Str → Option Value} {base : Heap} {C : Addr}
end
end PL
/-! ### the head stepper -/
namespace PL
open PySem PySem.Spec PyProof.Rows L2
theorem w_raiseF {C : Addr} {ns : List Str} {good : List PV → Prop} {ta : PTA} {dn db dc : PNx} {dr : PQ} {de : PXK} {σ : PSt} {M : Mem} (h : ta de σ M fun xs M1 => good xs ∧ de C (fldsP ns xs []) M1) : pRaiseF C ns good ta (PEnds.mk dn dr de db dc) σ M := h
theorem w_tryF {n i : Nat} {exm : Addr → Option Bool} {tb : PTS} {ts : Addr → Option Addr → Addr → PTS} {dn db dc : PNx} {dr : PQ} {de : PXK} {σ : PSt} {M : Mem}
    (h : tb (PEnds.mk dn dr (fun C fs M' => need (exm C) fun b =>
      (b = true → (fs = [] → ∀ a, M' a = none → ts C none a (PEnds.mk (fun σ' M'' => dn (σ'.set i none) M'') dr noX (fun σ' M'' => db (σ'.set i none) M'') (fun σ' M'' => dc (σ'.set i none) M'')) ((List.replicate n none).set i (some (.ptr a))) M') ∧
        (fs ≠ [] → ∀ a d, M' a = none → ts C (some d) a (PEnds.mk (fun σ' M'' => dn (σ'.set i none) M'') dr noX (fun σ' M'' => db (σ'.set i none) M'') (fun σ' M'' => dc (σ'.set i none) M'')) ((List.replicate n none).set i (some (.exc a d fs))) M')) ∧
      (b = false → de C fs M')) db dc) σ M) : pTryAsF n i exm tb ts (PEnds.mk dn dr de db dc) σ M := h
theorem w_isFp {a : Addr} {b : Option Bool} {M : Mem} {Q : PQ} (h : need b fun b => Q (.bl b) M) : kIsF a none b (.ptr a) M Q := ⟨⟨rfl, rfl⟩, h⟩
theorem w_isFx {a d : Addr} {fs : List (Str × PV)} {b : Option Bool} {M : Mem} {Q : PQ} (h : need b fun b => Q (.bl b) M) : kIsF a (some d) b (.exc a d fs) M Q := ⟨⟨rfl, rfl⟩, h⟩
theorem w_xf {a d : Addr} {f : Str} {x : PV} {fs : List (Str × PV)} {M : Mem} {Q : PQ} (e : fs.lookup f = some x) (h : Q x M) : kXf a (some d) f (.exc a d fs) M Q := ⟨rfl, rfl, need_by e h⟩
end PL
set_option Elab.async false
set_option linter.all false
set_option maxRecDepth 100000
/-! enumerate(list), x in list, isinstance(object, C) -/
namespace PL
open PySem PySem.Spec PyProof.Rows L2
section
variable {X : Cx} {a b c e tg : Expr} {ta tb tc te to : PTE} {pos p : Pos}
/-! ### enumerate(list) -/
def enumF (k : Nat) : List PV → List PV
  | [] => []
  | x :: xs => .tup [.int k, x] :: enumF (k + 1) xs
theorem enumF_len : ∀ (k : Nat) (xs : List PV), (enumF k xs).length = xs.length
  | _, [] => rfl
  | k, x :: xs => congrArg (· + 1) (enumF_len (k + 1) xs)
theorem enumF_at : ∀ {xs : List PV} {k i : Nat} {x : PV}, xs[i]? = some x → (enumF k xs)[i]? = some (.tup [.int ((k + i : Nat) : Int), x])
  | [], _, _, _, h => by simp at h
  | y :: ys, k, 0, x, h => by
    cases h
    rfl
  | y :: ys, k, i + 1, x, h => by
    show (enumF (k + 1) ys)[i]? = _
    rw [enumF_at (k := k + 1) (i := i) (x := x) h, show k + 1 + i = k + (i + 1) by omega]
def piE (ta : PTE) : PTI := fun E σ M Q => ta E σ M fun x M1 => need (lstF x) fun xs => Q (enumF 0 xs) M1
/-! ### x in list -/
def inLP (f : Bool → Bool) : PO2 := fun x y M Q => need (toM M x) fun d => need (toM M y) fun e => d.depth ≤ 64 ∧ e.depth ≤ 64 ∧ ∃ ds, e = .list ds ∧ Q (.bl (f (ds.any fun z => PyData.eqv z d))) M
abbrev oInL : PO2 := inLP id
abbrev oNinL : PO2 := inLP not
theorem LE.inL (hu : X.A.units + 65 < cLine) (ha : LE X a ta) (hb : LE X b tb) (hm : behindInMarks .In b = false := by rfl) : LE X (.Compare a [.In] [b] pos) (pBin oInL ta tb) := LE.cmp (L2.op_inD hu) (fun F M H x y xv yv Q Qv rm rx ry h k => by
  obtain ⟨d, e1, h⟩ := need_of h
  obtain ⟨e, e2, h1, h2, ds, rfl, h3⟩ := need_of h
  obtain ⟨a1, a2⟩ := toM_dp rm rx e1
  obtain ⟨b1, b2⟩ := toM_dp rm ry e2
  exact ⟨d, ds, a1, b1, shaped_of a2 h1, shaped_of b2 h2, k _ _ (LQ.now rm (.bl _) h3)⟩) hm ha hb
theorem LT.inL (hu : X.A.units + 65 < cLine) (ha : LE X a ta) (hb : LE X b tb) (hm : behindInMarks .In b = false := by rfl) : LT X (.Compare a [.In] [b] pos) (pTest (pBin oInL ta tb)) := LT.cmp (L2.op_inD hu) (fun F M H x y xv yv Q Qv rm rx ry h k => by
  obtain ⟨d, e1, h⟩ := need_of h
  obtain ⟨e, e2, h1, h2, ds, rfl, h3⟩ := need_of h
  obtain ⟨a1, a2⟩ := toM_dp rm rx e1
  obtain ⟨b1, b2⟩ := toM_dp rm ry e2
  exact ⟨d, ds, a1, b1, shaped_of a2 h1, shaped_of b2 h2, k _ _ (LQ.now rm (.bl _) h3)⟩) hm ha hb
/-! ### isinstance(object, C) -/
def kIsC (C : Addr) (x : PV) (M : Mem) (Q : PQ) : Prop := match x with
  | .obj D _ => D = C ∧ Q (.bl true) M
  | _ => False
end
end PL
set_option Elab.async false
set_option linter.all false
set_option maxRecDepth 100000
/-! divmod -/
namespace PL
open PySem PySem.Spec PyProof.Rows L2
section
variable {X : Cx} {a b : Expr} {t : PTA} {pos p : Pos}
def kDivmod (x y : PV) (M : Mem) (Q : PQ) : Prop := match x, y with | .int i, .int j => L2.CDiv i j ∧ Q (.tup [.int (i / j), .int (i % j)]) M | _, _ => False
theorem LE.divmod (hg : Gl X "divmod") (hm : X.mg "divmod" = none) (ha : LA X [a, b] t) (he : starEach [a, b] X.env = (false, eval a X.env) :: starEach [b] X.env := by rfl) (hpl : (backTo pos (starEach [b] X.env)).any (·.1) = false := by rfl) : LE X (.Call (.Name "divmod" p) [a, b] [] pos) (pCallB (on2 kDivmod) t) := by
  refine LE.callB call_divmod (fun F M H xs vs Q Qv rm rx h k => ?_) hg hm (by decide +kernel) ha (he := he) (hpl := hpl)
  obtain ⟨x, y, ex, h1⟩ := on2_of h
  subst ex
  obtain ⟨v, w, ev, rx1, ry1⟩ := rx.two
  subst ev
  cases rx1 <;> cases ry1 <;> first
    | exact h1.elim
    | exact ⟨_, _, rfl, h1.1, fun l nl => k _ _ ⟨_, M, _, rm.beh nl, .tup (SqT.of upd_same) (.cons (.int _) (.cons (.int _) .nil)), h1.2⟩⟩
end
end PL
set_option Elab.async false
set_option linter.all false
namespace PL
open PySem PySem.Spec PyProof.Rows PyProof L2 PySem.W
variable {X : Cx} {tg : Expr}
def iRngV (te : TE) : TI := fun σ H R => te σ H fun x H1 => ∃ a lo hi, x = .ref a ∧ H1 a = some (.rng lo hi) ∧ (-(2 ^ 62) ≤ lo ∧ lo < 2 ^ 62 ∧ -(2 ^ 62) ≤ hi ∧ hi < 2 ^ 62) ∧ R (Itr lo (hi - lo).toNat) H1
/-! ### a range as a value -/
section
variable {e a : Expr} {te : PTE} {t : PTA} {pos p : Pos}
def kRg1 (x : PV) (M : Mem) (Q : PQ) : Prop := match x with | .int j => Q (.rng 0 j) M | _ => False
def kRg2 (x y : PV) (M : Mem) (Q : PQ) : Prop := match x, y with | .int i, .int j => Q (.rng i j) M | _, _ => False
/-- `for x in r`, r a range object -/
def piV (te : PTE) : PTI := fun E σ M Q => te E σ M fun x M1 => match x with | .rng lo hi => (-(2 ^ 62) ≤ lo ∧ lo < 2 ^ 62 ∧ -(2 ^ 62) ≤ hi ∧ hi < 2 ^ 62) ∧ Q (rngP lo (hi - lo).toNat) M1 | _ => False
theorem w_rg1 {j : Int} {M : Mem} {Q : PQ} (h : Q (.rng 0 j) M) : kRg1 (.int j) M Q := h
theorem w_rg2 {i j : Int} {M : Mem} {Q : PQ} (h : Q (.rng i j) M) : kRg2 (.int i) (.int j) M Q := h
end
end PL
set_option Elab.async false
set_option linter.all false
namespace PL
open PySem PySem.Spec PyProof.Rows PyProof L2 PySem.W
section
variable {X : Cx} {a e : Expr} {to te : PTE} {pos : Pos}
end
end PL
set_option Elab.async false
set_option linter.all false
namespace PL
open PySem PySem.Spec PyProof.Rows PyProof L2 PySem.W
/-! ### a comprehension with two clauses, no tests -/
/-- the inner walk; Q is told the list so far -/
def pLcI (i1 : Nat) (te : PTE) : List PV → List PV → PSt → Mem → (List PV → Mem → Prop) → Prop
  | [], acc => fun _ M Q => Q acc M
  | x :: xs, acc => fun σ M Q => te noX (σ.set i1 (some x)) M fun y M1 => acc.length < sizeLine ∧ pLcI i1 te xs (acc ++ [y]) σ M1 Q
def pLcO (i : Nat) (wi1 : PTI) (i1 : Nat) (te : PTE) : List PV → List PV → PSt → Mem → (List PV → Mem → Prop) → Prop
  | [], acc => fun _ M Q => Q acc M
  | x :: xs, acc => fun σ M Q => wi1 noX ((σ.set i1 none).set i (some x)) M fun ys M1 => pLcI i1 te ys acc ((σ.set i1 none).set i (some x)) M1 fun acc' M2 => pLcO i wi1 i1 te xs acc' σ M2 Q
/-- the new list never changes -/
def pLc2 (wi : PTI) (i : Nat) (wi1 : PTI) (i1 : Nat) (te : PTE) : PTE := fun E σ M Q => wi E σ M fun xs M1 => pLcO i wi1 i1 te xs [] σ M1 fun acc M2 => Q (.lst acc) M2
/-- the new list may change -/
def pLc2M (wi : PTI) (i : Nat) (wi1 : PTI) (i1 : Nat) (te : PTE) : PTE := fun E σ M Q => wi E σ M fun xs M1 => pLcO i wi1 i1 te xs [] σ M1 fun acc M2 => ∀ p, M2 p = none → Q (.ptr p) (M2.put p (.lst acc))
theorem RS.setW {K : PySem.W.Frag} {F : Hp} {σ : PSt} {σv : L2.St} (r : RS K F σ σv) (i : Nat) : RS K F (σ.set i none) (σv.set i none) := by
  refine ⟨by rw [List.length_set, List.length_set, r.len], fun j y h => ?_⟩
  by_cases hj : i = j
  · subst hj
    rw [List.getElem?_set] at h
    rw [if_pos rfl] at h
    split at h <;> cases h
  · rw [List.getElem?_set_ne hj] at h ⊢
    exact r.at_ j y h
theorem keepD {K : PySem.W.Frag} {F M H Fa Ma Ha} {D : Addr} {o : HO} (nF : F D = none) (nM : M D = none) (hD : H D = some o) (b : Beh K F M H Fa Ma Ha) : Fa D = none ∧ Ma D = none ∧ Ha D = some o := by
  refine ⟨?_, ?_, b.fr.keep D _ hD nM⟩
  · cases q : Fa D with
    | none => rfl
    | some u =>
      rcases b.fg D (by rw [q]; exact Option.some_ne_none _) with z | z | z
      · exact absurd nF z
      · exact absurd nM z
      · rw [hD] at z; cases z
  · cases q : Ma D with
    | none => rfl
    | some u =>
      rcases b.fr.grow D (by rw [q]; exact Option.some_ne_none _) with z | z
      · exact absurd nM z
      · rw [hD] at z; cases z
theorem lc_finF {K : PySem.W.Frag} {F M H F1 M1 H1 F2 M2 H2} {D : Addr} {acc : List PV} {vacc : List V} {Q : PQ} (b1 : Beh K F M H F1 M1 H1) (nD : H1 D = none) (b2 : Beh K F M H F2 M2 H2) (nF2 : F2 D = none) (nM2 : M2 D = none) (hD : H2 D = some (.lst vacc)) (ra : RAll K F2 acc vacc) (h2 : Q (.lst acc) M2) : LQ K F M H Q (.ref D) H2 := by
  have sm : Same F2 (upd F2 D (.lst vacc)) := same_upd nF2
  refine ⟨upd F2 D (.lst vacc), M2, _, ⟨b2.sm.trans sm, ⟨fun c u hc => ?_, fun c hc => ?_, fun c mo hc => ?_⟩, b2.fr, fun c hc => ?_⟩, .lst upd_same (ra.same sm), h2⟩
  · by_cases hcD : c = D
    · subst hcD; rw [upd_same] at hc; cases hc; exact hD
    · rw [upd_ne hcD] at hc; exact b2.rm.fr c u hc
  · have hcD : c ≠ D := fun z => hc (by rw [z]; exact nM2)
    rw [upd_ne hcD]; exact b2.rm.dj c hc
  · obtain ⟨u, e1, e2⟩ := b2.rm.mu c mo hc
    exact ⟨u, e1, e2.same sm⟩
  · by_cases hcD : c = D
    · subst hcD
      right; right
      cases q : H c with
      | none => rfl
      | some u => exact absurd nD (b1.fr.there c (by rw [q]; exact Option.some_ne_none _))
    · rw [upd_ne hcD] at hc; exact b2.fg c hc
section
variable {X : Cx} {elt iter iter1 : Expr} {scope : Scope} {x x1 : Str} {i i1 : Nat} {pos pt pt1 : Pos} {wi wi1 : PTI} {te : PTE}
def IBlk (X : Cx) (scope : Scope) (tg it : Expr) : TI := fun σ H R => ∀ s0 H0 C cl fp, WI (Blk X scope s0 H0 C cl fp) tg it σ H R
/-! one clause, the new list may change -/
def pLcM (wi : PTI) (i : Nat) (te : PTE) : PTE := fun E σ M Q => wi E σ M fun xs M1 => pLcI i te xs [] σ M1 fun acc M2 => ∀ p, M2 p = none → Q (.ptr p) (M2.put p (.lst acc))
end
theorem w_lc2 {wi wi1 : PTI} {i i1 : Nat} {te : PTE} {E : PXK} {σ : PSt} {M : Mem} {Q : PQ} (h : wi E σ M fun xs M1 => pLcO i wi1 i1 te xs [] σ M1 fun acc M2 => Q (.lst acc) M2) : pLc2 wi i wi1 i1 te E σ M Q := h
theorem w_lc2M {wi wi1 : PTI} {i i1 : Nat} {te : PTE} {E : PXK} {σ : PSt} {M : Mem} {Q : PQ} (h : wi E σ M fun xs M1 => pLcO i wi1 i1 te xs [] σ M1 fun acc M2 => ∀ p, M2 p = none → Q (.ptr p) (M2.put p (.lst acc))) : pLc2M wi i wi1 i1 te E σ M Q := h
theorem w_lcM {wi : PTI} {i : Nat} {te : PTE} {E : PXK} {σ : PSt} {M : Mem} {Q : PQ} (h : wi E σ M fun xs M1 => pLcI i te xs [] σ M1 fun acc M2 => ∀ p, M2 p = none → Q (.ptr p) (M2.put p (.lst acc))) : pLcM wi i te E σ M Q := h
end PL
set_option Elab.async false
set_option linter.all false
namespace PL
open PySem PySem.Spec PyProof.Rows PyProof L2 PySem.W
/-! ### a constant of the program that is data: a global tuple -/
/-- v stands in the scope K and is x -/
def KIs (K : PySem.W.Frag) (x : PV) (v : Value) : Prop := ∃ u : V, RelV u v ∧ ∀ F, R K F x u
theorem KIs.int {K : PySem.W.Frag} {i : Int} {t : Tok} : KIs K (.int i) (.int i t) := ⟨.int i, ⟨t, rfl⟩, fun _ => .int i⟩
def KAll (K : PySem.W.Frag) : List PV → List Value → Prop
  | [], [] => True
  | x :: xs, v :: vs => KIs K x v ∧ KAll K xs vs
  | _, _ => False
theorem KAll.vals {K : PySem.W.Frag} : ∀ {xs : List PV} {vs : List Value}, KAll K xs vs → ∃ us : List V, Vals us vs ∧ ∀ F, RAll K F xs us
  | [], [], _ => ⟨[], .nil, fun _ => .nil⟩
  | x :: xs, v :: vs, h => by
    obtain ⟨⟨u, hu, hr⟩, ht⟩ := h
    obtain ⟨us, h1, h2⟩ := ht.vals
    exact ⟨u :: us, .cons hu h1, fun F => .cons (hr F) (h2 F)⟩
theorem KIs.tup {K : PySem.W.Frag} {xs : List PV} {a : Addr} {o : Obj} {its : List Value} {n : Nat} (hk : K.lookup a = some o) (hc : o.cls = .type "tuple") (hd : o.data = .seq its.toArray n) (hz : its.length ≤ sizeLine) (h : KAll K xs its) : KIs K (.tup xs) (.ref a) := by
  obtain ⟨us, h1, h2⟩ := h.vals
  exact ⟨.ref a, rfl, fun F => .tup (.inr ⟨o, its.toArray, n, hk, hc, hd, by simpa using hz, by simpa using h1⟩) (h2 F)⟩
theorem LE.globT {X : Cx} {x : Str} {pos : Pos} {pv : PV} (hg : Gl X x) (hm : ∃ v, X.mg x = some v ∧ KIs X.K pv v) (hd : (x == ("__debug__" : Str)) = false := by decide) : LE X (.Name x pos) (pC pv) := by
  refine ⟨fun σv H σ F M Q E tk rm rs h => ?_⟩
  obtain ⟨v, hm, u, hu, hr⟩ := hm
  exact WE.of (pe_glob (v := u) hg hm hu hd) (LQ.now rm (hr F) h)
end PL
set_option Elab.async false
set_option linter.all false
namespace PL
open PySem PySem.Spec PyProof.Rows PyProof L2 PySem.W
section
variable {X : Cx} {es : List Expr} {b : Expr} {t : TA} {tb : TE} {pos p1 p2 : Pos}
/-- (e, ..) + t, of which it is known that it has no dict -/
def kNewT (xs : List V) (H : Hp) (Q : VK) : Prop := ∀ p o, o.dict = none → H p = none → Q (.ref p) (upd H p (.frz o (.tup xs)))
def tTupN (t : TA) : TE := fun σ H Q => t σ H fun xs H1 => xs.length ≤ sizeLine ∧ kNewT xs H1 Q
def rCatN (K : PySem.W.Frag) : R2 := fun x y H Q => ∃ a b o xs ys, x = .ref a ∧ y = .ref b ∧ H a = some (.frz o (.tup xs)) ∧ o.dict = none ∧ xs ≠ [] ∧ SqT K H b ys ∧ xs.length + ys.length ≤ sizeLine ∧
  (ys = [] → Q (.ref a) H) ∧ (ys ≠ [] → kNewT (xs ++ ys) H Q)
/-- a method of a tuple without a dict -/
def tBMT (r : V → List V → Hp → VK → Prop) (to : TE) (t : TA) : TE := fun σ H Q => to σ H fun x H1 => (∃ a o xs, x = .ref a ∧ H1 a = some (.frz o (.tup xs)) ∧ o.dict = none) ∧ t σ H1 fun xs H2 => r x xs H2 Q
end
section
variable {X : Cx} {e a b : Expr} {es : List Expr} {te ta tb : PTE} {t : PTA} {pos : Pos}
def oCatN (xs : List PV) (y : PV) (M : Mem) (Q : PQ) : Prop := match y with
  | .tup ys => xs.length + ys.length ≤ sizeLine ∧ Q (.tpd (xs ++ ys)) M
  | _ => False
def pCatN (t : PTA) (tb : PTE) : PTE := fun E σ M Q => t E σ M fun xs M1 => tb E σ M1 fun y M2 => oCatN xs y M2 Q
/-- it is a tuple -/
def asT : PV → PV
  | .tpd xs => .tup xs
  | x => x
theorem R.asT {K : PySem.W.Frag} {F : Hp} {x : PV} {v : V} (r : R K F x v) : R K F (asT x) v := by
  cases x with
  | tpd xs =>
    cases r with
    | tpd h d q => exact .tup (.inl (.inr ⟨_, h⟩)) q
  | _ => exact r
def pAsT (te : PTE) : PTE := fun E σ M Q => te E σ M fun x M1 => Q (asT x) M1
theorem LE.asT (h : LE X e te) : LE X e (pAsT te) := by
  refine ⟨fun σv H σ F M Q E tk rm rs hh => (h.run σv H σ F M _ E tk rm rs hh).mono ?_⟩
  rintro v H1 ⟨F1, M1, x, b1, rx, hx⟩
  exact ⟨F1, M1, _, b1, rx.asT, hx⟩
/-! ### t.index(i) -/
def kTidx (xs : List PV) (x : PV) (M : Mem) (Q : PQ) : Prop := match x with
  | .int z => need (intsOf xs) fun ns => ∃ j : Nat, ns[j]? = some z ∧ (∀ m, m < j → ns[m]? ≠ some z) ∧ Q (.int j) M
  | _ => False
def kTp (o : PV) (k : List PV → Prop) : Prop := match o with
  | .tpd xs => k xs
  | _ => False
def pTIdx (to te : PTE) : PTE := fun E σ M Q => to E σ M fun o M1 => kTp o fun xs => te E σ M1 fun x M2 => kTidx xs x M2 Q
theorem w_catN {E : PXK} {σ : PSt} {M : Mem} {Q : PQ} (h : t E σ M fun xs M1 => tb E σ M1 fun y M2 => oCatN xs y M2 Q) : pCatN t tb E σ M Q := h
theorem w_asT {E : PXK} {σ : PSt} {M : Mem} {Q : PQ} (h : te E σ M fun x M1 => Q (asT x) M1) : pAsT te E σ M Q := h
theorem w_tidx {E : PXK} {σ : PSt} {M : Mem} {Q : PQ} (h : ta E σ M fun o M1 => kTp o fun xs => te E σ M1 fun x M2 => kTidx xs x M2 Q) : pTIdx ta te E σ M Q := h
theorem w_kTp {xs : List PV} {k : List PV → Prop} (h : k xs) : kTp (.tpd xs) k := h
/-! ### xs + ys as a list that may change; the left one is forgotten -/
def oAddLM : PO2 := fun x y M Q => need (lstM M x) fun xs => need (lstM M y) fun ys => xs.length + ys.length ≤ sizeLine ∧ ∀ q, M q = none → Q (.ptr q) (M.put q (.lst (xs ++ ys)))
def oAddLD : PO2 := fun x y M Q => match x with
  | .ptr p => need (lstM M x) fun xs => need (lstM M y) fun ys => xs.length + ys.length ≤ sizeLine ∧ ∀ q, (M.drop p) q = none → Q (.ptr q) ((M.drop p).put q (.lst (xs ++ ys)))
  | _ => False
end
end PL
set_option Elab.async false
set_option linter.all false
namespace PL
open PySem PySem.Spec PyProof.Rows PyProof L2 PySem.W
section
variable {X : Cx} {a e : Expr} {to te : PTE} {pos : Pos}
def kTCnt (xs : List PV) (x : PV) (M : Mem) (Q : PQ) : Prop := match x with
  | .int z => need (intsOf xs) fun ns => Q (.int ((ns.countP fun y => y == z : Nat) : Int)) M
  | _ => False
def pTCnt (to te : PTE) : PTE := fun E σ M Q => to E σ M fun o M1 => kTp o fun xs => te E σ M1 fun x M2 => kTCnt xs x M2 Q
theorem w_tcnt {E : PXK} {σ : PSt} {M : Mem} {Q : PQ} (h : to E σ M fun o M1 => kTp o fun xs => te E σ M1 fun x M2 => kTCnt xs x M2 Q) : pTCnt to te E σ M Q := h
theorem w_kTCnt {ns : List Int} {z : Int} {M : Mem} {Q : PQ} (h : Q (.int ((ns.countP fun y => y == z : Nat) : Int)) M) : kTCnt (ns.map .int) (.int z) M Q := need_by (intsOf_map ns) h
end
section
variable {X : Cx} {a b c e : Expr} {es : List Expr} {ta tb tc : PTE} {t : PTA} {pos : Pos}
/-! ### t + (e, ..), and with such a tuple ahead -/
def rCatR (K : PySem.W.Frag) : R2 := fun x y H Q => ∃ a b o xs ys, x = .ref a ∧ y = .ref b ∧ SqT K H a xs ∧ H b = some (.frz o (.tup ys)) ∧ o.dict = none ∧ ys ≠ [] ∧ xs.length + ys.length ≤ sizeLine ∧
  (xs = [] → Q (.ref b) H) ∧ (xs ≠ [] → kNewT (xs ++ ys) H Q)
def oCatR (x : PV) (ys : List PV) (M : Mem) (Q : PQ) : Prop := match x with
  | .tup xs => xs.length + ys.length ≤ sizeLine ∧ Q (.tpd (xs ++ ys)) M
  | _ => False
def pCatR (ta : PTE) (t : PTA) : PTE := fun E σ M Q => ta E σ M fun x M1 => t E σ M1 fun ys M2 => oCatR x ys M2 Q
/-- t + u, t known to have no dict -/
def oCatD : PO2 := fun x y M Q => match x, y with
  | .tpd xs, .tup ys => xs ≠ [] ∧ xs.length + ys.length ≤ sizeLine ∧ Q (.tpd (xs ++ ys)) M
  | _, _ => False
/-! ### a <= b < c -/
theorem LT.chain {op op' : CmpOp} {p q : Int → Int → Bool} (ho : OpR X (compareOp op) (rI0 fun i j => .bl (p i j))) (ho' : OpR X (compareOp op') (rI0 fun i j => .bl (q i j)))
    (hm : lastMarks [op, op'] [b, c] = false) (ha : LE X a ta) (hb : LE X b tb) (hc : LE X c tc) : LT X (.Compare a [op, op'] [b, c] pos) (pTest (pChain p q ta tb tc)) := by
  refine ⟨fun σv H σ F M Q E tk rm rs h => WT.of (pt_chain ho ho' WE.pe WE.pe WE.pe hm) ?_⟩
  refine seq2 ha hb tk rm rs h fun x y xv yv F2 M2 H2 bh rx ry h2 => ?_
  cases rx <;> cases ry <;> first
    | exact h2.elim
    | skip
  rename_i i j
  dsimp only at h2
  refine ⟨i, j, rfl, rfl, p i j, rfl, ?_⟩
  split
  · rename_i hp
    rw [if_pos hp] at h2
    refine (hc.run σv H2 σ F2 M2 _ E (tk.tr bh) bh.rm (rs.same bh.sm) h2).mono ?_
    rintro v H3 ⟨F3, M3, z, b3, rz, hz⟩
    cases rz <;> first
      | exact hz.elim
      | exact ⟨j, _, rfl, rfl, _, rfl, F3, M3, bh.trans b3, hz⟩
  · rename_i hp
    rw [if_neg hp] at h2
    exact ⟨_, rfl, F2, M2, bh, h2⟩
theorem LT.lele (ha : LE X a ta) (hb : LE X b tb) (hc : LE X c tc) (hm : lastMarks [CmpOp.LtE, CmpOp.LtE] [b, c] = false := by with_unfolding_all rfl) : LT X (.Compare a [.LtE, .LtE] [b, c] pos) (pTest (pChain (fun i j => decide (i ≤ j)) (fun i j => decide (i ≤ j)) ta tb tc)) :=
  LT.chain op_le op_le hm ha hb hc
theorem w_catR {E : PXK} {σ : PSt} {M : Mem} {Q : PQ} (h : ta E σ M fun x M1 => t E σ M1 fun ys M2 => oCatR x ys M2 Q) : pCatR ta t E σ M Q := h
end
end PL
set_option Elab.async false
set_option linter.all false
set_option maxRecDepth 100000
namespace PL
open PySem PySem.Spec PyProof.Rows L2
section
variable {X : Cx} {a b : Expr} {ta tb : PTE} {pos : Pos}
/-! ### [..] * n, a list that may change -/
def oRepM : PO2 := fun x y M Q => match x, y with
  | .lst xs, .int k => (0 ≤ k ∧ k < 2 ^ 62) ∧ xs.length * k.toNat ≤ sizeLine ∧ ∀ q, M q = none → Q (.ptr q) (M.put q (.lst (List.replicate k.toNat xs).flatten))
  | _, _ => False
end
end PL
set_option Elab.async false
set_option linter.all false
set_option maxRecDepth 100000
namespace PL
open PySem PySem.Spec PyProof.Rows L2
/-! ### [elt for x in xs], xs a list that may change, but doesn't meanwhile -/
def pLcV (x0 : PV) (xs0 : List PV) (i : Nat) (te : PTE) : List PV → List PV → PSt → Mem → (List PV → Mem → Prop) → Prop
  | [], acc => fun _ M Q => Q acc M
  | x :: xs, acc => fun σ M Q => te noX (σ.set i (some x)) M fun y M1 => acc.length < sizeLine ∧ lstOf M1 x0 = some xs0 ∧ pLcV x0 xs0 i te xs (acc ++ [y]) σ M1 Q
def pLcLv (tl : PTE) (i : Nat) (te : PTE) : PTE := fun E σ M Q => tl E σ M fun x M1 => need (lstOf M1 x) fun xs => pLcV x xs i te xs [] σ M1 fun acc M2 => Q (.lst acc) M2
section
variable {X : Cx} {elt iter : Expr} {scope : Scope} {x : Str} {i : Nat} {pos pt : Pos} {tl te : PTE}
end
end PL
set_option Elab.async false
set_option linter.all false
set_option maxRecDepth 100000
namespace PL
open PySem PySem.Spec PyProof.Rows L2
section
variable {X : Cx} {a b c e : Expr} {ta tb tc te to : PTE} {pos p : Pos} {es : List Expr} {t : PTA} {x : Str}
/-! sorted of a list of data that are alike (tuples in tuples) -/
def sortZ {α : Type} (xs : List α) (ds : List PyData) : List α := ((xs.zip ds).mergeSort (PySem.W.dataLe false Prod.snd)).map Prod.fst
def rSortedD (K : PySem.W.Frag) : List V → Hp → VK → Prop := fun vs H Q => ∃ (a : Addr) (xs : List V) (ds : List PyData), vs = [V.ref a] ∧ SqL K H a xs ∧ DpAll K H xs ds ∧ PySem.W.AllAlike ds ∧ PySem.W.Sortable ds ∧ (∀ d ∈ ds, d.depth ≤ 60) ∧
  ∀ p, H p = none → Q (.ref p) (upd H p (.lst (sortZ xs ds)))
def kSortD (x : PV) (M : Mem) (Q : PQ) : Prop := need (lstOf M x) fun xs => need (toDs xs) fun ds => PySem.W.AllAlike ds ∧ PySem.W.Sortable ds ∧ (∀ d ∈ ds, d.depth ≤ 60) ∧ Q (.lst (sortZ xs ds)) M
end
end PL
set_option Elab.async false
set_option linter.all false
set_option maxRecDepth 100000
namespace PL
open PySem PySem.Spec PyProof.Rows L2 PD
/-! ### a walk over the keys of a dict -/
def ItD (d : Addr) (ep : Nat) (es : List VRow) : It :=
  ⟨fun i H => i < es.length ∧ H d = some (dO d ep es), fun i H x H' => (∃ e, es[i]? = some e ∧ x = e.2.1) ∧ H' = H, fun i H => es.length ≤ i ∧ H d = some (dO d ep es)⟩
theorem paired_at {α β : Type} {G : α → β → Prop} {l : List α} {m : List β} (h : Paired G l m) : ∀ {i : Nat} {a : α}, l[i]? = some a → ∃ b, m[i]? = some b ∧ G a b := by
  induction h with
  | nil => intro i a e; cases e
  | cons g t ih =>
    intro i a e
    cases i with
    | zero => cases e; exact ⟨_, rfl, g⟩
    | succ i => exact ih e
theorem d_raw {X : Cx} {pins : List (Addr × Obj)} {σ : L2.St} {H : Hp} {s : Shared} {d : Addr} {ep : Nat} {es : List VRow} (I : Inv X pins σ H s) (e : H d = some (dO d ep es)) :
    (d == sysModules) = false ∧ ∃ ob en, s.heap.get? d = some ob ∧ ob.ExactDict ∧ ob.data = .dict en ep ∧ en.size = es.length ∧ ∀ (i : Nat) (x : VRow), es[i]? = some x → ∃ y : DictEntry, en[i]? = some y ∧ RelV x.2.1 y.key := by
  obtain ⟨_, h2, _, w, xs, r, ob, en, q1, q2, q3, q4, _⟩ := dO_phi (I.hok d _ e)
  refine ⟨h2, ob, en, q1, q2, q3, by rw [ent_size q4]; exact paired_len r, fun i x hx => ?_⟩
  obtain ⟨y, hy, g⟩ := paired_at r hx
  exact ⟨ent w y, by rw [ent_at q4, hy]; rfl, g.2.1⟩
theorem turn_dct {P : Program} {w : World} {K : PySem.W.Frag} {tg : Expr} {d : Addr} {ep : Nat} {es : List VRow} (J : Addr) : Turn P w K tg (ItD d ep es) [J] J (fun i h => h.IsKeyIter J d i es.length ep) where
  mem := List.mem_singleton.mpr rfl
  self := fun _ _ _ _ _ st h => wpAny_pyIter_keyiter st h
  keep := fun _ _ _ st k => st.at fun oi e => k J (List.mem_singleton.mpr rfl) oi e
  obj := fun i h st b hb => by
    rw [List.mem_singleton.mp hb]
    obtain ⟨oi, e1, _, e2⟩ := st
    exact ⟨oi, e1, fun v z => by rw [e2] at z; cases z⟩
  item := by
    intro X hP hw hK hc i pins s σ H E I hf st hg
    subst hP hw hK
    obtain ⟨hi, hd⟩ := hg
    obtain ⟨g0, g1, _, g3, g4, g5⟩ := hf J (List.mem_singleton.mpr rfl)
    obtain ⟨_, ob, en, q1, _, q3, q4, q5⟩ := d_raw I hd
    obtain ⟨y, hy, ry⟩ := q5 i es[i] (List.getElem?_eq_getElem hi)
    refine next_key_item st q1 q3 q4 hy fun h2 st2 sb => ?_
    obtain ⟨oi, z1, z2, z3⟩ := id st2
    have I2 : Inv X pins σ H { s with heap := h2 } := I.turned (t' := s.toks) (fun b _ hb z => (sb.2 b hb).trans z) g0 g1 g3 g4 g5
    exact ⟨y.key, rfl, go_of (s := { s with heap := h2 }) z1 z2 z3 (by decide) ⟨_, H, I2, ry, ⟨⟨_, List.getElem?_eq_getElem hi, rfl⟩, rfl⟩, st2, fun b hb => (hf b hb).1⟩⟩
  done := by
    intro X hP hw hK hc i pins s σ H E I hf st hg
    subst hP hw hK
    obtain ⟨hi, hd⟩ := hg
    obtain ⟨g0, g1, _, g3, g4, g5⟩ := hf J (List.mem_singleton.mpr rfl)
    obtain ⟨_, ob, en, q1, _, q3, q4, _⟩ := d_raw I hd
    exact next_key_end (I.ok.hd hc) st q1 q3 q4 hi fun h2 eb => ⟨rfl, I.turned (t' := s.toks) (fun b ob hb z => eb b ob hb z) g0 g1 g3 g4 g5⟩
def tDk (td : TE) : TI := fun σ H R => td σ H fun x H1 => ∃ d ep es, x = .ref d ∧ H1 d = some (dO d ep es) ∧ R (ItD d ep es) H1
theorem pi_dct {X : Cx} {tg e : Expr} {td : TE} (he : PE X e td) : PI X tg e (tDk td) := by
  refine ⟨fun pins s σ H R I h => thn (he.run pins s σ H _ I h) fun u s1 ⟨x, H1, I1, rx, d, ep, es, ex, hd, q⟩ => ?_⟩
  subst ex
  obtain rfl : u = Value.ref d := rx
  obtain ⟨h2, ob, en, q1, q2, q3, q4, _⟩ := d_raw I1 hd
  refine iter_keys h2 q1 q2 q3 (pi_one (tk := s1.toks) I1 _ (turn_dct _) ⟨_, Heap.get?_push_size _ rfl, rfl, ?_⟩ q)
  rw [q4] <;> rfl
theorem RKs.key_at {K : PySem.W.Frag} {F : Hp} : ∀ {kvs : List (NestedKey × PV)} {es : List VRow} {i : Nat} {p : NestedKey × PV} {e : VRow}, RKs K F kvs es → kvs[i]? = some p → es[i]? = some e → R K F (pvK p.1) e.2.1
  | _, _, 0, _, _, .cons h _ _, e1, e2 => by cases e1; cases e2; exact h
  | _, _, i + 1, _, _, .cons _ _ t, e1, e2 => RKs.key_at (i := i) t e1 e2
theorem stab_dct {K : PySem.W.Frag} {F : Hp} {d : Addr} {ep : Nat} {kvs : List (NestedKey × PV)} {es : List VRow} (h : F d = some (dO d ep es)) (r : RKs K F kvs es) : Stab K (ItD d ep es) F (kvs.map fun e => pvK e.1) := by
  intro i F' M H sm rm
  have hH : H d = some (dO d ep es) := rm.fr _ _ (sm _ _ h)
  refine ⟨fun hi => ?_, fun hi => ⟨by rw [r.length]; rw [List.length_map] at hi; exact hi, hH⟩⟩
  have hl : i < kvs.length := by rw [List.length_map] at hi; exact hi
  refine ⟨⟨by rw [r.length]; exact hl, hH⟩, fun v H' y => ?_⟩
  obtain ⟨⟨e, e1, rfl⟩, rfl⟩ := y
  refine ⟨F', Beh.refl rm, ?_⟩
  rw [List.getElem_map]
  exact (RKs.key_at r (List.getElem?_eq_getElem hl) e1).same sm
def dctF : PV → Option (List (NestedKey × PV))
  | .dct kvs => some kvs
  | _ => none
def piD (te : PTE) : PTI := fun E σ M Q => te E σ M fun x M1 => need (dctF x) fun kvs => Q (kvs.map fun e => pvK e.1) M1
theorem LI.dct {X : Cx} {tg e : Expr} {te : PTE} (he : LE X e te) : LI X tg e (piD te) := by
  refine ⟨fun σv H σ F M Q E tk rm rs h => WI.of (pi_dct WE.pe) ?_⟩
  refine (he.run σv H σ F M _ E tk rm rs h).mono ?_
  rintro v H1 ⟨F1, M1, x, b1, rx, hx⟩
  obtain ⟨kvs, e1, h2⟩ := need_of hx
  cases rx with
  | dct q r => cases e1; exact ⟨_, _, _, rfl, b1.rm.fr _ _ q, F1, M1, _, b1, stab_dct q r, h2⟩
  | _ => cases e1
theorem w_piD {te : PTE} {E : PXK} {σ : PSt} {M : Mem} {Q : List PV → Mem → Prop} (h : te E σ M fun x M1 => need (dctF x) fun kvs => Q (kvs.map fun e => pvK e.1) M1) : piD te E σ M Q := h
theorem w_dctF {kvs : List (NestedKey × PV)} {k : List (NestedKey × PV) → Prop} (h : k kvs) : need (dctF (.dct kvs)) k := h
end PL
set_option Elab.async false
set_option linter.all false
set_option maxRecDepth 100000
namespace PL
open PySem PySem.Spec PyProof.Rows L2 PD
/-! ### a dict comprehension whose keys are data -/
theorem d_setD {X : Cx} {pins : List (Addr × Obj)} {σ : L2.St} {H : Hp} {s : Shared} {E : Value → Shared → Prop} {D : Addr} {y z : V} {u r : Value} {N : Hp → Prop} {Q : Unit → Shared → Prop} (hu : X.A.units + 65 < cLine) (I : Inv X pins σ H s)
    (ry : RelV y u) (rz : RelV z r) (h : rSetD X.K (.ref D) y z H N) (q : ∀ H' s', Inv X pins σ H' s' → N H' → Q () s') : wpAny (model X.prog X.w) X.A (dictSet D u r) Q E s := by
  obtain ⟨a, es, k, e0, e, hk, ky, ok, hl, n⟩ := h
  obtain rfl : D = a := by injection e0
  obtain ⟨h1, h2, h3, xs, p, t, kd⟩ := d_rows I e hk
  refine set_key (by omega) (KeyV.is I k y u ky ry) ok.2 ok.1.notText t kd (by rw [paired_len p]; exact h3) fun h' t' hs => ?_
  obtain ⟨ob, en, ep, q1, q2⟩ := t'
  obtain ⟨ep0, e⟩ := e
  refine q _ _ (I.write (x := D) (e := D) (by rw [e]; trivial) (.inl rfl) (fun b w hb z => (hs.2 b hb).trans z) ⟨ob, q1⟩ (dO_ok ⟨?_, h1, putV_ok ok h2, X.w, _, put_rel ry rz p, ob, en, q1, q2⟩)) (n ep)
  have := putV_len es k y z
  omega
def tDcD (K : PySem.W.Frag) (wi : TI) (g : TG) (tt : TT) (tk tv : TE) (vs : List Nat) : TE := fun σ H Q => wi σ H fun J H1 => ∀ D, H1 D = none → ∃ W : Nat → Nat → Hp → Prop, (∃ m, W 0 m (upd H1 D (dO D 0 []))) ∧ ∀ i m H2, W i m H2 →
  (J.stop i H2 ∧ Q (.ref D) H2) ∨ (J.go i H2 ∧ ∃ N : Hp → Prop, (∀ H3, N H3 → ∃ m', m' < m ∧ W (i + 1) m' H3) ∧ ∀ x H3, J.yld i H2 x H3 → g x (wipe σ vs) H3 fun σ1 H4 => wipe σ1 vs = wipe σ vs ∧ tt σ1 H4 fun b H5 =>
    if b = true then tk σ1 H5 fun y H6 => tv σ1 H6 fun z H7 => rSetD K (.ref D) y z H7 N else N H5)
section
variable {X : Cx} {pins : List (Addr × Obj)} {s : Shared} {σ : L2.St} {H : Hp} {Q : VK} {kx vx tg iter : Expr} {ifs : List Expr} {scope : Scope} {own : List (Str × Nat)} {pos pos2 : Pos} {wi : TI} {g : TG} {tt : TT} {tk tv : TE}
theorem dcD_core {use : Option (Value → Sem Unit)} {Qf : Value → Shared → Prop} (hu : X.A.units + 65 < cLine) (hcalm : X.calm = true) (nd : X.N.Nodup) (inv : Inv X pins σ H s) (hi : PI X tg iter wi) (bok : BlkOk X.N X.env.scope scope own)
    (hg : ∀ s H C cl fp, PG (Blk X scope s H C cl fp) tg g) (ht : ∀ s H C cl fp, PTs (Blk X scope s H C cl fp) ifs tt) (hk : ∀ s H C cl fp, PE (Blk X scope s H C cl fp) kx tk) (hv : ∀ s H C cl fp, PE (Blk X scope s H C cl fp) vx tv)
    (fold : ∀ x, foldedSetIterable iter X.env x = pure x) (h : tDcD X.K wi g tt tk tv (own.map (·.2)) σ H Q)
    (back : ∀ D C s' m H', Inv X pins σ H' s' → Q (.ref D) H' → s'.heap.Ns C m → FpOk X pins H' C → compPost (model X.prog X.w) X.A X.xe use Qf (.ref D) C (.ok .next) s') :
    wpAny (model X.prog X.w) X.A (comprehension (.DictComp kx vx [⟨tg, iter, ifs, 0⟩] scope pos) scope X.env pos2 newDict false (eval iter X.env) use) Qf X.xe s := by
  have cells : ∀ y ∈ scope.names, y.2 = .free → ∃ c, X.env.cells.lookup y.1 = some c := fun y m z => (bok.free y m z).elim (fun q => inv.ok.has _ (.inl q)) fun q => inv.ok.has _ (.inr q)
  refine wpAny_comprehension_free (use := use) rfl fold (closure_ok cells) bok.kind (fun y m z => by rw [bok.uniq y m, z]) (thn (hi.run pins s σ H _ inv h) fun xv sa hx => thn hx fun itv sb hb => ?_)
  obtain ⟨it, fp, tn, J, Ha, rfl, invb, T, sta, fpa, q⟩ := hb
  refine wpAny_newObj_type (newEnv_comp ?_)
  generalize eD : sb.heap.objs.size = D
  obtain ⟨W, ⟨m0, w0⟩, turn⟩ := q D (invb.hok.fresh (Nat.le_of_eq eD))
  generalize esc : ({ sb with heap := sb.heap.push { cls := .type "dict", data := .dict #[] } } : Shared) = sc
  have invc : Inv X pins σ (upd Ha D (dO D 0 [])) sc := by
    rw [← esc]
    refine invb.laid (t' := sb.toks) (fun b o z => Heap.get?_push_of_some _ z) (Nat.le_of_eq eD) ?_
    rw [← eD]
    exact dO_ok ⟨Nat.zero_le _, beq_eq_false_iff_ne.mpr (Ne.symm (Nat.ne_of_lt invb.big)), fun _ z => absurd z List.not_mem_nil, X.w, [], .nil, _, #[], Heap.get?_push_size _ rfl, ⟨rfl, rfl, rfl⟩, rfl, rfl, List.nodup_nil⟩
  have hsc : sc.heap = sb.heap.push { cls := .type "dict", data := .dict #[] } := by rw [← esc]
  have fpc : ∀ b ∈ fp, FpOk X pins (upd Ha D (dO D 0 [])) b ∧ b < sc.heap.objs.size := fun b m => by
    obtain ⟨o, z, _⟩ := T.obj _ _ sta b m
    have lt := Heap.lt_size z
    refine ⟨⟨?_, (fpa b m).2⟩, by rw [hsc, Heap.size_push]; exact Nat.lt_succ_of_lt lt⟩
    rw [upd_ne (by rw [← eD]; exact Nat.ne_of_lt lt)]
    exact (fpa b m).1
  have stc : tn 0 sc.heap := T.keep _ _ _ sta fun b _ o z => by rw [hsc]; exact Heap.get?_push_of_some _ z
  have invd := block_start invc bok nd fpc
  have rg := hg sc (upd Ha D (dO D 0 [])) sc.heap.objs.size (cellsFrom (sc.heap.objs.size + 1) scope.names (cloFrom X.env.cells scope.names [])) fp
  have rt := ht sc (upd Ha D (dO D 0 [])) sc.heap.objs.size (cellsFrom (sc.heap.objs.size + 1) scope.names (cloFrom X.env.cells scope.names [])) fp
  have rk := hk sc (upd Ha D (dO D 0 [])) sc.heap.objs.size (cellsFrom (sc.heap.objs.size + 1) scope.names (cloFrom X.env.cells scope.names [])) fp
  have rv := hv sc (upd Ha D (dO D 0 [])) sc.heap.objs.size (cellsFrom (sc.heap.objs.size + 1) scope.names (cloFrom X.env.cells scope.names [])) fp
  have nfp : ∀ b ∈ fp, (upd Ha D (dO D 0 [])) b = none := fun b m => (fpc b m).1.1
  show codeAny _ _ (.compStart _ 0 (.ref it) (.ref D) (compEnvC scope (cellsFrom (sc.heap.objs.size + 1) scope.names (cloFrom X.env.cells scope.names [])) sc.heap.objs.size X.env)) (compPost _ X.A X.xe use Qf (.ref D) sc.heap.objs.size) { sc with heap := pushCells (sc.heap.push { cls := .type "dict", data := .dict #[] }) scope.names }
  unfold Blk at rg rt rk rv
  generalize ece : compEnvC scope (cellsFrom (sc.heap.objs.size + 1) scope.names (cloFrom X.env.cells scope.names [])) sc.heap.objs.size X.env = ce at invd rg rt rk rv ⊢
  have loc : ce.locals = sc.heap.objs.size := by subst ece; rfl
  generalize eHc : upd Ha D (dO D 0 []) = Hc at invc invd rg rt rk rv w0 nfp fpc
  generalize esd : ({ sc with heap := pushCells (sc.heap.push { cls := .type "dict", data := .dict #[] }) scope.names } : Shared) = sd at invd ⊢
  have std : tn 0 sd.heap := T.keep _ _ _ stc fun b _ o z => by rw [← esd]; exact pushCells_keeps _ _ _ _ (Heap.get?_push_of_some _ z)
  have pinned : ∀ {σ1 : L2.St} {H1 : Hp} {s1 : Shared}, Inv (X.blk sc Hc scope ce fp) [] σ1 H1 s1 → (∀ b ∈ fp, H1 b = none) → ∀ b ∈ fp, FpOk (X.blk sc Hc scope ce fp) [] H1 b := fun i1 n1 b m =>
    ⟨n1 b m, (i1.ok.exf b m).1, i1.ok.exfs b m, .inl m, fun x c z => (i1.ok.exf b m).2 x c z, fun p z => absurd (show p ∈ ([] : List (Addr × Obj)) ++ [] from z) (by simp)⟩
  have loop : codeAny (model X.prog X.w) X.A (.compLoop (.DictComp kx vx [⟨tg, iter, ifs, 0⟩] scope pos) 0 (.ref it) (.ref D) ce) (compPost (model X.prog X.w) X.A X.xe use Qf (.ref D) sc.heap.objs.size) sd := by
    refine compLoop_anyD (fun n s1 => ∃ i H1, W i n H1 ∧ Inv (X.blk sc Hc scope ce fp) [] (wipe σ (own.map (·.2))) H1 s1 ∧ tn i s1.heap ∧ ∀ b ∈ fp, H1 b = none) ?_ m0 ⟨0, Hc, w0, invd, std, nfp⟩
    rintro n s1 ⟨i, H1, w1, i1, st1, n1⟩
    rcases turn i n H1 w1 with ⟨stop, qq⟩ | ⟨go, N, hN, step⟩
    · refine thnF (T.done (X.blk sc Hc scope ce fp) rfl rfl rfl hcalm i [] s1 _ H1 (fun _ _ => False) i1 (pinned i1 n1) st1 stop) fun r s2 ⟨hr, i2⟩ => ?_
      subst hr
      have i3 : Inv X pins σ H1 s2 := invc.call' (ch := fp) i2.os i2.base i2.hok i2.bare fun b m => ⟨(fpc b m).1.2.2.2.1, (fpc b m).1.2.1, (fpc b m).1.2.2.2.2.1, (fpc b m).1.2.2.2.2.2⟩
      have free := i2.free
      obtain ⟨m, hn, _⟩ := i2.loc
      have free : H1 ce.locals = none := free
      have hn : s2.heap.Ns ce.locals m := hn
      rw [loc] at free hn
      exact back D sc.heap.objs.size s2 m H1 i3 qq hn (invc.fpOk (Nat.le_refl _) free)
    · refine thnF (T.item (X.blk sc Hc scope ce fp) rfl rfl rfl hcalm i [] s1 _ H1 (fun _ _ => False) i1 (pinned i1 n1) st1 go) fun r s2 ⟨u, hr, h2⟩ => ?_
      subst hr
      refine thnF h2 fun _ s3 ⟨x, H3, i3, r3, y3, st3, n3⟩ => ?_
      refine thnF (rg.run _ s3 _ H3 x u _ (i3.pinned (pinned i3 n3) (T.obj _ _ st3)) r3 (step x H3 y3)) fun _ s4 ⟨σ4, H4, i4, ew, q4⟩ => ?_
      refine thnF (rt.run _ s4 σ4 H4 _ i4 q4) fun b s5 ⟨H5, i5, q5⟩ => ?_
      have again : ∀ {s' : Shared} {H' : Hp}, Inv (X.blk sc Hc scope ce fp) ([] ++ pinsAt fp s3.heap) σ4 H' s' → N H' → ∃ m, m < n ∧ ∃ i H', W i m H' ∧ Inv (X.blk sc Hc scope ce fp) [] (wipe σ (own.map (·.2))) H' s' ∧ tn i s'.heap ∧ ∀ b ∈ fp, H' b = none := fun {s' H'} i' nx => by
        obtain ⟨m', lt, w'⟩ := hN H' nx
        have pin : ∀ b ∈ fp, ∀ o, s3.heap.get? b = some o → s'.heap.get? b = some o ∧ H' b = none := fun b mb o z =>
          let y := i'.pin (b, o) (List.mem_append_right _ (List.mem_append_right _ (mem_pinsAt mb z)))
          ⟨y.1, y.2.1⟩
        refine ⟨m', lt, i + 1, H', w', (i'.unpinned (pins := [])).weak (by rw [← ew, wipe_length]) (fun j v z => ?_), T.keep _ _ _ st3 fun b mb o z => (pin b mb o z).1, fun b mb => ?_⟩
        · rw [← ew] at z
          exact (wipe_some z).1
        · obtain ⟨o, z, _⟩ := T.obj _ _ st3 b mb
          exact (pin b mb o z).2
      cases b with
      | false =>
        simp only [Bool.false_eq_true, if_false] at q5 ⊢
        exact again i5 q5
      | true =>
        simp only [if_true] at q5 ⊢
        refine thnF (rk.run _ s5 σ4 H5 _ i5 q5) fun u6 s6 ⟨y6, H6, i6, r6, q6⟩ => ?_
        refine thnF (rv.run _ s6 σ4 H6 _ i6 q6) fun u7 s7 ⟨y7, H7, i7, r7, q7⟩ => ?_
        exact d_setD (X := X.blk sc Hc scope ce fp) hu i7 r6 r7 q7 fun H8 s8 i8 nx => again i8 nx
  exact codeAny_compStart_dict loop (T.self X.A 0 _ _ _ std loop)
theorem pe_dcD (hu : X.A.units + 65 < cLine) (hcalm : X.calm = true) (nd : X.N.Nodup) (hi : PI X tg iter wi) (bok : BlkOk X.N X.env.scope scope own)
    (hg : ∀ s H C cl fp, PG (Blk X scope s H C cl fp) tg g) (ht : ∀ s H C cl fp, PTs (Blk X scope s H C cl fp) ifs tt) (hk : ∀ s H C cl fp, PE (Blk X scope s H C cl fp) kx tk) (hv : ∀ s H C cl fp, PE (Blk X scope s H C cl fp) vx tv)
    (fold : ∀ x, foldedSetIterable iter X.env x = pure x := by intro _; rfl) : PE X (.DictComp kx vx [⟨tg, iter, ifs, 0⟩] scope pos) (tDcD X.K wi g tt tk tv (own.map (·.2))) := by
  refine ⟨fun pins s σ H Q I h => ?_⟩
  rw [arm_eval_DictComp]
  refine dcD_core hu hcalm nd I hi bok hg ht hk hv fold h fun D C s' m H' i' q hn f => ⟨m, hn, fun h2 sb => ?_⟩
  exact ⟨.ref D, H', i'.turned (t' := s'.toks) (fun b o hb z => (sb.2 b hb).trans z) f.1 f.2.1 f.2.2.2.1 f.2.2.2.2.1 f.2.2.2.2.2, rfl, q⟩
end
end PL
namespace PL
open PySem PySem.Spec PyProof.Rows L2 PD
section
variable {X : Cx} {kx vx tg iter : Expr} {ifs : List Expr} {scope : Scope} {own : List (Str × Nat)} {pos : Pos} {wi : TI} {g : TG} {tt : TT} {tk tv : TE}
theorem swD_true {y : Str} {py : Pos} {l : Nat} {env : Env} {gs : List Comprehension} (hk : env.scope.kind = .function) (hy : env.scope.names.lookup y = some .local) (hl : (py.line == pos.line) = true)
    (ha : (scope.names.any fun (n, k) => n == y && (k == .local || k == .cell)) = false) : swapsWith (.DictComp kx vx gs scope pos) (some (.Name y py)) l env = pure true := by
  unfold swapsWith
  simp only [show env.blockKind = .function by (unfold Env.blockKind; rw [hk]; rfl), show env.kindOf y = some .local from hy, ha, Expr.pos, hl]
  rfl
theorem ps_setDc {i : Nat} {y : Str} {py spos : Pos} (hu : X.A.units + 65 < cLine) (hcalm : X.calm = true) (nd : X.N.Nodup) (hy : X.N[i]? = some y) (hyl : X.env.scope.names.lookup y = some .local)
    (hsw : swapsWith (.DictComp kx vx [⟨tg, iter, ifs, 0⟩] scope pos) (some (.Name y py)) spos.line X.env = pure true) (hi : PI X tg iter wi) (bok : BlkOk X.N X.env.scope scope own)
    (hg : ∀ s H C cl fp, PG (Blk X scope s H C cl fp) tg g) (ht : ∀ s H C cl fp, PTs (Blk X scope s H C cl fp) ifs tt) (hk : ∀ s H C cl fp, PE (Blk X scope s H C cl fp) kx tk) (hv : ∀ s H C cl fp, PE (Blk X scope s H C cl fp) vx tv)
    (fold : ∀ x, foldedSetIterable iter X.env x = pure x := by intro _; rfl) : PS X (.Assign [.Name y py] (.DictComp kx vx [⟨tg, iter, ifs, 0⟩] scope pos) spos) (tAsg (tDcD X.K wi g tt tk tv (own.map (·.2))) (gName i)) := by
  refine ⟨fun pins s σ H D I h => ?_⟩
  rw [exec_Assign_Name_used _ _ _ _ hsw]
  refine wpAny_bind (wpAny_standAt (wpAny_bind ?_))
  have h2 : tDcD X.K wi g tt tk tv (own.map (·.2)) σ H (fun x H1 => gName i x σ H1 D.nx) := h
  show wpAny _ X.A (do let _ ← comprehension _ scope X.env _ newDict false (eval iter X.env) (some (assign (.Name y py) X.env))) _ _ s
  refine wpAny_bind (thn (dcD_core (Qf := fun _ s' => SP X pins D .next s') hu hcalm nd I hi bok hg ht hk hv fold h2 fun L C s' m H' i' q hn f => ?_) fun _ s' hq => wpAny_pure (wpAny_pure hq))
  show wpAny _ _ (assign (.Name y py) X.env (.ref L)) _ _ _
  refine wpAny_assign_Name (store_ok2 (v := V.ref L) i' nd hy (.inl hyl) rfl (fun s2 i2 ⟨a, sb, ha⟩ => ?_) (.inr hyl))
  have ne : C ≠ a := ha.elim (fun z => by rw [z]; exact f.2.1) fun z e => f.2.2.2.2.1 y a z e.symm
  refine ⟨m, hn.sameBut sb ne, fun h3 sb3 => ?_⟩
  exact ⟨_, H', i2.turned (t' := s2.toks) (fun b o hb z => (sb3.2 b hb).trans z) f.1 f.2.1 f.2.2.2.1 f.2.2.2.2.1 f.2.2.2.2.2, q⟩
end
end PL
set_option Elab.async false
set_option linter.all false
set_option maxRecDepth 100000
namespace PL
open PySem PySem.Spec PyProof.Rows L2 PD
/-! ### {k: v for target in iter if ..} -/
abbrev Stp := PV → PSt → Option PSt
def stpN (i : Nat) : Stp := fun x σ => some (σ.set i (some x))
def stpT (is : List Nat) : Stp := fun x σ => (tupF x).bind fun ys => setsP is ys σ
def pDcL (st : Stp) (tt : PTT) (tk tv : PTE) : List PV → List (NestedKey × PV) → PSt → Mem → (List (NestedKey × PV) → Mem → Prop) → Prop
  | [], kvs => fun _ M Q => Q kvs M
  | x :: xs, kvs => fun σ M Q => need (st x σ) fun σ1 => tt noX σ1 M fun b M1 => if b = true then tk noX σ1 M1 fun y M2 => tv noX σ1 M2 fun z M3 => kKey y fun k => kvs.length < sizeLine ∧ pDcL st tt tk tv xs (putD kvs k z) σ M3 Q
    else pDcL st tt tk tv xs kvs σ M1 Q
/-- the new dict may change -/
def pDc (wi : PTI) (st : Stp) (tt : PTT) (tk tv : PTE) : PTE := fun E σ M Q => wi E σ M fun xs M1 => pDcL st tt tk tv xs [] σ M1 fun kvs M2 => ∀ p, M2 p = none → Q (.ptr p) (M2.put p (.dct p kvs))
/-- the new dict never changes -/
def pDcF (wi : PTI) (st : Stp) (tt : PTT) (tk tv : PTE) : PTE := fun E σ M Q => wi E σ M fun xs M1 => pDcL st tt tk tv xs [] σ M1 fun kvs M2 => Q (.dct kvs) M2
/-- the target stores as st says -/
def Stores (K : PySem.W.Frag) (g : TG) (vs : List Nat) (st : Stp) : Prop := ∀ (x : PV) (v : V) (σ σ1 : PSt) (σv : L2.St) (F : Hp) (M : Mem) (H : Hp), RM K F M H → R K F x v → RS K F σ σv → st x σ = some σ1 →
  ∀ Q : L2.St → Hp → Prop, (∀ σ2, RS K F σ1 σ2 → wipe σ2 vs = wipe σv vs → Q σ2 H) → g v (wipe σv vs) H Q
theorem stores_name (K : PySem.W.Frag) (i : Nat) : Stores K (gName i) [i] (stpN i) := by
  intro x v σ σ1 σv F M H rm r rs e Q q
  cases e
  have e1 : (wipe σv [i]).set i (some v) = σv.set i (some v) := List.set_set ..
  show Q ((wipe σv [i]).set i (some v)) H
  rw [e1]
  exact q _ (rs.set i r) (List.set_set ..)
theorem stores_tup (K : PySem.W.Frag) {is : List Nat} (nd : is.Nodup) : Stores K (gTup K is.length (gsN is)) is (stpT is) := by
  intro x v σ σ1 σv F M H rm r rs e Q q
  obtain ⟨ys, e1, e2⟩ := Option.bind_eq_some_iff.mp e
  obtain ⟨a, vs, rfl, qa, ra⟩ := R.tupI r e1
  have hl : is.length = vs.length := by rw [← ra.length, setsP_len e2]
  refine ⟨a, vs, rfl, sqT_same rm.fr qa, hl.symm, gsN_of hl ?_⟩
  rw [setsV_wipe nd hl]
  exact q _ (RS.sets is rs ra e2) (wipe_sets nd hl)
theorem dc_finF {K : PySem.W.Frag} {F M H F1 M1 H1 F2 M2 H2} {D : Addr} {ep : Nat} {kvs : List (NestedKey × PV)} {es : List VRow} {Q : PQ} (b1 : Beh K F M H F1 M1 H1) (nD : H1 D = none) (b2 : Beh K F M H F2 M2 H2) (nF2 : F2 D = none) (nM2 : M2 D = none) (hD : H2 D = some (dO D ep es)) (rk : RKs K F2 kvs es) (h2 : Q (.dct kvs) M2) : LQ K F M H Q (.ref D) H2 := by
  have sm : Same F2 (upd F2 D (dO D ep es)) := same_upd nF2
  refine ⟨upd F2 D (dO D ep es), M2, _, ⟨b2.sm.trans sm, ⟨fun c u hc => ?_, fun c hc => ?_, fun c mo hc => ?_⟩, b2.fr, fun c hc => ?_⟩, .dct upd_same (rk.same sm), h2⟩
  · by_cases e : c = D
    · subst e; rw [upd_same] at hc; cases hc; exact hD
    · rw [upd_ne e] at hc; exact b2.rm.fr c u hc
  · have e : c ≠ D := fun z => hc (by rw [z]; exact nM2)
    rw [upd_ne e]; exact b2.rm.dj c hc
  · obtain ⟨u, e1, e2⟩ := b2.rm.mu c mo hc
    exact ⟨u, e1, e2.same sm⟩
  · by_cases e : c = D
    · subst e
      refine .inr (.inr ?_)
      cases q : H c with
      | none => rfl
      | some u => exact absurd nD (b1.fr.there c (by rw [q]; exact Option.some_ne_none _))
    · rw [upd_ne e] at hc; exact b2.fg c hc
theorem dc_finM {K : PySem.W.Frag} {F M H F1 M1 H1 F2 M2 H2} {D : Addr} {ep : Nat} {kvs : List (NestedKey × PV)} {es : List VRow} {Q : PQ} (b1 : Beh K F M H F1 M1 H1) (nD : H1 D = none) (b2 : Beh K F M H F2 M2 H2) (nF2 : F2 D = none) (nM2 : M2 D = none) (hD : H2 D = some (dO D ep es)) (rk : RKs K F2 kvs es) (h2 : ∀ p, M2 p = none → Q (.ptr p) (M2.put p (.dct p kvs))) : LQ K F M H Q (.ref D) H2 := by
  have hH : H D = none := by
    cases q : H D with
    | none => rfl
    | some u => exact absurd nD (b1.fr.there D (by rw [q]; exact Option.some_ne_none _))
  refine ⟨F2, M2.put D (.dct D kvs), _, ⟨b2.sm, ⟨b2.rm.fr, fun c hc => ?_, fun c mo hc => ?_⟩, ⟨b2.fr.keep, fun c hc => ?_, b2.fr.there⟩, b2.fg⟩, .ptr D, h2 D nM2⟩
  · by_cases e : c = D
    · rw [e]; exact nF2
    · rw [put_ne e] at hc; exact b2.rm.dj c hc
  · by_cases e : c = D
    · subst e; rw [put_same] at hc; cases hc; exact ⟨_, hD, .dct rk⟩
    · rw [put_ne e] at hc; exact b2.rm.mu c mo hc
  · by_cases e : c = D
    · rw [e]; exact .inr hH
    · rw [put_ne e] at hc; exact b2.fr.grow c hc
section
variable {X : Cx} {kx vx tg iter : Expr} {ifs : List Expr} {scope : Scope} {own : List (Str × Nat)} {pos : Pos} {wi : PTI} {st : Stp} {g : TG} {tt : PTT} {tk tv : PTE}
theorem dc_t (hi : LI X tg iter wi) (hst : Stores X.K g (own.map (·.2)) st)
    (ht : ∀ s H C cl fp, LTs (Blk X scope s H C cl fp) ifs tt) (hk : ∀ s H C cl fp, LE (Blk X scope s H C cl fp) kx tk) (hv : ∀ s H C cl fp, LE (Blk X scope s H C cl fp) vx tv)
    {σv : L2.St} {H : Hp} {σ : PSt} {F : Hp} {M : Mem} {Q : PQ} {E : PXK} {eQ : List (NestedKey × PV) → Mem → Prop} (fin : ∀ {F1 M1 H1 F2 M2 H2} {D : Addr} {ep : Nat} {kvs : List (NestedKey × PV)} {es : List VRow}, Beh X.K F M H F1 M1 H1 → H1 D = none → Beh X.K F M H F2 M2 H2 → F2 D = none → M2 D = none → H2 D = some (dO D ep es) → RKs X.K F2 kvs es → eQ kvs M2 → LQ X.K F M H Q (.ref D) H2)
    (tk0 : PTk X F M H E) (rm : RM X.K F M H) (rs : RS X.K F σ σv) (h : wi E σ M fun xs M1 => pDcL st tt tk tv xs [] σ M1 eQ) : tDcD X.K (WI X tg iter) g (TBlk X scope ifs) (EBlk X scope kx) (EBlk X scope vx) (own.map (·.2)) σv H (LQ X.K F M H Q) := by
  refine (hi.run σv H σ F M _ E tk0 rm rs h).mono ?_
  rintro J H1 ⟨F1, M1, xs, b1, sta, h1⟩
  intro D nD
  obtain ⟨nF, nM⟩ := b1.rm.nones nD
  have b1' := b1.trans ((b1.rm.behHid (o := dO D 0 []) nF nM).2 nD)
  refine ⟨fun j m H' => m = xs.length - j ∧ j ≤ xs.length ∧ ∃ F' M' ep kvs es, Beh X.K F M H F' M' H' ∧ Same F1 F' ∧ F' D = none ∧ M' D = none ∧ H' D = some (dO D ep es) ∧ RKs X.K F' kvs es ∧ pDcL st tt tk tv (xs.drop j) kvs σ M' eQ,
    ⟨xs.length, rfl, Nat.zero_le _, F1, M1, 0, [], [], b1', Same.refl _, nF, nM, upd_same, .nil, h1⟩, ?_⟩
  rintro j m H2 ⟨rfl, hj, F2, M2, ep, kvs, es, b2, sm2, nF2, nM2, hD, rk, h2⟩
  obtain ⟨s1, s2⟩ := sta j F2 M2 H2 sm2 b2.rm
  by_cases hlt : j < xs.length
  · obtain ⟨go, yl⟩ := s1 hlt
    rw [List.drop_eq_getElem_cons hlt] at h2
    refine .inr ⟨go, _, fun H' n => ⟨_, (show xs.length - (j + 1) < xs.length - j by omega), n⟩, fun v H3 y => ?_⟩
    obtain ⟨F3, b3, r3⟩ := yl v H3 y
    obtain ⟨σ1, es1, h2⟩ := need_of h2
    have keep : ∀ {Fa Ma Ha}, Beh X.K F2 M2 H2 Fa Ma Ha → Fa D = none ∧ Ma D = none ∧ Ha D = some (dO D ep es) := fun b => keepD nF2 nM2 hD b
    refine hst _ v σ σ1 σv F3 M2 H3 b3.rm r3 (rs.same (b2.trans b3).sm) es1 _ fun σ2 rs2 ew => ⟨ew, ?_⟩
    intro s0 H0 C cl fp pins s0' I
    refine thn ((ht s0 H0 C cl fp).run σ2 H3 σ1 F3 M2 _ b3.rm rs2 h2 pins s0' I) ?_
    rintro b s4 ⟨H4, I4, F4, M4, b4, h4⟩
    have b34 := b3.trans b4
    refine ⟨H4, I4, ?_⟩
    cases b with
    | false =>
      rw [if_neg Bool.false_ne_true] at h4 ⊢
      obtain ⟨k1, k2, k3⟩ := keep b34
      exact ⟨rfl, hlt, F4, M4, ep, kvs, es, b2.trans b34, sm2.trans b34.sm, k1, k2, k3, rk.same b34.sm, h4⟩
    | true =>
      rw [if_pos rfl] at h4 ⊢
      intro s1 H01 C1 cl1 fp1
      refine ((hk s1 H01 C1 cl1 fp1).run σ2 H4 σ1 F4 M4 _ noX PTk.no b4.rm (rs2.same b4.sm) h4).mono ?_
      rintro yv H5 ⟨F5, M5, y5, b5, r5, h5⟩
      intro s2 H02 C2 cl2 fp2
      refine ((hv s2 H02 C2 cl2 fp2).run σ2 H5 σ1 F5 M5 _ noX PTk.no b5.rm ((rs2.same b4.sm).same b5.sm) h5).mono ?_
      rintro zv H6 ⟨F6, M6, z6, b6, r6, h6⟩
      obtain ⟨k, rfl, ok, hz, h7⟩ := kKey.of h6
      have b36 := (b34.trans b5).trans b6
      obtain ⟨k1, k2, k3⟩ := keep b36
      have rk6 := rk.same b36.sm
      refine ⟨D, es, k, rfl, ⟨ep, k3⟩, rk6.keysV b6.rm.fr, R.keyV b6.rm.fr k yv (r5.same b6.sm), ok, by rw [rk6.length]; exact hz, fun ep' => ⟨rfl, hlt, F6, M6, ep', putD kvs k z6, putV es k yv zv, ?_, sm2.trans b36.sm, k1, k2, upd_same, RKs.put (r5.same b6.sm) r6 rk6, h7⟩⟩
      have b06 := b2.trans b36
      refine ⟨b06.sm, hid_app b06.rm k1 k2, ⟨fun c u hc nc => ?_, b06.fr.grow, fun c hc => ?_⟩, b06.fg⟩
      · have ne : c ≠ D := fun z => by
          subst z
          exact absurd nD (b1.fr.there c (by rw [hc]; exact Option.some_ne_none _))
        rw [upd_ne ne]
        exact b06.fr.keep c u hc nc
      · by_cases e : c = D
        · subst e; rw [upd_same]; exact Option.some_ne_none _
        · rw [upd_ne e]; exact b06.fr.there c hc
  · have e : j = xs.length := by omega
    subst e
    rw [List.drop_length] at h2
    exact .inl ⟨s2 (Nat.le_refl _), fin b1 nD b2 nF2 nM2 hD rk h2⟩
theorem LE.dc (hu : X.A.units + 65 < cLine) (hcalm : X.calm = true) (nd : X.N.Nodup) (hi : LI X tg iter wi) (bok : BlkOk X.N X.env.scope scope own) (hst : Stores X.K g (own.map (·.2)) st)
    (hg : ∀ s H C cl fp, PG (Blk X scope s H C cl fp) tg g) (ht : ∀ s H C cl fp, LTs (Blk X scope s H C cl fp) ifs tt) (hk : ∀ s H C cl fp, LE (Blk X scope s H C cl fp) kx tk) (hv : ∀ s H C cl fp, LE (Blk X scope s H C cl fp) vx tv)
    (fold : ∀ x, foldedSetIterable iter X.env x = pure x := by intro _; rfl) : LE X (.DictComp kx vx [⟨tg, iter, ifs, 0⟩] scope pos) (pDc wi st tt tk tv) := by
  refine ⟨fun σv H σ F M Q E tk0 rm rs h => WE.of (pe_dcD (own := own) (g := g) (tt := TBlk X scope ifs) (tk := EBlk X scope kx) (tv := EBlk X scope vx) hu hcalm nd WI.pi bok hg (fun s0 H0 C cl fp => ⟨fun pins s σ H Q I hh => hh s0 H0 C cl fp pins s I⟩) (fun s0 H0 C cl fp => ⟨fun pins s σ H Q I hh => hh s0 H0 C cl fp pins s I⟩) (fun s0 H0 C cl fp => ⟨fun pins s σ H Q I hh => hh s0 H0 C cl fp pins s I⟩) fold) ?_⟩
  exact dc_t hi hst ht hk hv (fun b1 nD b2 nF nM hD rk q => dc_finM b1 nD b2 nF nM hD rk q) tk0 rm rs h
theorem LE.dcF (hu : X.A.units + 65 < cLine) (hcalm : X.calm = true) (nd : X.N.Nodup) (hi : LI X tg iter wi) (bok : BlkOk X.N X.env.scope scope own) (hst : Stores X.K g (own.map (·.2)) st)
    (hg : ∀ s H C cl fp, PG (Blk X scope s H C cl fp) tg g) (ht : ∀ s H C cl fp, LTs (Blk X scope s H C cl fp) ifs tt) (hk : ∀ s H C cl fp, LE (Blk X scope s H C cl fp) kx tk) (hv : ∀ s H C cl fp, LE (Blk X scope s H C cl fp) vx tv)
    (fold : ∀ x, foldedSetIterable iter X.env x = pure x := by intro _; rfl) : LE X (.DictComp kx vx [⟨tg, iter, ifs, 0⟩] scope pos) (pDcF wi st tt tk tv) := by
  refine ⟨fun σv H σ F M Q E tk0 rm rs h => WE.of (pe_dcD (own := own) (g := g) (tt := TBlk X scope ifs) (tk := EBlk X scope kx) (tv := EBlk X scope vx) hu hcalm nd WI.pi bok hg (fun s0 H0 C cl fp => ⟨fun pins s σ H Q I hh => hh s0 H0 C cl fp pins s I⟩) (fun s0 H0 C cl fp => ⟨fun pins s σ H Q I hh => hh s0 H0 C cl fp pins s I⟩) (fun s0 H0 C cl fp => ⟨fun pins s σ H Q I hh => hh s0 H0 C cl fp pins s I⟩) fold) ?_⟩
  exact dc_t hi hst ht hk hv (fun b1 nD b2 nF nM hD rk q => dc_finF b1 nD b2 nF nM hD rk q) tk0 rm rs h
theorem LS.setDc (k : Nat) {y : Str} {py spos : Pos} (hy : X.N[k]? = some y) (hyl : X.env.scope.names.lookup y = some .local) (hsw : swapsWith (.DictComp kx vx [⟨tg, iter, ifs, 0⟩] scope pos) (some (.Name y py)) spos.line X.env = pure true)
    (hu : X.A.units + 65 < cLine) (hcalm : X.calm = true) (nd : X.N.Nodup) (hi : LI X tg iter wi) (bok : BlkOk X.N X.env.scope scope own) (hst : Stores X.K g (own.map (·.2)) st)
    (hg : ∀ s H C cl fp, PG (Blk X scope s H C cl fp) tg g) (ht : ∀ s H C cl fp, LTs (Blk X scope s H C cl fp) ifs tt) (hk : ∀ s H C cl fp, LE (Blk X scope s H C cl fp) kx tk) (hv : ∀ s H C cl fp, LE (Blk X scope s H C cl fp) vx tv)
    (fold : ∀ x, foldedSetIterable iter X.env x = pure x := by intro _; rfl) : LS X (.Assign [.Name y py] (.DictComp kx vx [⟨tg, iter, ifs, 0⟩] scope pos) spos) (pSet k (pDc wi st tt tk tv)) := by
  refine ⟨fun σv H σ F M D tk0 rm rs h => ?_⟩
  refine WS.of (ps_setDc (own := own) (g := g) (tt := TBlk X scope ifs) (tk := EBlk X scope kx) (tv := EBlk X scope vx) hu hcalm nd hy hyl hsw WI.pi bok hg (fun s0 H0 C cl fp => ⟨fun pins s σ H Q I hh => hh s0 H0 C cl fp pins s I⟩) (fun s0 H0 C cl fp => ⟨fun pins s σ H Q I hh => hh s0 H0 C cl fp pins s I⟩) (fun s0 H0 C cl fp => ⟨fun pins s σ H Q I hh => hh s0 H0 C cl fp pins s I⟩) fold) ?_
  have q := dc_t (Q := fun x M1 => D.nx (σ.set k (some x)) M1) (eQ := fun kvs M2 => ∀ p, M2 p = none → D.nx (σ.set k (some (.ptr p))) (M2.put p (.dct p kvs))) (scope := scope) (kx := kx) (vx := vx) (ifs := ifs) hi hst ht hk hv (fun b1 nD b2 nF nM hD rk q => dc_finM b1 nD b2 nF nM hD rk q) tk0 rm rs h
  have m : ∀ v H', LQ X.K F M H (fun x M1 => D.nx (σ.set k (some x)) M1) v H' → gName k v σv H' (LD X.K F M H D).nx := fun v H' ⟨F1, M1, y, b1, ry, hy⟩ => ⟨F1, M1, _, b1, (rs.same b1.sm).set k ry, hy⟩
  refine WI.mono q fun J H1 h1 => ?_
  intro D' nD
  obtain ⟨W, w0, w1⟩ := h1 D' nD
  refine ⟨W, w0, fun j m' H' w => ?_⟩
  rcases w1 j m' H' w with ⟨s1, s2⟩ | s
  · exact .inl ⟨s1, m _ _ s2⟩
  · exact .inr s
end
theorem w_dc {wi : PTI} {st : Stp} {tt : PTT} {tk tv : PTE} {E : PXK} {σ : PSt} {M : Mem} {Q : PQ} (h : wi E σ M fun xs M1 => pDcL st tt tk tv xs [] σ M1 fun kvs M2 => ∀ p, M2 p = none → Q (.ptr p) (M2.put p (.dct p kvs))) : pDc wi st tt tk tv E σ M Q := h
theorem w_dcF {wi : PTI} {st : Stp} {tt : PTT} {tk tv : PTE} {E : PXK} {σ : PSt} {M : Mem} {Q : PQ} (h : wi E σ M fun xs M1 => pDcL st tt tk tv xs [] σ M1 fun kvs M2 => Q (.dct kvs) M2) : pDcF wi st tt tk tv E σ M Q := h
end PL
set_option Elab.async false
set_option linter.all false
set_option maxRecDepth 100000
namespace PL
open PySem PySem.Spec PyProof.Rows L2 PD
/-! ### a list comprehension with three clauses and no tests -/
abbrev LC3 (elt t0 i0 t1 i1 t2 i2 : Expr) (scope : Scope) (pos : Pos) : Expr := .ListComp elt [⟨t0, i0, [], 0⟩, ⟨t1, i1, [], 0⟩, ⟨t2, i2, [], 0⟩] scope pos
section
variable {elt t0 i0 t1 i1 t2 i2 : Expr} {scope : Scope} {pos : Pos} {prog : Program} {w : World} {A : Around} {R : Result → Shared → Prop} {it acc : Value} {env : Env}
/-- one clause's loop, whatever it does in a turn -/
theorem clauseLoop {t : Expr} {k : Nat} {B : Sem PySem.Fin → Sem PySem.Fin} {ps : Pos} (ct : compTurn (LC3 elt t0 i0 t1 i1 t2 i2 scope pos) k it acc env = (do
      standAt ps
      match ← pyNext it with
      | none => pure (.done .next)
      | some v =>
        letOwnedTupleGo t it v
        assign t env v
        B (again (.compLoop (LC3 elt t0 i0 t1 i1 t2 i2 scope pos) k it acc env)))) (I : Nat → Shared → Prop)
    (turn : ∀ n s, I n s → wpAny (model prog w) A (pyNext it) (fun r s1 => match r with
      | none => R (.ok .next) s1
      | some v => wpAny (model prog w) A (letOwnedTupleGo t it v) (fun _ s2 => wpAny (model prog w) A (assign t env v) (fun _ s3 =>
          ∀ K Q (E : Value → Shared → Prop), (∀ m s4, m < n → I m s4 → wpAny (model prog w) A K Q E s4) → wpAny (model prog w) A (B K) Q E s3) (fun _ _ => False) s2) (fun _ _ => False) s1) (fun _ _ => False) s)
    (n : Nat) (s : Shared) (h : I n s) : codeAny (model prog w) A (.compLoop (LC3 elt t0 i0 t1 i1 t2 i2 scope pos) k it acc env) R s := by
  refine codeAny_loop rfl I (fun n s hI => ?_) n h
  show wpAny _ A ((compTurn (LC3 elt t0 i0 t1 i1 t2 i2 scope pos) k it acc env).onRaise (fun x => do noteFrame x env; theTreesLotGoes x)) _ _ s
  refine wpAny_noted ?_
  rw [ct]
  refine wpAny_bind (wpAny_standAt (wpAny_bind (wpAny_mono (turn n s hI) (fun r s1 h1 => ?_) fun _ _ z => z.elim)))
  cases r with
  | none => exact wpAny_pure h1
  | some v =>
    refine wpAny_bind (wpAny_mono h1 (fun _ s2 h2 => ?_) fun _ _ z => z.elim)
    refine wpAny_bind (wpAny_mono h2 (fun _ s3 h3 => ?_) fun _ _ z => z.elim)
    exact h3 _ _ _ fun m s4 hm h4 => wpAny_pure ⟨rfl, m, hm, h4⟩
end
section
variable {elt t0 i0 t1 i1 t2 i2 : Expr} {scope : Scope} {pos : Pos} {it acc : Value} {env : Env}
def nextClause (e i : Expr) (k : Nat) (acc : Value) (env : Env) (K : Sem PySem.Fin) : Sem PySem.Fin := do
  let x ← eval i env
  standAt i.pos
  let x ← foldedSetIterable i env x
  let _ ← runOwn (.compStart e k (← holding [x] (pyIter x)) acc env) env
  K
def lastClause (elt : Expr) (acc : Value) (env : Env) (K : Sem PySem.Fin) : Sem PySem.Fin := do
  (do let _ ← call (.builtin "list.append") [acc, ← eval elt env])
  K
theorem turn3_0 : compTurn (LC3 elt t0 i0 t1 i1 t2 i2 scope pos) 0 it acc env = (do
      standAt i0.pos
      match ← pyNext it with
      | none => pure (.done .next)
      | some v =>
        letOwnedTupleGo t0 it v
        assign t0 env v
        nextClause (LC3 elt t0 i0 t1 i1 t2 i2 scope pos) i1 1 acc env (again (.compLoop (LC3 elt t0 i0 t1 i1 t2 i2 scope pos) 0 it acc env))) := by rfl
theorem turn3_1 : compTurn (LC3 elt t0 i0 t1 i1 t2 i2 scope pos) 1 it acc env = (do
      standAt i1.pos
      match ← pyNext it with
      | none => pure (.done .next)
      | some v =>
        letOwnedTupleGo t1 it v
        assign t1 env v
        nextClause (LC3 elt t0 i0 t1 i1 t2 i2 scope pos) i2 2 acc env (again (.compLoop (LC3 elt t0 i0 t1 i1 t2 i2 scope pos) 1 it acc env))) := by rfl
theorem turn3_2 : compTurn (LC3 elt t0 i0 t1 i1 t2 i2 scope pos) 2 it acc env = (do
      standAt i2.pos
      match ← pyNext it with
      | none => pure (.done .next)
      | some v =>
        letOwnedTupleGo t2 it v
        assign t2 env v
        lastClause elt acc env (again (.compLoop (LC3 elt t0 i0 t1 i1 t2 i2 scope pos) 2 it acc env))) := by rfl
end
section
variable {elt t0 i0 t1 i1 t2 i2 : Expr} {scope : Scope} {pos : Pos} {prog : Program} {w : World} {A : Around} {R : Result → Shared → Prop} {it acc : Value} {env : Env} {s : Shared} {K : Sem PySem.Fin} {Q : PySem.Fin → Shared → Prop} {E : Value → Shared → Prop}
theorem next_ok {e i : Expr} {k : Nat} {P : Shared → Prop} (hs : ∀ x, foldedSetIterable i env x = pure x)
    (h : wpAny (model prog w) A (eval i env) (fun x s1 => wpAny (model prog w) A (pyIter x) (fun it1 s2 => codeAny (model prog w) A (.compStart e k it1 acc env) (fun r s' => match r with | .ok _ => P s' | .error _ => False) s2) (fun _ _ => False) s1) (fun _ _ => False) s)
    (hP : ∀ s', P s' → wpAny (model prog w) A K Q E s') : wpAny (model prog w) A (nextClause e i k acc env K) Q E s := by
  unfold nextClause
  refine wpAny_bind (wpAny_mono h (fun x s1 h1 => ?_) fun _ _ z => z.elim)
  refine wpAny_bind (wpAny_standAt (wpAny_bind (wpAny_of_eq (hs x) (wpAny_bind (wpAny_holding (wpAny_mono h1 (fun it1 s2 h2 => ?_) fun _ _ z => z.elim))))))
  refine wpAny_bind (wpAny_runOwn ?_)
  rw [Around.mark_none]
  refine codeAny_mono h2 fun r s' hr => ?_
  cases r with
  | ok f => exact hP _ hr
  | error e => exact hr.elim
theorem last_ok (h : wpAny (model prog w) A (eval elt env) (fun x s1 => wpAny (model prog w) A (call (.builtin "list.append") [acc, x]) (fun _ s2 => wpAny (model prog w) A K Q E s2) (fun _ _ => False) s1) (fun _ _ => False) s) : wpAny (model prog w) A (lastClause elt acc env K) Q E s := by
  unfold lastClause
  refine wpAny_bind (wpAny_bind (wpAny_mono h (fun x s1 h1 => ?_) fun _ _ z => z.elim))
  exact wpAny_bind (wpAny_mono h1 (fun _ s2 h2 => wpAny_pure h2) fun _ _ z => z.elim)
theorem start3 {k : Nat} (hk : k = 1 ∨ k = 2) (h0 : codeAny (model prog w) A (.compLoop (LC3 elt t0 i0 t1 i1 t2 i2 scope pos) k it acc env) R s)
    (h : wpAny (model prog w) A (pyIter it) (fun it' s' => codeAny (model prog w) A (.compLoop (LC3 elt t0 i0 t1 i1 t2 i2 scope pos) k it' acc env) R s') (notedBy (model prog w) A env fun x s' => R (.error x) s') s) :
    codeAny (model prog w) A (.compStart (LC3 elt t0 i0 t1 i1 t2 i2 scope pos) k it acc env) R s := by
  rcases hk with rfl | rfl
  all_goals
    refine codeAny_of_tree ?_
    refine wpAny_notedAt ?_
    unfold compStart
    show wpAny _ _ (ask >>= _) _ _ s
    refine wpAny_bind (wpAny_askSetting (wpAny_ite ?_))
    split
    · first
        | exact wpAny_bind (wpAny_pure (wpAny_pure (And.intro rfl h0)))
        | exact wpAny_pure (And.intro rfl h0)
    · refine wpAny_bind (wpAny_rule ?_)
      show wpAny _ _ (standAt _ >>= _) _ _ s
      exact wpAny_bind (wpAny_standAt (wpAny_bind (wpAny_mono h (fun it' s' h' => wpAny_pure (And.intro rfl h')) fun _ _ z => z)))
end
section
variable {elt t0 i0 t1 i1 t2 i2 : Expr} {scope : Scope} {pos : Pos}
/-- slots that know no less -/
def Weak (a b : L2.St) : Prop := a.length = b.length ∧ ∀ (j : Nat) v, a[j]? = some (some v) → b[j]? = some (some v)
def BodyOk (Y : Cx) (vs : List Nat) (body : L2.St → Hp → (Hp → Prop) → Prop) (B : Sem PySem.Fin → Sem PySem.Fin) : Prop := ∀ σ σ2 H2 N s2 pins2, Inv Y pins2 σ2 H2 s2 → wipe σ2 vs = wipe σ vs → body σ2 H2 N → ∀ K Q (E : Value → Shared → Prop),
  (∀ σ3 H3 s3, Inv Y pins2 σ3 H3 s3 → Weak (wipe σ vs) σ3 → N H3 → wpAny (model Y.prog Y.w) Y.A K Q E s3) → wpAny (model Y.prog Y.w) Y.A (B K) Q E s2
def tLv (J : It) (g : TG) (vs : List Nat) (body : L2.St → Hp → (Hp → Prop) → Prop) (σ : L2.St) (Done : Hp → Prop) (H0 : Hp) : Prop := ∃ W : Nat → Nat → Hp → Prop, (∃ m, W 0 m H0) ∧ ∀ i m H, W i m H →
  (J.stop i H ∧ Done H) ∨ (J.go i H ∧ ∃ N : Hp → Prop, (∀ H', N H' → ∃ m', m' < m ∧ W (i + 1) m' H') ∧ ∀ x H', J.yld i H x H' → g x (wipe σ vs) H' fun σ2 H2 => wipe σ2 vs = wipe σ vs ∧ body σ2 H2 N)
theorem lvl {Y : Cx} {pins : List (Addr × Obj)} {fp : List Addr} {ita : Addr} {tn : Nat → Heap → Prop} {J : It} {tg : Expr} {g : TG} {σ : L2.St} {vs : List Nat} {Done : Hp → Prop} {body : L2.St → Hp → (Hp → Prop) → Prop} {B : Sem PySem.Fin → Sem PySem.Fin} {k : Nat} {acc : Value} {ps : Pos} {R : Result → Shared → Prop}
    (T : Turn Y.prog Y.w Y.K tg J fp ita tn) (calm : Y.calm = true) (hxe : Y.xe = fun _ _ => False) (stat : ∀ {σ1 : L2.St} {H1 : Hp} {s1 : Shared}, Inv Y pins σ1 H1 s1 → (∀ b ∈ fp, H1 b = none) → ∀ b ∈ fp, FpOk Y pins H1 b) (pg : PG Y tg g)
    (ct : compTurn (LC3 elt t0 i0 t1 i1 t2 i2 scope pos) k (.ref ita) acc Y.env = (do
      standAt ps
      match ← pyNext (.ref ita) with
      | none => pure (.done .next)
      | some v =>
        letOwnedTupleGo tg (.ref ita) v
        assign tg Y.env v
        B (again (.compLoop (LC3 elt t0 i0 t1 i1 t2 i2 scope pos) k (.ref ita) acc Y.env))))
    (hB : BodyOk Y vs body B)
    {W : Nat → Nat → Hp → Prop} (turn : ∀ i m H, W i m H → (J.stop i H ∧ Done H) ∨ (J.go i H ∧ ∃ N : Hp → Prop, (∀ H', N H' → ∃ m', m' < m ∧ W (i + 1) m' H') ∧ ∀ x H', J.yld i H x H' → g x (wipe σ vs) H' fun σ2 H2 => wipe σ2 vs = wipe σ vs ∧ body σ2 H2 N))
    (hR : ∀ s1 H1, Inv Y pins (wipe σ vs) H1 s1 → Done H1 → R (.ok .next) s1)
    (n i : Nat) (s : Shared) (H : Hp) (inv : Inv Y pins (wipe σ vs) H s) (st : tn i s.heap) (nfp : ∀ b ∈ fp, H b = none) (w : W i n H) : codeAny (model Y.prog Y.w) Y.A (.compLoop (LC3 elt t0 i0 t1 i1 t2 i2 scope pos) k (.ref ita) acc Y.env) R s := by
  refine clauseLoop ct (fun n s1 => ∃ i H1, W i n H1 ∧ Inv Y pins (wipe σ vs) H1 s1 ∧ tn i s1.heap ∧ ∀ b ∈ fp, H1 b = none) ?_ n s ⟨i, H, w, inv, st, nfp⟩
  rintro n s1 ⟨i, H1, w1, i1, st1, n1⟩
  rcases turn i n H1 w1 with ⟨stop, dn⟩ | ⟨go, N, hN, step⟩
  · refine thnF (T.done Y rfl rfl rfl calm i pins s1 _ H1 (fun _ _ => False) i1 (stat i1 n1) st1 stop) fun r s2 ⟨hr, i2⟩ => ?_
    subst hr
    exact hR _ _ i2 dn
  · refine thnF (T.item Y rfl rfl rfl calm i pins s1 _ H1 (fun _ _ => False) i1 (stat i1 n1) st1 go) fun r s2 ⟨u, hr, h2⟩ => ?_
    subst hr
    refine thnF h2 fun _ s3 ⟨x, H3, i3, r3, y3, st3, n3⟩ => ?_
    have run := pg.run _ s3 _ H3 x u _ (i3.pinned (stat i3 n3) (T.obj _ _ st3)) r3 (step x H3 y3)
    rw [hxe] at run
    refine thnF run fun _ s4 ⟨σ4, H4, i4, ew, q4⟩ => ?_
    intro K Q E hK
    refine hB _ _ _ _ _ _ i4 ew q4 K Q E fun σ5 H5 s5 i5 wk nx => ?_
    obtain ⟨m, lt, w5⟩ := hN _ nx
    have pin : ∀ b ∈ fp, ∀ o, s3.heap.get? b = some o → s5.heap.get? b = some o ∧ H5 b = none := fun b mb o z =>
      let y := i5.pin (b, o) (List.mem_append_right _ (List.mem_append_right _ (mem_pinsAt mb z)))
      ⟨y.1, y.2.1⟩
    refine hK m s5 lt ⟨i + 1, H5, w5, i5.unpinned.weak wk.1 wk.2, T.keep _ _ _ st3 fun b mb o z => (pin b mb o z).1, fun b mb => ?_⟩
    obtain ⟨o, z, _⟩ := T.obj _ _ st3 b mb
    exact (pin b mb o z).2
theorem weak_in {σ σ2 : L2.St} {vs vs2 : List Nat} (hv : ∀ i ∈ vs2, i ∈ vs) (e : wipe σ2 vs = wipe σ vs) : Weak (wipe σ vs) (wipe σ2 vs2) := by
  refine ⟨by rw [← e, wipe_length, wipe_length], fun j v z => ?_⟩
  rw [← e] at z
  obtain ⟨z1, z2⟩ := wipe_some z
  rw [wipe_out fun y => z2 (hv j y)]
  exact z1
theorem weak_self {σ σ2 : L2.St} {vs : List Nat} (e : wipe σ2 vs = wipe σ vs) : Weak (wipe σ vs) σ2 := by
  refine ⟨by rw [← e, wipe_length], fun j v z => ?_⟩
  rw [← e] at z
  exact (wipe_some z).1
theorem lastB {Y : Cx} {vs : List Nat} {te : TE} {D : Addr} (hxe : Y.xe = fun _ _ => False) (pe : PE Y elt te) :
    BodyOk Y vs (fun σ4 H6 N2 => te σ4 H6 fun y H7 => ∃ acc, H7 D = some (.lst acc) ∧ acc.length < sizeLine ∧ N2 (upd H7 D (.lst (acc ++ [y])))) (lastClause elt (.ref D) Y.env) := by
  intro σ σ2 H2 N s2 pins2 i2 ew q K Q E hK
  have run := pe.run _ s2 σ2 H2 _ i2 q
  rw [hxe] at run
  refine last_ok (thnF run fun z s3 ⟨y, H3, i3, r3, acc, hD, hz, nx⟩ => ?_)
  exact app_ok i3 hD hz r3 fun s4 i4 => hK _ _ _ i4 (weak_self ew) nx
theorem nextB {Y : Cx} {vs vs2 : List Nat} {k : Nat} {tg i : Expr} {wi : TI} {g : TG} {acc : Value} {ps : Pos} {body : L2.St → Hp → (Hp → Prop) → Prop} {B : Sem PySem.Fin → Sem PySem.Fin} (hk : k = 1 ∨ k = 2) (hv : ∀ i ∈ vs2, i ∈ vs) (calm : Y.calm = true) (hxe : Y.xe = fun _ _ => False) (pi : PI Y tg i wi) (pg : PG Y tg g) (fold : ∀ env x, foldedSetIterable i env x = pure x)
    (ct : ∀ ita, compTurn (LC3 elt t0 i0 t1 i1 t2 i2 scope pos) k (.ref ita) acc Y.env = (do
      standAt ps
      match ← pyNext (.ref ita) with
      | none => pure (.done .next)
      | some v =>
        letOwnedTupleGo tg (.ref ita) v
        assign tg Y.env v
        B (again (.compLoop (LC3 elt t0 i0 t1 i1 t2 i2 scope pos) k (.ref ita) acc Y.env))))
    (hB : BodyOk Y vs2 body B) : BodyOk Y vs (fun σ2 H2 N => wi σ2 H2 fun J H3 => tLv J g vs2 body σ2 N H3) (nextClause (LC3 elt t0 i0 t1 i1 t2 i2 scope pos) i k acc Y.env) := by
  intro σ σ2 H2 N s2 pins2 j2 ew q K Q E hK
  have run := pi.run _ s2 σ2 H2 _ j2 q
  rw [hxe] at run
  refine next_ok (P := fun s' => ∃ σ3 H3, Inv Y pins2 σ3 H3 s' ∧ Weak (wipe σ vs) σ3 ∧ N H3) (fold Y.env) (thnF run fun xv s3 hx => thnF hx fun itv s4 h4 => ?_) fun s' ⟨σ3, H3, i3, wk, nx⟩ => hK _ _ _ i3 wk nx
  obtain ⟨it, fp, tn, J, H4, rfl, i4, T, st, fps, W, ⟨m, w0⟩, turn⟩ := h4
  have loop : codeAny (model Y.prog Y.w) Y.A (.compLoop (LC3 elt t0 i0 t1 i1 t2 i2 scope pos) k (.ref it) acc Y.env) (fun r s' => match r with | .ok _ => ∃ σ3 H3, Inv Y pins2 σ3 H3 s' ∧ Weak (wipe σ vs) σ3 ∧ N H3 | .error _ => False) s4 :=
    lvl T calm hxe (fun _ n b mb => ⟨n b mb, (fps b mb).2⟩) pg (ct it) hB turn (fun s5 H5 i5 nx => ⟨_, H5, i5, weak_in hv ew, nx⟩) m 0 s4 H4 (i4.weak (wipe_length _ _) fun j v z => (wipe_some z).1) st (fun b mb => (fps b mb).1) w0
  exact start3 hk loop (T.self Y.A 0 _ _ _ st loop)
end
end PL
set_option Elab.async false
set_option linter.all false
set_option maxRecDepth 100000
namespace PL
open PySem PySem.Spec PyProof.Rows L2 PD
section
variable {X : Cx} {pins : List (Addr × Obj)} {s : Shared} {σ : L2.St} {H : Hp} {Q : VK} {elt t0 e0 t1 e1 t2 e2 : Expr} {scope : Scope} {own : List (Str × Nat)} {pos pos2 : Pos} {wi wi1 wi2 : TI} {g g1 g2 : TG} {te : TE} {vs1 vs2 : List Nat}
def tLc3 (wi : TI) (g : TG) (wi1 : TI) (g1 : TG) (wi2 : TI) (g2 : TG) (te : TE) (vs vs1 vs2 : List Nat) : TE := fun σ H Q => wi σ H fun J H1 => ∀ D, H1 D = none →
  tLv J g vs (fun σ2 H2 N => wi1 σ2 H2 fun J1 H3 => tLv J1 g1 vs1 (fun σ3 H4 N1 => wi2 σ3 H4 fun J2 H5 => tLv J2 g2 vs2 (fun σ4 H6 N2 => te σ4 H6 fun y H7 => ∃ acc, H7 D = some (.lst acc) ∧ acc.length < sizeLine ∧ N2 (upd H7 D (.lst (acc ++ [y])))) σ3 N1 H5) σ2 N H3) σ (Q (.ref D)) (upd H1 D (.lst []))
theorem lc3_core {use : Option (Value → Sem Unit)} {Qf : Value → Shared → Prop} (hcalm : X.calm = true) (nd : X.N.Nodup) (inv : Inv X pins σ H s) (hi : PI X t0 e0 wi) (bok : BlkOk X.N X.env.scope scope own) (h1 : ∀ i ∈ vs1, i ∈ own.map (·.2)) (h2 : ∀ i ∈ vs2, i ∈ vs1)
    (hg : ∀ s H C cl fp, PG (Blk X scope s H C cl fp) t0 g) (hi1 : ∀ s H C cl fp, PI (Blk X scope s H C cl fp) t1 e1 wi1) (hg1 : ∀ s H C cl fp, PG (Blk X scope s H C cl fp) t1 g1) (hi2 : ∀ s H C cl fp, PI (Blk X scope s H C cl fp) t2 e2 wi2) (hg2 : ∀ s H C cl fp, PG (Blk X scope s H C cl fp) t2 g2) (he : ∀ s H C cl fp, PE (Blk X scope s H C cl fp) elt te)
    (fold : ∀ x, foldedSetIterable e0 X.env x = pure x) (fold1 : ∀ env x, foldedSetIterable e1 env x = pure x) (fold2 : ∀ env x, foldedSetIterable e2 env x = pure x) (h : tLc3 wi g wi1 g1 wi2 g2 te (own.map (·.2)) vs1 vs2 σ H Q)
    (back : ∀ D C s' m H', Inv X pins σ H' s' → Q (.ref D) H' → s'.heap.Ns C m → FpOk X pins H' C → compPost (model X.prog X.w) X.A X.xe use Qf (.ref D) C (.ok .next) s') :
    wpAny (model X.prog X.w) X.A (comprehension (LC3 elt t0 e0 t1 e1 t2 e2 scope pos) scope X.env pos2 (newList []) false (eval e0 X.env) use) Qf X.xe s := by
  have cells : ∀ y ∈ scope.names, y.2 = .free → ∃ c, X.env.cells.lookup y.1 = some c := fun y m z => (bok.free y m z).elim (fun q => inv.ok.has _ (.inl q)) fun q => inv.ok.has _ (.inr q)
  refine wpAny_comprehension_free (use := use) rfl fold (closure_ok cells) bok.kind (fun y m z => by rw [bok.uniq y m, z]) (thn (hi.run pins s σ H _ inv h) fun xv sa hx => thn hx fun itv sb hb => ?_)
  obtain ⟨it, fp, tn, J, Ha, rfl, invb, T, sta, fpa, q⟩ := hb
  refine wpAny_newObj_type (newEnv_comp ?_) (by show 0 ≤ sizeLine; decide)
  generalize eD : sb.heap.objs.size = D
  obtain ⟨W, ⟨m0, w0⟩, turn⟩ := q D (invb.hok.fresh (Nat.le_of_eq eD))
  generalize esc : ({ sb with heap := sb.heap.push { cls := .type "list", data := .seq ([] : List Value).toArray } } : Shared) = sc
  have invc : Inv X pins σ (upd Ha D (.lst [])) sc := by
    rw [← esc]
    refine invb.laid (t' := sb.toks) (fun b o z => Heap.get?_push_of_some _ z) (Nat.le_of_eq eD) ⟨Nat.zero_le _, [], 0, .nil, ?_⟩
    rw [← eD]
    exact Heap.get?_push_size _ rfl
  have hsc : sc.heap = sb.heap.push { cls := .type "list", data := .seq ([] : List Value).toArray } := by rw [← esc]
  have fpc : ∀ b ∈ fp, FpOk X pins (upd Ha D (.lst [])) b ∧ b < sc.heap.objs.size := fun b m => by
    obtain ⟨o, z, _⟩ := T.obj _ _ sta b m
    have lt := Heap.lt_size z
    refine ⟨⟨?_, (fpa b m).2⟩, by rw [hsc, Heap.size_push]; exact Nat.lt_succ_of_lt lt⟩
    rw [upd_ne (by rw [← eD]; exact Nat.ne_of_lt lt)]
    exact (fpa b m).1
  have stc : tn 0 sc.heap := T.keep _ _ _ sta fun b _ o z => by rw [hsc]; exact Heap.get?_push_of_some _ z
  have invd := block_start invc bok nd fpc
  have rg := hg sc (upd Ha D (.lst [])) sc.heap.objs.size (cellsFrom (sc.heap.objs.size + 1) scope.names (cloFrom X.env.cells scope.names [])) fp
  have ri1 := hi1 sc (upd Ha D (.lst [])) sc.heap.objs.size (cellsFrom (sc.heap.objs.size + 1) scope.names (cloFrom X.env.cells scope.names [])) fp
  have rg1 := hg1 sc (upd Ha D (.lst [])) sc.heap.objs.size (cellsFrom (sc.heap.objs.size + 1) scope.names (cloFrom X.env.cells scope.names [])) fp
  have ri2 := hi2 sc (upd Ha D (.lst [])) sc.heap.objs.size (cellsFrom (sc.heap.objs.size + 1) scope.names (cloFrom X.env.cells scope.names [])) fp
  have rg2 := hg2 sc (upd Ha D (.lst [])) sc.heap.objs.size (cellsFrom (sc.heap.objs.size + 1) scope.names (cloFrom X.env.cells scope.names [])) fp
  have re := he sc (upd Ha D (.lst [])) sc.heap.objs.size (cellsFrom (sc.heap.objs.size + 1) scope.names (cloFrom X.env.cells scope.names [])) fp
  have nfp : ∀ b ∈ fp, (upd Ha D (.lst [])) b = none := fun b m => (fpc b m).1.1
  show codeAny _ _ (.compStart _ 0 (.ref it) (.ref D) (compEnvC scope (cellsFrom (sc.heap.objs.size + 1) scope.names (cloFrom X.env.cells scope.names [])) sc.heap.objs.size X.env)) (compPost _ X.A X.xe use Qf (.ref D) sc.heap.objs.size) { sc with heap := pushCells (sc.heap.push { cls := .type "dict", data := .dict #[] }) scope.names }
  unfold Blk at rg ri1 rg1 ri2 rg2 re
  generalize ece : compEnvC scope (cellsFrom (sc.heap.objs.size + 1) scope.names (cloFrom X.env.cells scope.names [])) sc.heap.objs.size X.env = ce at invd rg ri1 rg1 ri2 rg2 re ⊢
  have loc : ce.locals = sc.heap.objs.size := by subst ece; rfl
  generalize eHc : upd Ha D (.lst []) = Hc at invc invd rg ri1 rg1 ri2 rg2 re w0 nfp fpc
  generalize esd : ({ sc with heap := pushCells (sc.heap.push { cls := .type "dict", data := .dict #[] }) scope.names } : Shared) = sd at invd ⊢
  have std : tn 0 sd.heap := T.keep _ _ _ stc fun b _ o z => by rw [← esd]; exact pushCells_keeps _ _ _ _ (Heap.get?_push_of_some _ z)
  have loop : codeAny (model X.prog X.w) X.A (.compLoop (LC3 elt t0 e0 t1 e1 t2 e2 scope pos) 0 (.ref it) (.ref D) ce) (compPost (model X.prog X.w) X.A X.xe use Qf (.ref D) sc.heap.objs.size) sd := by
    refine lvl (Y := X.blk sc Hc scope ce fp) (pins := []) T hcalm rfl (fun i1 n1 b m => ⟨n1 b m, (i1.ok.exf b m).1, i1.ok.exfs b m, .inl m, fun x c z => (i1.ok.exf b m).2 x c z, fun p z => absurd (show p ∈ ([] : List (Addr × Obj)) ++ [] from z) (by simp)⟩) rg turn3_0
      (nextB (.inl rfl) h1 hcalm rfl ri1 rg1 fold1 (fun _ => turn3_1) (nextB (.inr rfl) h2 hcalm rfl ri2 rg2 fold2 (fun _ => turn3_2) (lastB rfl re))) turn (fun s2 H2 j2 qq => ?_) m0 0 sd Hc invd std nfp w0
    have i3 : Inv X pins σ H2 s2 := invc.call' (ch := fp) j2.os j2.base j2.hok j2.bare fun b m => ⟨(fpc b m).1.2.2.2.1, (fpc b m).1.2.1, (fpc b m).1.2.2.2.2.1, (fpc b m).1.2.2.2.2.2⟩
    have free : H2 ce.locals = none := j2.free
    obtain ⟨m, hn, _⟩ := j2.loc
    have hn : s2.heap.Ns ce.locals m := hn
    rw [loc] at free hn
    exact back D sc.heap.objs.size s2 m H2 i3 qq hn (invc.fpOk (Nat.le_refl _) free)
  exact codeAny_compStart_list loop (T.self X.A 0 _ _ _ std loop)
theorem pe_lc3 (hcalm : X.calm = true) (nd : X.N.Nodup) (hi : PI X t0 e0 wi) (bok : BlkOk X.N X.env.scope scope own) (h1 : ∀ i ∈ vs1, i ∈ own.map (·.2)) (h2 : ∀ i ∈ vs2, i ∈ vs1)
    (hg : ∀ s H C cl fp, PG (Blk X scope s H C cl fp) t0 g) (hi1 : ∀ s H C cl fp, PI (Blk X scope s H C cl fp) t1 e1 wi1) (hg1 : ∀ s H C cl fp, PG (Blk X scope s H C cl fp) t1 g1) (hi2 : ∀ s H C cl fp, PI (Blk X scope s H C cl fp) t2 e2 wi2) (hg2 : ∀ s H C cl fp, PG (Blk X scope s H C cl fp) t2 g2) (he : ∀ s H C cl fp, PE (Blk X scope s H C cl fp) elt te)
    (fold : ∀ x, foldedSetIterable e0 X.env x = pure x := by intro _; rfl) (fold1 : ∀ env x, foldedSetIterable e1 env x = pure x := by intro _ _; rfl) (fold2 : ∀ env x, foldedSetIterable e2 env x = pure x := by intro _ _; rfl) :
    PE X (LC3 elt t0 e0 t1 e1 t2 e2 scope pos) (tLc3 wi g wi1 g1 wi2 g2 te (own.map (·.2)) vs1 vs2) := by
  refine ⟨fun pins s σ H Q I h => ?_⟩
  rw [eval_ListComp]
  refine lc3_core hcalm nd I hi bok h1 h2 hg hi1 hg1 hi2 hg2 he fold fold1 fold2 h fun D C s' m H' i' q hn f => ⟨m, hn, fun h2 sb => ?_⟩
  exact ⟨.ref D, H', i'.turned (t' := s'.toks) (fun b o hb z => (sb.2 b hb).trans z) f.1 f.2.1 f.2.2.2.1 f.2.2.2.2.1 f.2.2.2.2.2, rfl, q⟩
end
end PL
namespace PL
open PySem PySem.Spec PyProof.Rows L2 PD
theorem wipe_get (σ : L2.St) (j : Nat) : ∀ vs : List Nat, (wipe σ vs)[j]? = if j ∈ vs then (σ[j]?).map (fun _ => none) else σ[j]?
  | [] => rfl
  | i :: r => by
    show ((wipe σ r).set i none)[j]? = _
    rw [List.getElem?_set, wipe_length]
    by_cases e : i = j
    · subst e
      rw [if_pos rfl, if_pos List.mem_cons_self]
      by_cases h : i < σ.length
      · rw [if_pos h, List.getElem?_eq_getElem h]; rfl
      · rw [if_neg h, List.getElem?_eq_none (by omega)]; rfl
    · rw [if_neg e, wipe_get σ j r]
      have : (j ∈ i :: r) ↔ j ∈ r := by rw [List.mem_cons]; exact ⟨fun z => z.elim (fun y => absurd y.symm e) id, .inr⟩
      simp only [this]
theorem wipe_set_in {σ : L2.St} {vs : List Nat} {i : Nat} {v : Option V} (h : i ∈ vs) : wipe ((wipe σ vs).set i v) vs = wipe σ vs := by
  apply List.ext_getElem?
  intro j
  rw [wipe_get, wipe_get]
  by_cases hj : j ∈ vs
  · rw [if_pos hj, if_pos hj, List.getElem?_set, wipe_length, wipe_get, if_pos hj]
    by_cases e : i = j
    · subst e
      rw [if_pos rfl]
      by_cases hl : i < σ.length
      · rw [if_pos hl, List.getElem?_eq_getElem hl]; rfl
      · rw [if_neg hl, List.getElem?_eq_none (by omega)]
        try rfl
    · rw [if_neg e]
      cases σ[j]? <;> rfl
  · rw [if_neg hj, if_neg hj, List.getElem?_set_ne (fun e => hj (by rw [← e]; exact h)), wipe_get, if_neg hj]
theorem RS.wipe {K : PySem.W.Frag} {F : Hp} {σ : PSt} {σv : L2.St} (r : RS K F σ σv) : ∀ vs : List Nat, RS K F (vs.foldr (fun i σ => σ.set i none) σ) (L2.wipe σv vs)
  | [] => r
  | i :: vs => (RS.wipe r vs).setW i
/-- one clause's walk over a list -/
def pW1 (i : Nat) (ws : List Nat) (body : PSt → Mem → List PV → (List PV → Mem → Prop) → Prop) : List PV → List PV → PSt → Mem → (List PV → Mem → Prop) → Prop
  | [], acc => fun _ M Q => Q acc M
  | x :: xs, acc => fun σ M Q => body ((ws.foldr (fun i σ => σ.set i none) σ).set i (some x)) M acc fun acc' M2 => pW1 i ws body xs acc' σ M2 Q
def pLc3 (wi : PTI) (i : Nat) (wi1 : PTI) (i1 : Nat) (wi2 : PTI) (i2 : Nat) (te : PTE) : PTE := fun E σ M Q => wi E σ M fun xs M1 => pW1 i [i1, i2] (fun σ1 M2 acc R => wi1 noX σ1 M2 fun ys M3 => pW1 i1 [i2] (fun σ2 M4 acc R => wi2 noX σ2 M4 fun zs M5 =>
  pW1 i2 [] (fun σ3 M6 acc R => te noX σ3 M6 fun y M7 => acc.length < sizeLine ∧ R (acc ++ [y]) M7) zs acc σ2 M5 R) ys acc σ1 M3 R) xs [] σ M1 fun acc M2 => Q (.lst acc) M2
/-- the list at D is hidden yet -/
def Hid (K : PySem.W.Frag) (D : Addr) (F0 : Hp) (M0 : Mem) (H0 : Hp) (F : Hp) (M : Mem) (H : Hp) (acc : List PV) : Prop := ∃ vacc, Beh K F0 M0 H0 F M H ∧ F D = none ∧ M D = none ∧ H D = some (.lst vacc) ∧ RAll K F acc vacc
theorem Hid.go {K : PySem.W.Frag} {D : Addr} {F0 M0 H0 F M H F' M' H'} {acc : List PV} (h : Hid K D F0 M0 H0 F M H acc) (b : Beh K F M H F' M' H') : Hid K D F0 M0 H0 F' M' H' acc := by
  obtain ⟨vacc, b0, n1, n2, hD, ra⟩ := h
  obtain ⟨k1, k2, k3⟩ := keepD n1 n2 hD b
  exact ⟨vacc, b0.trans b, k1, k2, k3, ra.same b.sm⟩
theorem lv_t {K : PySem.W.Frag} {D : Addr} {F0 : Hp} {M0 : Mem} {H0 : Hp} {J : It} {F1 : Hp} {xs : List PV} (st : Stab K J F1 xs) {i : Nat} {ws : List Nat} (hn : i ∉ ws) {body : PSt → Mem → List PV → (List PV → Mem → Prop) → Prop} {bodyV : L2.St → Hp → (Hp → Prop) → Prop} {σ : PSt} {σv : L2.St}
    (hb : ∀ σ2 σ2v F M H acc (R : List PV → Mem → Prop) (N : Hp → Prop), Same F1 F → RS K F σ2 σ2v → Hid K D F0 M0 H0 F M H acc → body σ2 M acc R → (∀ F' M' H' acc', Same F F' → Hid K D F0 M0 H0 F' M' H' acc' → R acc' M' → N H') → bodyV σ2v H N)
    {M1 : Mem} {H1 : Hp} {acc : List PV} {R : List PV → Mem → Prop} {Done : Hp → Prop} (rs : RS K F1 σ σv) (hid : Hid K D F0 M0 H0 F1 M1 H1 acc) (h : pW1 i ws body xs acc σ M1 R) (fin : ∀ F' M' H' acc', Same F1 F' → Hid K D F0 M0 H0 F' M' H' acc' → R acc' M' → Done H') :
    tLv J (gName i) (i :: ws) bodyV σv Done H1 := by
  refine ⟨fun j m H' => m = xs.length - j ∧ j ≤ xs.length ∧ ∃ F' M' acc', Same F1 F' ∧ Hid K D F0 M0 H0 F' M' H' acc' ∧ pW1 i ws body (xs.drop j) acc' σ M' R, ⟨xs.length, rfl, Nat.zero_le _, F1, M1, acc, Same.refl _, hid, h⟩, ?_⟩
  rintro j m H2 ⟨rfl, hj, F2, M2, acc2, sm2, hid2, h2⟩
  have b2 := hid2.choose_spec.1
  obtain ⟨s1, s2⟩ := st j F2 M2 H2 sm2 b2.rm
  by_cases hlt : j < xs.length
  · obtain ⟨go, yl⟩ := s1 hlt
    rw [List.drop_eq_getElem_cons hlt] at h2
    refine .inr ⟨go, _, fun H' n => ⟨_, (show xs.length - (j + 1) < xs.length - j by omega), n⟩, fun v H3 y => ?_⟩
    obtain ⟨F3, b3, r3⟩ := yl v H3 y
    have e1 : (wipe σv (i :: ws)).set i (some v) = (wipe σv ws).set i (some v) := by
      show ((wipe σv ws).set i none).set i (some v) = _
      rw [List.set_set]
    refine ⟨wipe_set_in List.mem_cons_self, ?_⟩
    rw [e1]
    have rs3 : RS K F3 ((ws.foldr (fun i σ => σ.set i none) σ).set i (some xs[j])) ((wipe σv ws).set i (some v)) := ((rs.same (sm2.trans b3.sm)).wipe ws).set i r3
    exact hb _ _ _ _ _ _ _ _ (sm2.trans b3.sm) rs3 (hid2.go b3) h2 fun F' M' H' acc' sm' hid' h' => ⟨rfl, hlt, F', M', acc', (sm2.trans b3.sm).trans sm', hid', h'⟩
  · have e : j = xs.length := by omega
    subst e
    rw [List.drop_length] at h2
    exact .inl ⟨s2 (Nat.le_refl _), fin _ _ _ _ sm2 hid2 h2⟩
section
variable {X : Cx} {elt e0 e1 e2 : Expr} {x0 x1 x2 : Str} {p0 p1 p2 : Pos} {scope : Scope} {i i1 i2 : Nat} {pos : Pos} {wi wi1 wi2 : PTI} {te : PTE}
theorem LE.lc3 (hcalm : X.calm = true) (nd : X.N.Nodup) (hi : LI X (.Name x0 p0) e0 wi) (bok : BlkOk X.N X.env.scope scope [(x0, i), (x1, i1), (x2, i2)]) (hne : i ∉ [i1, i2] ∧ i1 ∉ [i2])
    (hg : ∀ s H C cl fp, PG (Blk X scope s H C cl fp) (.Name x0 p0) (gName i)) (hi1 : ∀ s H C cl fp, LI (Blk X scope s H C cl fp) (.Name x1 p1) e1 wi1) (hg1 : ∀ s H C cl fp, PG (Blk X scope s H C cl fp) (.Name x1 p1) (gName i1)) (hi2 : ∀ s H C cl fp, LI (Blk X scope s H C cl fp) (.Name x2 p2) e2 wi2) (hg2 : ∀ s H C cl fp, PG (Blk X scope s H C cl fp) (.Name x2 p2) (gName i2)) (he : ∀ s H C cl fp, LE (Blk X scope s H C cl fp) elt te)
    (fold : ∀ x, foldedSetIterable e0 X.env x = pure x := by intro _; rfl) (fold1 : ∀ env x, foldedSetIterable e1 env x = pure x := by intro _ _; rfl) (fold2 : ∀ env x, foldedSetIterable e2 env x = pure x := by intro _ _; rfl) :
    LE X (LC3 elt (.Name x0 p0) e0 (.Name x1 p1) e1 (.Name x2 p2) e2 scope pos) (pLc3 wi i wi1 i1 wi2 i2 te) := by
  refine ⟨fun σv H σ F M Q E tk0 rm rs h => WE.of (pe_lc3 (own := [(x0, i), (x1, i1), (x2, i2)]) (vs1 := [i1, i2]) (vs2 := [i2]) (g := gName i) (g1 := gName i1) (g2 := gName i2) (wi1 := IBlk X scope (.Name x1 p1) e1) (wi2 := IBlk X scope (.Name x2 p2) e2) (te := EBlk X scope elt) hcalm nd WI.pi bok (by simp) (by simp) hg
    (fun s0 H0 C cl fp => ⟨fun pins s σ H Q I hh => hh s0 H0 C cl fp pins s I⟩) hg1 (fun s0 H0 C cl fp => ⟨fun pins s σ H Q I hh => hh s0 H0 C cl fp pins s I⟩) hg2 (fun s0 H0 C cl fp => ⟨fun pins s σ H Q I hh => hh s0 H0 C cl fp pins s I⟩) fold fold1 fold2) ?_⟩
  refine (hi.run σv H σ F M _ E tk0 rm rs h).mono ?_
  rintro J H1 ⟨F1, M1, xs, b1, st, h1⟩
  intro D nD
  obtain ⟨nF, nM⟩ := b1.rm.nones nD
  have hid : Hid X.K D F M H F1 M1 (upd H1 D (.lst [])) [] := ⟨[], b1.trans ((b1.rm.behHid (o := .lst []) nF nM).2 nD), nF, nM, upd_same, .nil⟩
  refine lv_t st hne.1 ?_ (rs.same b1.sm) hid h1 fun F' M' H' acc' sm' ⟨vacc, b2, n1, n2, hD, ra⟩ q => lc_finF b1 nD b2 n1 n2 hD ra q
  intro σ2 σ2v F2 M2 H2 acc2 R2 N2 sm2 rs2 hid2 h2 k2
  intro s0 H0 C cl fp
  refine ((hi1 s0 H0 C cl fp).run _ H2 _ F2 M2 _ noX PTk.no hid2.choose_spec.1.rm rs2 h2).mono ?_
  rintro J1 H3 ⟨F3, M3, ys, b3, st3, h3⟩
  refine lv_t st3 hne.2 ?_ (rs2.same b3.sm) (hid2.go b3) h3 fun F' M' H' acc' sm' hid' q => k2 _ _ _ _ (b3.sm.trans sm') hid' q
  intro σ4 σ4v F4 M4 H4 acc4 R4 N4 sm4 rs4 hid4 h4 k4
  intro s0' H0' C' cl' fp'
  refine ((hi2 s0' H0' C' cl' fp').run _ H4 _ F4 M4 _ noX PTk.no hid4.choose_spec.1.rm rs4 h4).mono ?_
  rintro J2 H5 ⟨F5, M5, zs, b5, st5, h5⟩
  refine lv_t st5 (by simp) ?_ (rs4.same b5.sm) (hid4.go b5) h5 fun F' M' H' acc' sm' hid' q => k4 _ _ _ _ (b5.sm.trans sm') hid' q
  intro σ6 σ6v F6 M6 H6 acc6 R6 N6 sm6 rs6 hid6 h6 k6
  intro s1' H1' C1' cl1' fp1'
  refine ((he s1' H1' C1' cl1' fp1').run _ H6 _ F6 M6 _ noX PTk.no hid6.choose_spec.1.rm rs6 h6).mono ?_
  rintro yv H7 ⟨F7, M7, y7, b7, r7, hz, h7⟩
  obtain ⟨vacc, b8, n1, n2, hD, ra⟩ := hid6.go b7
  refine ⟨vacc, hD, by rw [← ra.length]; exact hz, k6 F7 M7 _ (acc6 ++ [y7]) b7.sm ⟨vacc ++ [yv], ?_, n1, n2, upd_same, ra.append (.cons r7 .nil)⟩ h7⟩
  refine ⟨b8.sm, hid_app b8.rm n1 n2, ⟨fun c u hc nc => ?_, b8.fr.grow, fun c hc => ?_⟩, b8.fg⟩
  · have ne : c ≠ D := fun z => by
      subst z
      exact absurd nD (b1.fr.there c (by rw [hc]; exact Option.some_ne_none _))
    rw [upd_ne ne]
    exact b8.fr.keep c u hc nc
  · by_cases e : c = D
    · subst e; rw [upd_same]; exact Option.some_ne_none _
    · rw [upd_ne e]; exact b8.fr.there c hc
end
end PL
set_option Elab.async false
set_option linter.all false
set_option maxRecDepth 100000
namespace PL
open PySem PySem.Spec PyProof.Rows L2 PD
/-! ### zip of three tuples -/
def ItZ3 (K : PySem.W.Frag) (a b c : Addr) (n1 n2 n3 : Nat) : It :=
  ⟨fun i H => ∃ (xs ys zs : List V) (x y z : V), SqT K H a xs ∧ SqT K H b ys ∧ SqT K H c zs ∧ xs.length = n1 ∧ ys.length = n2 ∧ zs.length = n3 ∧ xs[i]? = some x ∧ ys[i]? = some y ∧ zs[i]? = some z,
    fun i H v H' => ∃ T x y z, v = .ref T ∧ H T = none ∧ H' = upd H T (.tup [x, y, z]) ∧ (∀ xs, SqT K H a xs → xs[i]? = some x) ∧ (∀ ys, SqT K H b ys → ys[i]? = some y) ∧ ∀ zs, SqT K H c zs → zs[i]? = some z,
    fun i H => ∃ xs ys zs : List V, SqT K H a xs ∧ SqT K H b ys ∧ SqT K H c zs ∧ xs.length = n1 ∧ ys.length = n2 ∧ zs.length = n3 ∧ (n1 ≤ i ∨ n2 ≤ i ∨ n3 ≤ i)⟩
theorem in6 {c z TI TO i1 i2 i3 : Addr} (h : c ∈ [z, TI, TO, i1, i2, i3]) : c = z ∨ c = TI ∨ c = TO ∨ c = i1 ∨ c = i2 ∨ c = i3 := by simpa using h
theorem turn_zip3 {P : Program} {w : World} {K : PySem.W.Frag} {elts : List Expr} {kk : Nat} {tpos : Pos} {a b c z TI TO i1 i2 i3 : Addr} {n1 n2 n3 : Nat} (S : ZipSep3 z TI TO i1 i2 i3 [i1, a] [i2, b] [i3, c]) (na : a ≠ i1) (nb : b ≠ i2) (nc : c ≠ i3) :
    Turn P w K (.Tuple elts kk tpos) (ItZ3 K a b c n1 n2 n3) [z, TI, TO, i1, i2, i3] z (fun i h => IsZip h z TI TO .none ∧ IsTupOf3 h TI (.ref i1) (.ref i2) (.ref i3) ∧ (∃ x y u, IsTupOf3 h TO x y u) ∧ h.IsTupleIter i1 a i ∧ h.IsTupleIter i2 b i ∧ h.IsTupleIter i3 c i ∧ i ≤ n1 ∧ i ≤ n2 ∧ i ≤ n3) where
  mem := List.mem_cons_self
  self := fun _ _ _ _ _ st h => wpAny_pyIter_zip st.1 h
  obj := fun i h st d hd => by
    obtain ⟨q1, q2, ⟨x, y, u, q3⟩, ⟨o1, e1, _, d1⟩, ⟨o2, e2, _, d2⟩, ⟨o3, e3, _, d3⟩, _⟩ := st
    rcases in6 hd with rfl | rfl | rfl | rfl | rfl | rfl
    · exact ⟨_, q1, fun v q => nomatch q⟩
    · exact ⟨_, q2, fun v q => nomatch q⟩
    · exact ⟨_, q3, fun v q => nomatch q⟩
    · exact ⟨o1, e1, fun v q => by rw [d1] at q; cases q⟩
    · exact ⟨o2, e2, fun v q => by rw [d2] at q; cases q⟩
    · exact ⟨o3, e3, fun v q => by rw [d3] at q; cases q⟩
  keep := fun i h h' st k => by
    obtain ⟨q1, q2, ⟨x, y, u, q3⟩, h1, h2, h3, hl⟩ := st
    exact ⟨k z (by simp) _ q1, k TI (by simp) _ q2, ⟨x, y, u, k TO (by simp) _ q3⟩, h1.at fun o q => k i1 (by simp) o q, h2.at fun o q => k i2 (by simp) o q, h3.at fun o q => k i3 (by simp) o q, hl⟩
  item := by
    intro X hP hw hK hc i pins s σ H E I hf st hg
    subst hP hw hK
    obtain ⟨q1, q2, ⟨x0, y0, u0, q3⟩, h1, h2, h3, b1, b2, b3⟩ := st
    obtain ⟨xs, ys, us, x, y, u, hx, hy, hu, n1', n2', n3', gx, gy, gu⟩ := hg
    obtain ⟨l1, r1, p1, _⟩ := I.tuple hx
    obtain ⟨l2, r2, p2, _⟩ := I.tuple hy
    obtain ⟨l3, r3, p3, _⟩ := I.tuple hu
    obtain ⟨v1, g1, w1⟩ := r1.get gx
    obtain ⟨v2, g2, w2⟩ := r2.get gy
    obtain ⟨v3, g3, w3⟩ := r3.get gu
    have hh : X.A.in1.handled = none := I.ok.hd hc
    have zl : z < s.heap.objs.size := Heap.lt_size q1
    refine wpAny_pyNext_zipD3_item S (Draws.tuple hh i1 a na l1.toArray) (Draws.tuple hh i2 b nb l2.toArray) (Draws.tuple hh i3 c nc l3.toArray) q1 q2 q3 ⟨h1, p1⟩ ⟨h2, p2⟩ ⟨h3, p3⟩ (by have := (List.getElem?_eq_some_iff.mp g1).1; simpa using this) (by have := (List.getElem?_eq_some_iff.mp g2).1; simpa using this) (by have := (List.getElem?_eq_some_iff.mp g3).1; simpa using this)
      fun x1 x2 x3 h' tk y1 y2 y3 z' TO' s1 s2 s3 hT hsz hk => ?_
    obtain rfl : x1 = v1 := Option.some.inj ((show l1[i]? = some x1 by simpa using y1).symm.trans g1)
    obtain rfl : x2 = v2 := Option.some.inj ((show l2[i]? = some x2 by simpa using y2).symm.trans g2)
    obtain rfl : x3 = v3 := Option.some.inj ((show l3[i]? = some x3 by simpa using y3).symm.trans g3)
    refine ⟨_, rfl, wpAny_letOwnedTupleGo_zip (s := { s with heap := h', toks := tk }) z' fun h2' z2' sb => ?_⟩
    have hT2 : h2'.get? s.heap.objs.size = some { cls := .type "tuple", data := .seq #[x1, x2, x3] } := (sb.2 _ (Nat.ne_of_gt zl)).trans hT
    have new : ObjOk X.prog X.w (upd H s.heap.objs.size (.tup [x, y, u])) h2' s.heap.objs.size (.tup [x, y, u]) := ⟨by show 3 ≤ sizeLine; decide, [x1, x2, x3], .cons w1 (.cons w2 (.cons w3 .nil)), ⟨_, hT2, rfl, _, rfl⟩⟩
    have n6 : ∀ {d : Addr}, d ∉ [z, TI, TO, i1, i2, i3] → d ≠ z ∧ d ≠ TO ∧ d ≠ i1 ∧ d ≠ i2 ∧ d ≠ i3 := fun h => ⟨fun e => h (by simp [e]), fun e => h (by simp [e]), fun e => h (by simp [e]), fun e => h (by simp [e]), fun e => h (by simp [e])⟩
    have I1 : Inv X pins σ (upd H s.heap.objs.size (.tup [x, y, u])) { s with heap := h2', toks := tk } :=
      I.turnedNew (t' := tk) (ch := [z, TI, TO, i1, i2, i3]) (fun d o hd q => (sb.2 d (n6 hd).1).trans (hk d o (n6 hd).1 (n6 hd).2.1 (n6 hd).2.2.1 (n6 hd).2.2.2.1 (n6 hd).2.2.2.2 q)) hf (Nat.le_refl _) new
    have zi1 := S.zi1
    have zi2 := S.zi2
    have zi3 := S.zi3
    refine ⟨.ref s.heap.objs.size, _, I1, rfl, ⟨_, x, y, u, rfl, I.hok.fresh (Nat.le_refl _), rfl, fun l hl => by rw [I.tuple_inj hl hx]; exact gx, fun l hl => by rw [I.tuple_inj hl hy]; exact gy, fun l hl => by rw [I.tuple_inj hl hu]; exact gu⟩, ⟨z2', (sb.2 _ S.TIz).trans (hk _ _ S.TIz S.TITO S.TIi1 S.TIi2 S.TIi3 q2), ⟨x1, x2, x3, (sb.2 _ S.TOz).trans TO'⟩, s1.1.at fun o q => (sb.2 _ (Ne.symm zi1)).trans q, s2.1.at fun o q => (sb.2 _ (Ne.symm zi2)).trans q, s3.1.at fun o q => (sb.2 _ (Ne.symm zi3)).trans q, by have := (List.getElem?_eq_some_iff.mp gx).1; omega, by have := (List.getElem?_eq_some_iff.mp gy).1; omega, by have := (List.getElem?_eq_some_iff.mp gu).1; omega⟩, fun d hd => ?_⟩
    have lt : d < s.heap.objs.size := by
      rcases in6 hd with rfl | rfl | rfl | rfl | rfl | rfl
      · exact zl
      · exact Heap.lt_size q2
      · exact Heap.lt_size q3
      · obtain ⟨_, e, _⟩ := h1; exact Heap.lt_size e
      · obtain ⟨_, e, _⟩ := h2; exact Heap.lt_size e
      · obtain ⟨_, e, _⟩ := h3; exact Heap.lt_size e
    rw [upd_ne (Nat.ne_of_lt lt)]
    exact (hf d hd).1
  done := by
    intro X hP hw hK hc i pins s σ H E I hf st hg
    subst hP hw hK
    obtain ⟨q1, q2, ⟨x0, y0, u0, q3⟩, h1, h2, h3, b1, b2, b3⟩ := st
    obtain ⟨xs, ys, us, hx, hy, hu, e1, e2, e3, he⟩ := hg
    obtain ⟨l1, r1, p1, _⟩ := I.tuple hx
    obtain ⟨l2, r2, p2, _⟩ := I.tuple hy
    obtain ⟨l3, r3, p3, _⟩ := I.tuple hu
    have hh : X.A.in1.handled = none := I.ok.hd hc
    have m1 : l1.toArray.size = xs.length := by have := r1.length; simp; omega
    have m2 : l2.toArray.size = ys.length := by have := r2.length; simp; omega
    have m3 : l3.toArray.size = us.length := by have := r3.length; simp; omega
    exact wpAny_pyNext_zipD3_end S (Draws.tuple hh i1 a na l1.toArray) (Draws.tuple hh i2 b nb l2.toArray) (Draws.tuple hh i3 c nc l3.toArray) q1 q2 q3 ⟨h1, p1⟩ ⟨h2, p2⟩ ⟨h3, p3⟩ (by omega) (by omega) (by omega) (by omega) fun h' tk hk =>
      ⟨rfl, I.turnedL (t' := tk) (ch := [z, TI, TO, i1, i2, i3]) (fun d o hd q => hk d o (fun e => hd (by simp [e])) (fun e => hd (by simp [e])) (fun e => hd (by simp [e])) (fun e => hd (by simp [e])) (fun e => hd (by simp [e])) q) hf⟩
def iZip3 (K : PySem.W.Frag) (ta : TA) : TI := fun σ H R => ta σ H fun vs H1 => ∃ a b c xs ys zs, vs = [.ref a, .ref b, .ref c] ∧ SqT K H1 a xs ∧ SqT K H1 b ys ∧ SqT K H1 c zs ∧ R (ItZ3 K a b c xs.length ys.length zs.length) H1
theorem pi_zip3 {X : Cx} {e1 e2 e3 : Expr} {ta : TA} {p pos tpos : Pos} {elts : List Expr} {kk : Nat} (hg : Gl X "zip") (hm : X.mg "zip" = none) (ha : PA X [e1, e2, e3] ta)
    (hs : starEach [e1, e2, e3] X.env = (false, eval e1 X.env) :: starEach [e2, e3] X.env := by rfl) (hpl : (backTo pos (starEach [e2, e3] X.env)).any (·.1) = false := by rfl) :
    PI X (.Tuple elts kk tpos) (.Call (.Name "zip" p) [e1, e2, e3] [] pos) (iZip3 X.K ta) := by
  refine ⟨fun pins s σ H R I h => Call_ (ld_blt I hg hm PyProof.Rows.boot_zip (PyProof.Rows.callWith_type1 (thn (ha.run pos pins s σ H _ I h) fun us s1 ⟨vs, H1, I1, r1, q1⟩ => ?_) hs hpl))⟩
  obtain ⟨a, b, c, xs, ys, zs, rfl, hx, hy, hu, q⟩ := q1
  cases r1 with
  | cons ra rr =>
    cases rr with
    | cons rb rr =>
      cases rr with
      | cons rc rr =>
        cases rr
        cases ra
        cases rb
        cases rc
        obtain ⟨l1, _, p1, _⟩ := I1.tuple hx
        obtain ⟨l2, _, p2, _⟩ := I1.tuple hy
        obtain ⟨l3, _, p3, _⟩ := I1.tuple hu
        have t1 : s1.heap.IsTuple a l1.toArray := p1
        have t2 : s1.heap.IsTuple b l2.toArray := p2
        have t3 : s1.heap.IsTuple c l3.toArray := p3
        obtain ⟨o1, g1, _⟩ := id p1
        obtain ⟨o2, g2, _⟩ := id p2
        obtain ⟨o3, g3, _⟩ := id p3
        have la := Heap.lt_size g1
        have lb := Heap.lt_size g2
        have lc := Heap.lt_size g3
        refine zip_begins3 (begins_tuple a l1.toArray) (begins_tuple b l2.toArray) (begins_tuple c l3.toArray) t1 t2 t3 fun h' z1 z2 z3 y1 y2 y3 hsz hk => wpAny_pyIter_zip z1 ?_
        have I2 : Inv X pins σ H1 { s1 with heap := h' } := I1.kept (t' := s1.toks) hk
        generalize hN : s1.heap.objs.size = N at *
        refine ⟨N + 5, [N + 5, N + 3, N + 4, N, N + 1, N + 2], _, _, H1, rfl, I2, turn_zip3 (zip_sep3 (fp1 := [a]) (fp2 := [b]) (fp3 := [c]) (fun d hd => by rw [List.mem_singleton.mp hd]; exact la) (fun d hd => by rw [List.mem_singleton.mp hd]; exact lb) (fun d hd => by rw [List.mem_singleton.mp hd]; exact lc)) (Nat.ne_of_lt la) (Nat.ne_of_lt (Nat.lt_of_lt_of_le lb (Nat.le_add_right _ _))) (Nat.ne_of_lt (Nat.lt_of_lt_of_le lc (Nat.le_add_right _ _))), ⟨z1, z2, ⟨_, _, _, z3⟩, ⟨_, y1, rfl, rfl⟩, ⟨_, y2, rfl, rfl⟩, ⟨_, y3, rfl, rfl⟩, Nat.zero_le _, Nat.zero_le _, Nat.zero_le _⟩, fun d hd => ?_, q⟩
        have hle : N ≤ d := by
          rcases in6 hd with rfl | rfl | rfl | rfl | rfl | rfl <;> omega
        exact I1.fpOk (by rw [hN]; exact hle) (I1.hok.fresh (by rw [hN]; exact hle))
/-- the triples -/
def zip3P (xs ys zs : List PV) : List PV := (xs.zip (ys.zip zs)).map fun p => .tup [p.1, p.2.1, p.2.2]
theorem zip3P_len {xs ys zs : List PV} : (zip3P xs ys zs).length = min xs.length (min ys.length zs.length) := by unfold zip3P; rw [List.length_map, List.length_zip, List.length_zip]
theorem zip3P_at {xs ys zs : List PV} {i : Nat} (hx : i < xs.length) (hy : i < ys.length) (hz : i < zs.length) (h : i < (zip3P xs ys zs).length) : (zip3P xs ys zs)[i] = .tup [xs[i], ys[i], zs[i]] := by
  simp [zip3P]
theorem stab_zip3 {K : PySem.W.Frag} {F : Hp} {a b c : Addr} {xs ys zs : List PV} {vs ws us : List V} (h1 : SqT K F a vs) (r1 : RAll K F xs vs) (h2 : SqT K F b ws) (r2 : RAll K F ys ws) (h3 : SqT K F c us) (r3 : RAll K F zs us) : Stab K (ItZ3 K a b c vs.length ws.length us.length) F (zip3P xs ys zs) := by
  intro i F' M H sm rm
  have g1 : SqT K H a vs := sqT_same rm.fr (sqT_same sm h1)
  have g2 : SqT K H b ws := sqT_same rm.fr (sqT_same sm h2)
  have g3 : SqT K H c us := sqT_same rm.fr (sqT_same sm h3)
  have l1 := r1.length
  have l2 := r2.length
  have l3 := r3.length
  refine ⟨fun hi => ?_, fun hi => ?_⟩
  · have hi2 := hi
    rw [zip3P_len] at hi2
    have hx : i < xs.length := by omega
    have hy : i < ys.length := by omega
    have hz : i < zs.length := by omega
    obtain ⟨v, e1, q1⟩ := r1.get (List.getElem?_eq_getElem hx)
    obtain ⟨w, e2, q2⟩ := r2.get (List.getElem?_eq_getElem hy)
    obtain ⟨u, e3, q3⟩ := r3.get (List.getElem?_eq_getElem hz)
    refine ⟨⟨vs, ws, us, v, w, u, g1, g2, g3, rfl, rfl, rfl, e1, e2, e3⟩, fun t H' y => ?_⟩
    obtain ⟨T, v1, w1, u1, rfl, nT, rfl, y1, y2, y3⟩ := y
    obtain rfl : v = v1 := Option.some.inj (e1.symm.trans (y1 vs g1))
    obtain rfl : w = w1 := Option.some.inj (e2.symm.trans (y2 ws g2))
    obtain rfl : u = u1 := Option.some.inj (e3.symm.trans (y3 us g3))
    rw [zip3P_at hx hy hz hi]
    have b := rm.beh (o := .tup [v, w, u]) nT
    exact ⟨_, b, .tup (SqT.of upd_same) (.cons ((q1.same sm).same b.sm) (.cons ((q2.same sm).same b.sm) (.cons ((q3.same sm).same b.sm) .nil)))⟩
  · rw [zip3P_len] at hi
    exact ⟨vs, ws, us, g1, g2, g3, rfl, rfl, rfl, by omega⟩
def piZ3 (ta tb tc : PTE) : PTI := fun E σ M Q => ta E σ M fun x M1 => tb E σ M1 fun y M2 => tc E σ M2 fun z M3 => need (tupF x) fun xs => need (tupF y) fun ys => need (tupF z) fun zs => Q (zip3P xs ys zs) M3
theorem LI.zip3 {X : Cx} {e1 e2 e3 : Expr} {ta tb tc : PTE} {p pos tpos : Pos} {elts : List Expr} {kk : Nat} (hg : Gl X "zip") (hm : X.mg "zip" = none) (ha : LE X e1 ta) (hb : LE X e2 tb) (hc : LE X e3 tc)
    (hs : starEach [e1, e2, e3] X.env = (false, eval e1 X.env) :: starEach [e2, e3] X.env := by rfl) (hs2 : starEach [e2, e3] X.env = (false, eval e2 X.env) :: starEach [e3] X.env := by rfl) (hs3 : starEach [e3] X.env = [(false, eval e3 X.env)] := by rfl) :
    LI X (.Tuple elts kk tpos) (.Call (.Name "zip" p) [e1, e2, e3] [] pos) (piZ3 ta tb tc) := by
  refine ⟨fun σv H σ F M Q E tk rm rs h => WI.of (pi_zip3 hg hm (pa_cons WE.pe (pa_cons WE.pe (pa_cons WE.pe pa_nil hs3) hs2) hs) hs (by rw [hs2, hs3]; rfl)) ?_⟩
  refine (ha.run σv H σ F M _ E tk rm rs h).mono ?_
  rintro v1 H1 ⟨F1, M1, x, b1, r1, h1⟩
  refine (hb.run σv H1 σ F1 M1 _ E (tk.tr b1) b1.rm (rs.same b1.sm) h1).mono ?_
  rintro v2 H2 ⟨F2, M2, y, b2, r2, h2⟩
  have b12 := b1.trans b2
  refine (hc.run σv H2 σ F2 M2 _ E (tk.tr b12) b2.rm (rs.same b12.sm) h2).mono ?_
  rintro v3 H3 ⟨F3, M3, z, b3, r3, h3⟩
  obtain ⟨xs, q1, h4⟩ := need_of h3
  obtain ⟨ys, q2, h5⟩ := need_of h4
  obtain ⟨zs, q3, h6⟩ := need_of h5
  obtain ⟨a, vs, rfl, s1, ra⟩ := R.tupI r1 q1
  obtain ⟨b, ws, rfl, s2, rb⟩ := R.tupI r2 q2
  obtain ⟨c, us, rfl, s3, rc⟩ := R.tupI r3 q3
  have s1 := sqT_same b3.sm (sqT_same b2.sm s1)
  have s2 := sqT_same b3.sm s2
  have ra := (ra.same b2.sm).same b3.sm
  have rb := rb.same b3.sm
  exact ⟨a, b, c, vs, ws, us, rfl, sqT_same b3.rm.fr s1, sqT_same b3.rm.fr s2, sqT_same b3.rm.fr s3, F3, M3, _, b12.trans b3, stab_zip3 s1 ra s2 rb s3 rc, h6⟩
theorem w_piZ3 {ta tb tc : PTE} {E : PXK} {σ : PSt} {M : Mem} {Q : List PV → Mem → Prop} (h : ta E σ M fun x M1 => tb E σ M1 fun y M2 => tc E σ M2 fun z M3 => need (tupF x) fun xs => need (tupF y) fun ys => need (tupF z) fun zs => Q (zip3P xs ys zs) M3) : piZ3 ta tb tc E σ M Q := h
end PL
set_option Elab.async false
set_option linter.all false
set_option maxRecDepth 100000
namespace PD
open PySem PySem.Spec PyProof.Rows L2
section
variable {prog : Program} {w : World} {K : Type} [DecidableEq K] {knd : HeapKind prog w K} {A : Around} {E : Value → Shared → Prop} {s : Shared}
end
end PD
namespace PD
open PySem PySem.Spec PyProof.Rows L2
def isTupK : NestedKey → Prop
  | .tup _ => True
  | _ => False
def toRow (x : NestedKey × Addr × Value) : Row := (x.1, .ref x.2.1, x.2.2)
theorem rows_ref {h : Heap} : ∀ {xs : List Row}, (∀ x ∈ xs, NestedIs h x.1 x.2.1 ∧ isTupK x.1) → ∃ more : List (NestedKey × Addr × Value), xs = more.map toRow
  | [], _ => ⟨[], rfl⟩
  | (k, u, v) :: xs, hh => by
    obtain ⟨more, e⟩ := rows_ref fun x hx => hh x (List.mem_cons_of_mem _ hx)
    obtain ⟨h1, h2⟩ := hh (k, u, v) List.mem_cons_self
    cases h1 with
    | tup a b c d => exact ⟨(_, _, v) :: more, by rw [List.map_cons, ← e]; rfl⟩
    | _ => exact h2.elim
theorem tab_dictH {P : Program} {w : World} {h : Heap} {d : Addr} {more : List (NestedKey × Addr × Value)} (t : Tab w h d (more.map toRow)) (k : ∀ x ∈ more, NestedIs h x.1 (.ref x.2.1) ∧ x.1.depth ≤ 8) : h.DictOfH (nestedKind P w) d more := by
  obtain ⟨ob, en, ep, q1, q2, q3, q4, q5⟩ := t
  refine ⟨ob, en, ep, q1, q2, q3, ?_, k, ?_⟩
  · rw [q4, List.map_map]; rfl
  · rw [List.map_map] at q5; exact q5
section
variable {X : Cx}
/-- dict(d): a copy -/
def rDctC (K : PySem.W.Frag) : List V → Hp → VK → Prop := fun vs H Q => ∃ (a : Addr) (es : List VRow), vs = [V.ref a] ∧ dAt H a es ∧ KeysV K H es ∧ (∀ e ∈ es, isTupK e.1) ∧ (∀ w : World, (es.map fun e => e.1.hash w).Nodup) ∧ ∀ p, H p = none → ∀ ep, Q (.ref p) (upd H p (dO p ep es))
/-- isinstance(d, dict) -/
def rIsD : List V → Hp → VK → Prop := fun vs H Q => ∃ (a : Addr) (es : List VRow), vs = [V.ref a, .ty "dict"] ∧ dAt H a es ∧ Q (.bl true) H
/-- len(d) -/
def rLenD : List V → Hp → VK → Prop := fun vs H Q => ∃ (a : Addr) (es : List VRow), vs = [V.ref a] ∧ dAt H a es ∧ Q (.int es.length) H
end
end PD
namespace PD
open PySem PySem.Spec PyProof.Rows L2
section
variable {X : Cx}
theorem cr_isD : CallR X (.builtin "isinstance") rIsD := by
  intro pins s σ H vs us Q I r h
  obtain ⟨a, es, rfl, ⟨ep, e⟩, q⟩ := h
  cases r with
  | cons rx rr =>
    cases rr with
    | cons rt rr =>
      cases rr
      cases rt
      cases rx
      obtain ⟨_, ob, en, q1, q2, _⟩ := PL.d_raw I e
      have e : PySem.W.kitOne X.K (.type "dict") (.type "dict") = some true := if_pos (beq_self_eq_true _)
      exact PySem.W.kia_one PySem.W.kitx_dict I.kIn ⟨ob, q1, q2.1⟩ e (fun z => nomatch z) fun tk => ⟨.bl true, H, I.kept (t' := tk) fun _ _ z => z, rfl, q⟩
def rLenT (K : PySem.W.Frag) : List V → Hp → VK → Prop := fun vs H Q => ∃ (a : Addr) (es : List VRow), vs = [V.ref a] ∧ dAt H a es ∧ KeysV K H es ∧ (∀ e ∈ es, isTupK e.1) ∧ Q (.int es.length) H
theorem cr_lenD : CallR X (.builtin "len") (rLenT X.K) := by
  intro pins s σ H vs us Q I r h
  obtain ⟨a, es, rfl, e, hk, ht, q⟩ := h
  rw [Vals.ref1 r]
  obtain ⟨h1, h2, h3, xs, p, t, kd⟩ := d_rows I e hk
  have tk : ∀ x ∈ xs, isTupK x.1 := fun x hx => by
    obtain ⟨y, hy, ey⟩ := Paired.same_keys p x hx
    rw [← ey]; exact ht y hy
  obtain ⟨more, rfl⟩ := rows_ref fun x hx => ⟨(kd x hx).1, tk x hx⟩
  have hl : more.length = es.length := by have := paired_len p; rw [List.length_map] at this; exact this
  have hs : sizeLine = 16777216 := sizeLine_eq
  exact call_len_dictH h1 (tab_dictH (P := X.prog) t fun x hx => kd (toRow x) (List.mem_map_of_mem hx)) (by omega) ⟨.int es.length, H, I.kept (t' := _) fun _ _ z => z, ⟨_, by rw [hl]⟩, q⟩
/-- {k: v} -/
def tD1 (K : PySem.W.Frag) (tk tv : TE) : TE := fun σ H Q => ∀ D, H D = none → tk σ (upd H D (dO D 0 [])) fun y H2 => tv σ H2 fun z H3 => H3 D = some (dO D 0 []) ∧ ∃ k, KeyV K H3 k y ∧ okK k ∧ isTupK k ∧ ∀ ep, Q (.ref D) (upd H3 D (dO D ep [(k, y, z)]))
end
end PD
set_option Elab.async false
set_option linter.all false
set_option maxRecDepth 100000
namespace PL
open PySem PySem.Spec PyProof.Rows L2 PD
section
variable {X : Cx} {e a b : Expr} {ta tb te : PTE} {t : PTA} {pos p : Pos}
/-! ### dict(d), len(d), isinstance(d, dict), {k: v} -/
theorem rks_tup {K : PySem.W.Frag} {F : Hp} : ∀ {kvs : List (NestedKey × PV)} {es : List VRow}, RKs K F kvs es → es.map (·.1) = kvs.map (·.1)
  | _, _, .nil => rfl
  | _, _, .cons _ _ r => by rw [List.map_cons, List.map_cons, rks_tup r]
theorem rks_all {K : PySem.W.Frag} {F : Hp} {P : NestedKey → Prop} {kvs : List (NestedKey × PV)} {es : List VRow} (r : RKs K F kvs es) (h : ∀ e ∈ kvs, P e.1) : ∀ e ∈ es, P e.1 := fun e he => by
  have : e.1 ∈ es.map (·.1) := List.mem_map_of_mem he
  rw [rks_tup r] at this
  obtain ⟨y, hy, ey⟩ := List.mem_map.mp this
  rw [← ey]
  exact h y hy
def kDCopy (x : PV) (M : Mem) (Q : PQ) : Prop := need (dctOf M x) fun kvs => (∀ e ∈ kvs, isTupK e.1) ∧ (∀ w : World, (kvs.map fun e => e.1.hash w).Nodup) ∧ ∀ p, M p = none → Q (.ptr p) (M.put p (.dct p kvs))
def kLenD (x : PV) (M : Mem) (Q : PQ) : Prop := need (dctOf M x) fun kvs => (∀ e ∈ kvs, isTupK e.1) ∧ Q (.int kvs.length) M
theorem LE.lenD (hg : Gl X "len") (hm : X.mg "len" = none) (ha : LA X [e] t) (he : starEach [e] X.env = (false, eval e X.env) :: starEach [] X.env := by rfl) : LE X (.Call (.Name "len" p) [e] [] pos) (pCallB (on1 kLenD) t) := by
  refine LE.callB cr_lenD (fun F M H xs vs Q Qv rm rx h k => ?_) hg hm PySem.boot_len ha (he := he)
  obtain ⟨x, ex, h1⟩ := on1_of h
  subst ex
  obtain ⟨v, ev, rx1⟩ := rx.one
  subst ev
  obtain ⟨kvs, e1, h2, h3⟩ := need_of h1
  obtain ⟨q, es, rfl, e3, rk⟩ := rx1.dctI rm e1
  refine ⟨q, es, rfl, e3, rk.keysV rm.fr, rks_all rk h2, k _ _ (LQ.now rm (.int _) ?_)⟩
  rw [rk.length]
  exact h3
def pIsD (ta : PTE) : PTE := fun E σ M Q => ta E σ M fun x M1 => need (dctOf M1 x) fun _ => Q (.bl true) M1
theorem LE.isD {T : Str} {py : Pos} (hg : Gl X "isinstance") (hm : X.mg "isinstance" = none) (hgT : Gl X T) (hmT : X.mg T = none) (hvT : bootBuiltins T = some (.type "dict")) (ha : LE X e ta)
    (hnT : T ≠ "__name__" := by decide) (hdT : (T == ("__debug__" : Str)) = false := by decide)
    (he : starEach [e, .Name T py] X.env = (false, eval e X.env) :: starEach [.Name T py] X.env := by rfl) (he2 : starEach [.Name T py] X.env = (false, eval (.Name T py) X.env) :: starEach [] X.env := by rfl)
    (hpl : (backTo pos (starEach [.Name T py] X.env)).any (·.1) = false := by rfl) : LE X (.Call (.Name "isinstance" p) [e, .Name T py] [] pos) (pIsD ta) := by
  refine ⟨fun σv H σ F M Q E tk rm rs h => WE.of (pe_callB cr_isD hg hm (by decide +kernel) (pa_cons WE.pe (pa_cons (pe_bltn (v := .ty "dict") hgT hmT hvT rfl hnT hdT) pa_nil he2) he) (he := he) (hpl := hpl)) ?_⟩
  refine (ha.run σv H σ F M _ E tk rm rs h).mono ?_
  rintro v H1 ⟨F1, M1, x, b1, rx, hx⟩
  obtain ⟨kvs, e1, h2⟩ := need_of hx
  obtain ⟨q, es, rfl, e3, rk⟩ := rx.dctI b1.rm e1
  exact ⟨q, es, rfl, e3, LQ.tr b1 (LQ.now b1.rm (.bl true) h2)⟩
/-- {k: v}, which may change -/
def pDct1 (ta tb : PTE) : PTE := fun E σ M Q => ta E σ M fun y M1 => tb E σ M1 fun z M2 => kKey y fun k => isTupK k ∧ ∀ p, M2 p = none → Q (.ptr p) (M2.put p (.dct p [(k, z)]))
end
theorem w_pIsD {ta : PTE} {E : PXK} {σ : PSt} {M : Mem} {Q : PQ} (h : ta E σ M fun x M1 => need (dctOf M1 x) fun _ => Q (.bl true) M1) : pIsD ta E σ M Q := h
theorem w_dct1 {ta tb : PTE} {E : PXK} {σ : PSt} {M : Mem} {Q : PQ} (h : ta E σ M fun y M1 => tb E σ M1 fun z M2 => kKey y fun k => isTupK k ∧ ∀ p, M2 p = none → Q (.ptr p) (M2.put p (.dct p [(k, z)]))) : pDct1 ta tb E σ M Q := h
end PL
set_option Elab.async false
set_option linter.all false
set_option maxRecDepth 100000
namespace PD
open PySem
open Sem (wp)
section
variable {prog : Program} {w : World} {A : Around} {E : Value → Shared → Prop} {s : Shared}
theorem nin_key {d : Addr} {xs : List Row} {k : NestedKey} {v : Value} {Q : Value → Shared → Prop} (hu : A.units + 9 < cLine) (hd : (d == sysModules) = false) (hk : NestedIs s.heap k v) (kd : k.depth ≤ 8) (nt : notText k)
    (hT : Tab w s.heap d xs) (hI : Keyed s.heap xs) (h : Q (.bool (!(at_ xs k).isSome)) { s with toks := s.toks + k.draws }) : wpAny (model prog w) A (compareOp .NotIn v (.ref d)) Q E s := by
  show wpAny _ _ (do return .bool (!(← contains (.ref d) v))) Q E s
  refine wpAny_bind ?_
  unfold contains
  try with_reducible refine wpAny_holding ?_
  refine wpAny_bind (wpAny_specialOf hT.typeIs slot_dict_contains.lookup ?_)
  show wpAny _ _ (if (some (Value.builtin "dict.__contains__") == some Value.none) = true then _ else _) _ E s
  rw [if_neg (by rw [beq_builtin_none]; exact Bool.false_ne_true)]
  refine wpAny_bind (wpAny_callSpecialUnlessNone?_slot (name := Str.ofString "__contains__") hT.typeIs slot_dict_contains
    (wpAny_call_entry slot_dict_contains hT.typeIs entry_dict_contains ?_ (args_dict_contains _ _)))
  show wpAny _ _ (dictGet d v >>= _) _ _ s
  refine wpAny_bind (get_key (by rw [Around.in1_units]; omega) hk kd nt hT hI ?_)
  cases hf : at_ xs k with
  | some p =>
    rw [hf] at h
    show wpAny _ _ (ret (.bool true)) _ _ _
    exact wpAny_pure ⟨_, rfl, wpAny_truthy_bool (wpAny_pure h)⟩
  | none =>
    rw [hf] at h
    show wpAny _ _ (Builtin.Dict.pendingKey? d v >>= _) _ _ _
    exact wpAny_bind (wpAny_pendingKey_other hd (wpAny_pure ⟨_, rfl, wpAny_truthy_bool (wpAny_pure h)⟩))
end
end PD
namespace PD
open PySem PySem.Spec PyProof.Rows L2
section
variable {X : Cx}
theorem op_ninD (hu : X.A.units + 65 < cLine) : OpR X (compareOp .NotIn) (rInD X.K not) := by
  intro pins s σ H y x v u Q I ry rx h
  obtain ⟨a, es, k, rfl, e, hk, ky, ok, q⟩ := h
  have : u = .ref a := rx
  subst this
  obtain ⟨h1, h2, h3, xs, r, t, kd⟩ := d_rows I e hk
  refine nin_key (by omega) h1 (KeyV.is I k y v ky ry) ok.2 ok.1.notText t kd ?_
  rw [← RelO.isSome_eq (at_rel r)]
  exact ⟨.bl _, H, I.tok _, rfl, q⟩
end
end PD
namespace PL
open PySem PySem.Spec PyProof.Rows L2 PD
section
variable {X : Cx} {a b : Expr} {ta tb : PTE} {pos : Pos}
def oNinD : PO2 := fun y x M Q => need (dctOf M x) fun kvs => kKey y fun k => Q (.bl (!(atP kvs k).isSome)) M
theorem pop_ninD {K : PySem.W.Frag} : POp K (rInD K not) oNinD := by
  intro F M H y x yv xv Q Qv rm ry rx h k
  obtain ⟨kvs, e1, h3⟩ := need_of h
  obtain ⟨k2, rfl, ok, h4⟩ := kKey.of h3
  obtain ⟨q, es, rfl, e3, rk⟩ := rx.dctI rm e1
  refine ⟨q, es, k2, rfl, e3, rk.keysV rm.fr, R.keyV rm.fr k2 yv ry, ok, k _ _ (LQ.now rm (.bl _) ?_)⟩
  show Q (.bl (!(atV es k2).isSome)) M
  rw [← rk.some_eq]
  exact h4
theorem LE.ninD (hu : X.A.units + 65 < cLine) (ha : LE X a ta) (hb : LE X b tb) (hm : behindInMarks .NotIn b = false := by rfl) : LE X (.Compare a [.NotIn] [b] pos) (pBin oNinD ta tb) := LE.cmp (PD.op_ninD hu) pop_ninD hm ha hb
theorem LT.ninD (hu : X.A.units + 65 < cLine) (ha : LE X a ta) (hb : LE X b tb) (hm : behindInMarks .NotIn b = false := by rfl) : LT X (.Compare a [.NotIn] [b] pos) (pTest (pBin oNinD ta tb)) := LT.cmp (PD.op_ninD hu) pop_ninD hm ha hb
end
end PL
set_option Elab.async false
set_option linter.all false
set_option maxRecDepth 100000
/-! enumerate(tuple) -/
namespace PySem
open PySem.Spec
theorem meets_enumerate_new1 {v : Value} {o : Obj} {H : Heap → Prop} (B : Begins v o H) :
    Meets (Builtin.«enumerate.__new__» ⟨[.type "enumerate", v], []⟩) (fun _ R s => H s.heap ∧
      R (.ok (.ret (.ref (s.heap.push o).objs.size))) { s with heap := (s.heap.push o).push { cls := .type "enumerate", data := .fields #[.none, .bool false, .ref s.heap.objs.size, rawInt 0, .none, .none] } }) :=
  .of_wp fun prog w A R s h => by
    obtain ⟨hp, g, d, tk, os⟩ := s; obtain ⟨h1, h⟩ := h
    have hsub := sub_enumerate
    have q1 : ∀ {A' : Around} {E : Value → Shared → Prop} {Q : Value → Shared → Prop}, Q (.ref hp.objs.size) ⟨hp.push o, g, d, tk, os⟩ → wpAny (model prog w) A' (pyIter v) Q E ⟨hp, g, d, tk, os⟩ :=
      fun q => B.iter prog w _ _ ⟨hp, g, d, tk, os⟩ _ h1 q
    wp_walk using q1
    refine wpAny_stack_any fun st => wpAny_pure ?_
    split
    · rename_i c _ _ _ _ _
      cases (c == Value.type "enumerate")
      · wp_walk using q1
        exact ⟨_, rfl, h⟩
      · wp_walk using q1
        exact ⟨_, rfl, h⟩
    · wp_walk using q1
      exact ⟨_, rfl, h⟩
theorem enum_begins1 {prog : Program} {w : World} {A : Around} {E : Value → Shared → Prop} {s : Shared} {v : Value} {o : Obj} {H : Heap → Prop} {Q : Value → Shared → Prop} (B : Begins v o H) (h1 : H s.heap)
    (h : ∀ h', IsEnum h' (s.heap.objs.size + 1) s.heap.objs.size 0 .none → h'.get? s.heap.objs.size = some o → h'.objs.size = s.heap.objs.size + 2 →
      (∀ b o, s.heap.get? b = some o → h'.get? b = some o) → Q (.ref (s.heap.objs.size + 1)) { s with heap := h' }) :
    wpAny (model prog w) A (call (.type "enumerate") [v]) Q E s := by
  refine callType_new F.called_enumerate (by decide) (F.typeCall_enumerate_1 _) (F.newCall_enumerate_1 _) (fun obj => F.args_object_init_2 obj _) F.entry_enumerate_new
    (meets_enumerate_new1 B) ⟨h1, ?_⟩
  have hz : (s.heap.push o).objs.size = s.heap.objs.size + 1 := Heap.size_push ..
  show _ ∧ _
  rw [hz]
  have he : IsEnum ((s.heap.push o).push { cls := .type "enumerate", data := .fields #[.none, .bool false, .ref s.heap.objs.size, rawInt 0, .none, .none] }) (s.heap.objs.size + 1) s.heap.objs.size 0 .none := by
    have := Heap.get?_push_size (s.heap.push o) (o := { cls := .type "enumerate", data := .fields #[.none, .bool false, .ref s.heap.objs.size, rawInt 0, .none, .none] }) rfl
    rw [hz] at this; exact this
  refine ⟨⟨_, he, rfl⟩, h _ he (Heap.get?_push_of_some _ (Heap.get?_push_size _ B.free)) (by rw [Heap.size_push, hz]) fun b o x => Heap.get?_push_of_some _ (Heap.get?_push_of_some _ x)⟩
end PySem
namespace PL
open PySem PySem.Spec PyProof.Rows L2 PD
def ItET (K : PySem.W.Frag) (a : Addr) (n : Nat) : It :=
  ⟨fun i H => ∃ (xs : List V) (x : V), SqT K H a xs ∧ xs.length = n ∧ xs[i]? = some x, fun i H v H' => ∃ T x, v = .ref T ∧ H T = none ∧ H' = upd H T (.tup [.int (i : Nat), x]) ∧ ∀ xs, SqT K H a xs → xs[i]? = some x, fun i H => ∃ xs : List V, SqT K H a xs ∧ xs.length = n ∧ n ≤ i⟩
theorem in2 {d e it : Addr} (h : d ∈ [e, it]) : d = e ∨ d = it := by simpa using h
theorem turn_enumT {P : Program} {w : World} {K : PySem.W.Frag} {elts : List Expr} {kk : Nat} {tpos : Pos} {a e it : Addr} {n : Nat} (ne : e ≠ it) (na : a ≠ it) (nea : e ≠ a) :
    Turn P w K (.Tuple elts kk tpos) (ItET K a n) [e, it] e (fun i h => (∃ old, IsEnum h e it ((i : Nat) : Int) old) ∧ h.IsTupleIter it a i ∧ i ≤ n) where
  mem := List.mem_cons_self
  self := fun _ _ _ _ _ st h => by obtain ⟨⟨_, he⟩, _⟩ := st; exact wpAny_pyIter_enum he h
  obj := fun i h st d hd => by
    obtain ⟨⟨old, q1⟩, ⟨o2, e2, _, d2⟩, _⟩ := st
    rcases in2 hd with rfl | rfl
    · exact ⟨_, q1, fun v q => nomatch q⟩
    · exact ⟨o2, e2, fun v q => by rw [d2] at q; cases q⟩
  keep := fun i h h' st k => by
    obtain ⟨⟨old, q1⟩, h1, hi⟩ := st
    exact ⟨⟨old, k e (by simp) _ q1⟩, h1.at fun o q => k it (by simp) o q, hi⟩
  item := by
    intro X hP hw hK hc i pins s σ H E I hf st hg
    subst hP hw hK
    obtain ⟨⟨old, q1⟩, h1, hi⟩ := st
    obtain ⟨xs, x, hx, hn, gx⟩ := hg
    obtain ⟨l1, r1, p1, _⟩ := I.tuple hx
    obtain ⟨v1, g1, w1⟩ := r1.get gx
    have hh : X.A.in1.handled = none := I.ok.hd hc
    have el : e < s.heap.objs.size := Heap.lt_size q1
    refine wpAny_pyNext_enum_itemC (Draws.tuple hh it a na l1.toArray) q1 ⟨h1, p1⟩ (by have := (List.getElem?_eq_some_iff.mp g1).1; simpa using this) ne (by simp [ne, nea]) fun x1 h' tk y1 z' s1 hT hsz hk => ?_
    obtain rfl : x1 = v1 := Option.some.inj ((show l1[i]? = some x1 by simpa using y1).symm.trans g1)
    refine ⟨_, rfl, wpAny_letOwnedTupleGo_enum (s := { s with heap := h', toks := tk + 1 }) z' fun h2' z2' sb => ?_⟩
    have hT2 : h2'.get? s.heap.objs.size = some { cls := .type "tuple", data := .seq #[.int i tk, x1] } := (sb.2 _ (Nat.ne_of_gt el)).trans hT
    have new : ObjOk X.prog X.w (upd H s.heap.objs.size (.tup [.int (i : Nat), x])) h2' s.heap.objs.size (.tup [.int (i : Nat), x]) := ⟨by show 2 ≤ sizeLine; decide, [.int i tk, x1], .cons ⟨_, rfl⟩ (.cons w1 .nil), ⟨_, hT2, rfl, _, rfl⟩⟩
    have n2 : ∀ {d : Addr}, d ∉ [e, it] → d ≠ e ∧ d ≠ it := fun h => ⟨fun q => h (by simp [q]), fun q => h (by simp [q])⟩
    have I1 : Inv X pins σ (upd H s.heap.objs.size (.tup [.int (i : Nat), x])) { s with heap := h2', toks := tk + 1 } :=
      I.turnedNew (t' := tk + 1) (ch := [e, it]) (fun d o hd q => (sb.2 d (n2 hd).1).trans (hk d o (n2 hd).1 (n2 hd).2 q)) hf (Nat.le_refl _) new
    refine ⟨.ref s.heap.objs.size, _, I1, rfl, ⟨_, x, rfl, I.hok.fresh (Nat.le_refl _), rfl, fun l hl => by rw [I.tuple_inj hl hx]; exact gx⟩, ⟨⟨x1, ?_⟩, s1.1.at fun o q => (sb.2 it (Ne.symm ne)).trans q, by have := (List.getElem?_eq_some_iff.mp gx).1; omega⟩, fun d hd => ?_⟩
    · have e1 : ((i + 1 : Nat) : Int) = (i : Int) + 1 := by omega
      rw [e1]; exact z2'
    · have lt : d < s.heap.objs.size := by
        rcases in2 hd with rfl | rfl
        · exact el
        · obtain ⟨_, q, _⟩ := h1; exact Heap.lt_size q
      rw [upd_ne (Nat.ne_of_lt lt)]
      exact (hf d hd).1
  done := by
    intro X hP hw hK hc i pins s σ H E I hf st hg
    subst hP hw hK
    obtain ⟨⟨old, q1⟩, h1, hi⟩ := st
    obtain ⟨xs, hx, hn, hl⟩ := hg
    obtain ⟨l1, r1, p1, _⟩ := I.tuple hx
    have hh : X.A.in1.handled = none := I.ok.hd hc
    have m1 : l1.toArray.size = xs.length := by have := r1.length; simp; omega
    obtain rfl : i = l1.toArray.size := by omega
    obtain ⟨f0, f1, f2, f3, f4, f5⟩ := hf it (by simp)
    exact wpAny_pyNext_enum_endD (Draws.tuple hh it a na l1.toArray) q1 ⟨h1, p1⟩ fun h' eb => ⟨rfl, I.turned (t' := s.toks) (fun b o hb q => eb b o hb q) f0 f1 f3 f4 f5⟩
def iEnumT (K : PySem.W.Frag) (ta : TA) : TI := fun σ H R => ta σ H fun vs H1 => ∃ a xs, vs = [.ref a] ∧ SqT K H1 a xs ∧ R (ItET K a xs.length) H1
theorem pi_enumT {X : Cx} {e : Expr} {ta : TA} {p pos tpos : Pos} {elts : List Expr} {kk : Nat} (hg : Gl X "enumerate") (hm : X.mg "enumerate" = none) (ha : PA X [e] ta) (hs : starEach [e] X.env = [(false, eval e X.env)] := by rfl) :
    PI X (.Tuple elts kk tpos) (.Call (.Name "enumerate" p) [e] [] pos) (iEnumT X.K ta) := by
  refine ⟨fun pins s σ H R I h => ?_⟩
  refine Call_ (ld_blt I hg hm boot_enumerate (PyProof.Rows.callWith_type1 (thn (ha.run pos pins s σ H _ I h) fun us s1 ⟨vs, H1, I1, r1, q1⟩ => ?_) hs rfl))
  obtain ⟨a, xs, ex, hq, q⟩ := q1
  subst ex
  cases r1 with
  | cons r rr =>
    cases rr
    cases r
    obtain ⟨l1, _, p1, _⟩ := I1.tuple hq
    have t1 : s1.heap.IsTuple a l1.toArray := p1
    obtain ⟨o1, g1, _⟩ := id p1
    have la := Heap.lt_size g1
    refine enum_begins1 (begins_tuple a l1.toArray) t1 fun h' he hit hsz hk => wpAny_pyIter_enum he ?_
    have I2 : Inv X pins σ H1 { s1 with heap := h' } := I1.kept (t' := s1.toks) hk
    refine ⟨s1.heap.objs.size + 1, [s1.heap.objs.size + 1, s1.heap.objs.size], _, _, H1, rfl, I2, turn_enumT (Nat.succ_ne_self _) (Nat.ne_of_lt la) (Nat.ne_of_gt (Nat.lt_succ_of_lt la)), ⟨⟨.none, he⟩, ⟨_, hit, rfl, rfl⟩, Nat.zero_le _⟩, fun b hb => ?_, q⟩
    have hle : s1.heap.objs.size ≤ b := by
      rcases in2 hb with z | z
      · rw [z]; exact Nat.le_add_right _ _
      · rw [z]; exact Nat.le_refl _
    exact I1.fpOk hle (I1.hok.fresh hle)
theorem stab_enumT {K : PySem.W.Frag} {F : Hp} {a : Addr} {xs : List PV} {vs : List V} (h : SqT K F a vs) (r : RAll K F xs vs) : Stab K (ItET K a vs.length) F (enumF 0 xs) := by
  intro i F' M H sm rm
  have hH : SqT K H a vs := sqT_same rm.fr (sqT_same sm h)
  have hl := enumF_len 0 xs
  refine ⟨fun hi => ?_, fun hi => ⟨vs, hH, rfl, by rw [← r.length]; omega⟩⟩
  have hi2 : i < xs.length := by omega
  obtain ⟨v, e, rv⟩ := r.get (List.getElem?_eq_getElem hi2)
  refine ⟨⟨vs, v, hH, rfl, e⟩, fun u H' y => ?_⟩
  obtain ⟨T, v1, rfl, nT, rfl, y1⟩ := y
  have e2 := y1 vs hH
  rw [e] at e2
  cases e2
  have eq : (enumF 0 xs)[i] = .tup [.int (i : Nat), xs[i]] := by
    have z := enumF_at (k := 0) (List.getElem?_eq_getElem hi2)
    rw [List.getElem?_eq_getElem hi, Nat.zero_add] at z
    exact Option.some.inj z
  rw [eq]
  exact ⟨_, rm.beh nT, .tup (SqT.of upd_same) (.cons (.int _) (.cons ((rv.same sm).same (rm.beh (o := .tup [.int (i : Nat), v]) nT).sm) .nil))⟩
def piET (ta : PTE) : PTI := fun E σ M Q => ta E σ M fun x M1 => need (tupF x) fun xs => Q (enumF 0 xs) M1
theorem LI.enumT {X : Cx} {a : Expr} {ta : PTE} {p pos : Pos} {elts : List Expr} {kk : Nat} {tpos : Pos} (hg : Gl X "enumerate") (hm : X.mg "enumerate" = none) (ha : LE X a ta)
    (hs : starEach [a] X.env = [(false, eval a X.env)] := by rfl) : LI X (.Tuple elts kk tpos) (.Call (.Name "enumerate" p) [a] [] pos) (piET ta) := by
  refine ⟨fun σv H σ F M Q E tk rm rs h => WI.of (pi_enumT hg hm (pa_cons WE.pe pa_nil hs) hs) ?_⟩
  refine (ha.run σv H σ F M _ E tk rm rs h).mono ?_
  rintro v H1 ⟨F1, M1, x, b1, rx, hx⟩
  obtain ⟨xs, e1, h2⟩ := need_of hx
  obtain ⟨a, vs, rfl, s1, ra⟩ := R.tupI rx e1
  exact ⟨_, _, rfl, sqT_same b1.rm.fr s1, F1, M1, _, b1, stab_enumT s1 ra, h2⟩
theorem w_piET {ta : PTE} {E : PXK} {σ : PSt} {M : Mem} {Q : List PV → Mem → Prop} (h : ta E σ M fun x M1 => need (tupF x) fun xs => Q (enumF 0 xs) M1) : piET ta E σ M Q := h
/-- a comprehension with a tuple of targets and a test -/
theorem lcTf_map {α : Type} {is : List Nat} {tt : PTT} {te : PTE} {σ : PSt} {M : Mem} {Q : PQ} (h : α → List PV) (p : α → Bool) (f : α → PV) : ∀ (l : List α) (acc : List PV), (∀ a ∈ l, ∃ σ1, setsP is (h a) σ = some σ1 ∧ (∀ R : Bool → Mem → Prop, R (p a) M → tt noX σ1 M R) ∧ (p a = true → ∀ R : PQ, R (f a) M → te noX σ1 M R)) →
    Q (.lst (acc ++ (l.filter p).map f)) M → pLcTL is tt te (l.map fun a => .tup (h a)) acc σ M Q
  | [], acc, _, q => by
    rw [List.filter_nil, List.map_nil, List.append_nil] at q
    exact q
  | a :: l, acc, he, q => by
    obtain ⟨σ1, e, h1, h2⟩ := he a List.mem_cons_self
    show need (setsP is (h a) σ) fun σ1 => tt noX σ1 M fun b M1 => if b = true then te noX σ1 M1 fun y M2 => pLcTL is tt te (l.map fun a => .tup (h a)) (acc ++ [y]) σ M2 Q else pLcTL is tt te (l.map fun a => .tup (h a)) acc σ M1 Q
    refine need_by e (h1 _ ?_)
    by_cases hp : p a = true
    · rw [if_pos hp]
      refine h2 hp _ (lcTf_map h p f l (acc ++ [f a]) (fun b hb => he b (List.mem_cons_of_mem _ hb)) ?_)
      rw [List.filter_cons, if_pos hp] at q
      rw [List.append_assoc]
      exact q
    · rw [if_neg hp]
      refine lcTf_map h p f l acc (fun b hb => he b (List.mem_cons_of_mem _ hb)) ?_
      rw [List.filter_cons, if_neg hp] at q
      exact q
end PL
set_option Elab.async false
set_option linter.all false
set_option maxRecDepth 100000
namespace PL
open PySem PySem.Spec PyProof.Rows L2
/-! ### list comprehensions over a tuple of names, one of which may stand twice -/
theorem setsV_over {o : Nat} {x : Option V} : ∀ {is : List Nat} {vs : List V} {σ : L2.St}, o ∈ is → is.length = vs.length → setsV is vs (σ.set o x) = setsV is vs σ
  | i :: is, v :: vs, σ, h, hl => by
    show setsV is vs ((σ.set o x).set i (some v)) = setsV is vs (σ.set i (some v))
    by_cases e : i = o
    · subst e
      rw [List.set_set]
    · rw [List.set_comm _ _ (Ne.symm e)]
      exact setsV_over ((List.mem_cons.mp h).resolve_left (Ne.symm e)) (by simpa using hl)
  | [], _, _, h, _ => by cases h
  | _ :: _, [], _, _, h => by cases h
theorem setsV_wipe2 {is : List Nat} {vs : List V} {σ : L2.St} : ∀ {os : List Nat}, (∀ o ∈ os, o ∈ is) → is.length = vs.length → setsV is vs (wipe σ os) = setsV is vs σ
  | [], _, _ => rfl
  | o :: os, h, hl => by
    show setsV is vs ((wipe σ os).set o none) = _
    rw [setsV_over (h o List.mem_cons_self) hl]
    exact setsV_wipe2 (fun o ho => h o (List.mem_cons_of_mem _ ho)) hl
theorem wipe_over {i : Nat} {x : Option V} : ∀ {os : List Nat} {σ : L2.St}, i ∈ os → wipe (σ.set i x) os = wipe σ os
  | o :: os, σ, h => by
    show (wipe (σ.set i x) os).set o none = (wipe σ os).set o none
    by_cases hi : i ∈ os
    · rw [wipe_over hi]
    · obtain rfl : i = o := (List.mem_cons.mp h).resolve_right hi
      rw [← wipe_comm hi, List.set_set]
theorem wipe_sets2 {os : List Nat} : ∀ {is : List Nat} {vs : List V} {σ : L2.St}, (∀ i ∈ is, i ∈ os) → is.length = vs.length → wipe (setsV is vs σ) os = wipe σ os
  | [], _, _, _, _ => rfl
  | i :: is, v :: vs, σ, h, hl => by
    show wipe (setsV is vs (σ.set i (some v))) os = _
    rw [wipe_sets2 (fun i hi => h i (List.mem_cons_of_mem _ hi)) (by simpa using hl), wipe_over (h i List.mem_cons_self)]
  | _ :: _, [], _, _, h => by cases h
section
variable {X : Cx} {elt tg iter : Expr} {ifs : List Expr} {scope : Scope} {is : List Nat} {pos pt : Pos} {wi : PTI} {tt : PTT} {te : PTE} {own : List (Str × Nat)} {els : List Expr} {kk : Nat}
/-- the turns of the block, D the new list -/
theorem lcT2_turns (K0 : PySem.W.Frag) (eK : K0 = X.K) {is os : List Nat} (c1 : ∀ o ∈ os, o ∈ is) (c2 : ∀ i ∈ is, i ∈ os) {te' : TE} {tt' : TT} 
    (ht : ∀ (σv : L2.St) (H : Hp) (σ : PSt) (F : Hp) (M : Mem) (Q : Bool → Mem → Prop), RM X.K F M H → RS X.K F σ σv → tt noX σ M Q → tt' σv H (LB X.K F M H Q))
    (he : ∀ (σv : L2.St) (H : Hp) (σ : PSt) (F : Hp) (M : Mem) (Q : PQ), RM X.K F M H → RS X.K F σ σv → te noX σ M Q → te' σv H (LQ X.K F M H Q))
    (mt : ∀ σv H Q Q', tt' σv H Q → (∀ b H', Q b H' → Q' b H') → tt' σv H Q') (me : ∀ σv H Q Q', te' σv H Q → (∀ b H', Q b H' → Q' b H') → te' σv H Q')
    {σv : L2.St} {σ : PSt} {F M H F1 M1 H1} {Q : PQ} {J : It} {xs : List PV} (b1 : Beh X.K F M H F1 M1 H1) (rs : RS X.K F σ σv) (st : Stab X.K J F1 xs) (hz : xs.length ≤ sizeLine) (h1 : pLcTL is tt te xs [] σ M1 Q) {D : Addr} (nD : H1 D = none) :
    ∃ W : Nat → Nat → Hp → Prop, (∃ m, W 0 m (upd H1 D (.lst []))) ∧ ∀ j m H', W j m H' →
      (J.stop j H' ∧ LQ X.K F M H Q (.ref D) H') ∨ (J.go j H' ∧ ∃ Nx : Hp → Prop, (∀ H2, Nx H2 → ∃ m', m' < m ∧ W (j + 1) m' H2) ∧ ∀ v H2, J.yld j H' v H2 → gTup K0 is.length (gsN is) v (wipe σv os) H2 fun σ2 H3 => wipe σ2 os = wipe σv os ∧ tt' σ2 H3 fun b H4 =>
        if b = true then te' σ2 H4 fun y H5 => ∃ acc, H5 D = some (.lst acc) ∧ acc.length < sizeLine ∧ Nx (upd H5 D (.lst (acc ++ [y]))) else Nx H4) := by
  obtain ⟨nF, nM⟩ := b1.rm.nones nD
  have b1' := b1.trans ((b1.rm.behHid (o := .lst []) nF nM).2 nD)
  refine ⟨fun j m H' => m = xs.length - j ∧ j ≤ xs.length ∧ ∃ F' M' acc vacc, Beh X.K F M H F' M' H' ∧ Same F1 F' ∧ F' D = none ∧ M' D = none ∧ H' D = some (.lst vacc) ∧ RAll X.K F' acc vacc ∧ acc.length ≤ j ∧ pLcTL is tt te (xs.drop j) acc σ M' Q,
    ⟨xs.length, rfl, Nat.zero_le _, F1, M1, [], [], b1', Same.refl _, nF, nM, upd_same, .nil, Nat.le_refl _, h1⟩, ?_⟩
  rintro j m H2 ⟨rfl, hj, F2, M2, acc, vacc, b2, sm2, nF2, nM2, hD, ra, hl, h2⟩
  obtain ⟨s1, s2⟩ := st j F2 M2 H2 sm2 b2.rm
  by_cases hlt : j < xs.length
  · obtain ⟨go, yl⟩ := s1 hlt
    rw [List.drop_eq_getElem_cons hlt] at h2
    refine .inr ⟨go, _, fun H' n => ⟨_, (show xs.length - (j + 1) < xs.length - j by omega), n⟩, fun v H3 y => ?_⟩
    obtain ⟨F3, b3, r3⟩ := yl v H3 y
    have keepD : ∀ {Fa : Hp} {Ma : Mem} {Ha : Hp}, Beh X.K F2 M2 H2 Fa Ma Ha → Fa D = none ∧ Ma D = none ∧ Ha D = some (.lst vacc) := fun {Fa Ma Ha} b => by
      refine ⟨?_, ?_, b.fr.keep D _ hD nM2⟩
      · cases q : Fa D with
        | none => rfl
        | some u =>
          rcases b.fg D (by rw [q]; exact Option.some_ne_none _) with z | z | z
          · exact absurd nF2 z
          · exact absurd nM2 z
          · rw [hD] at z; cases z
      · cases q : Ma D with
        | none => rfl
        | some u =>
          rcases b.fr.grow D (by rw [q]; exact Option.some_ne_none _) with z | z
          · exact absurd nM2 z
          · rw [hD] at z; cases z
    have hs : pLcTL is tt te (xs[j] :: xs.drop (j + 1)) acc σ M2 Q := h2
    unfold pLcTL at hs
    obtain ⟨ys, ey, hs2⟩ := need_of hs
    obtain ⟨σ1, es, h2⟩ := need_of hs2
    obtain ⟨a, vs, rfl, qa, ra2⟩ := R.tupI r3 ey
    have hlen : is.length = ys.length := setsP_len es
    subst eK
    refine ⟨a, vs, rfl, sqT_same b3.rm.fr qa, by rw [← ra2.length, hlen], gsN_of (by rw [← ra2.length, hlen]) ?_⟩
    rw [setsV_wipe2 c1 (by rw [← ra2.length, hlen])]
    refine ⟨wipe_sets2 c2 (by rw [← ra2.length, hlen]), ?_⟩
    have rs3 : RS X.K F3 σ1 (setsV is vs σv) := RS.sets is (rs.same (b2.trans b3).sm) ra2 es
    refine mt _ _ _ _ (ht _ H3 _ F3 M2 _ b3.rm rs3 h2) ?_
    rintro b H4 ⟨F4, M4, b4, h4⟩
    have b24 := b3.trans b4
    split
    · rename_i e
      rw [if_pos e] at h4
      refine me _ _ _ _ (he _ H4 _ F4 M4 _ b4.rm (rs3.same b4.sm) h4) ?_
      rintro yv H5 ⟨F5, M5, y5, b5, r5, h5⟩
      have b25 := b24.trans b5
      obtain ⟨k1, k2, k3⟩ := keepD b25
      refine ⟨vacc, k3, by rw [← ra.length]; omega, rfl, hlt, F5, M5, acc ++ [y5], vacc ++ [yv], ?_, sm2.trans b25.sm, k1, k2, upd_same, (ra.same b25.sm).append (.cons r5 .nil), by rw [List.length_append]; show acc.length + 1 ≤ j + 1; omega, h5⟩
      have b05 := b2.trans b25
      have x : RM X.K F5 M5 (upd H5 D (.lst (vacc ++ [yv]))) := hid_app b05.rm k1 k2
      refine ⟨b05.sm, x, ⟨fun c u hc nc => ?_, b05.fr.grow, fun c hc => ?_⟩, b05.fg⟩
      · have hcD : c ≠ D := fun z => by
          subst z
          rcases b1.fr.there c (by rw [hc]; exact Option.some_ne_none _) with _
          exact absurd nD (b1.fr.there c (by rw [hc]; exact Option.some_ne_none _))
        rw [upd_ne hcD]
        exact b05.fr.keep c u hc nc
      · by_cases hcD : c = D
        · subst hcD; rw [upd_same]; exact Option.some_ne_none _
        · rw [upd_ne hcD]; exact b05.fr.there c hc
    · rename_i e
      rw [if_neg e] at h4
      obtain ⟨k1, k2, k3⟩ := keepD b24
      exact ⟨rfl, hlt, F4, M4, acc, vacc, b2.trans b24, sm2.trans b24.sm, k1, k2, k3, ra.same b24.sm, by omega, h4⟩
  · have e : j = xs.length := by omega
    subst e
    rw [List.drop_length] at h2
    refine .inl ⟨s2 (Nat.le_refl _), ?_⟩
    have sm : Same F2 (upd F2 D (.lst vacc)) := same_upd nF2
    refine ⟨upd F2 D (.lst vacc), M2, _, ⟨b2.sm.trans sm, ⟨fun c u hc => ?_, fun c hc => ?_, fun c mo hc => ?_⟩, b2.fr, fun c hc => ?_⟩, .lst upd_same (ra.same sm), h2⟩
    · by_cases hcD : c = D
      · subst hcD; rw [upd_same] at hc; cases hc; exact hD
      · rw [upd_ne hcD] at hc; exact b2.rm.fr c u hc
    · have hcD : c ≠ D := fun z => hc (by rw [z]; exact nM2)
      rw [upd_ne hcD]; exact b2.rm.dj c hc
    · obtain ⟨u, e1, e2⟩ := b2.rm.mu c mo hc
      exact ⟨u, e1, e2.same sm⟩
    · by_cases hcD : c = D
      · subst hcD
        right; right
        cases q : H c with
        | none => rfl
        | some u => exact absurd nD (b1.fr.there c (by rw [q]; exact Option.some_ne_none _))
      · rw [upd_ne hcD] at hc; exact b2.fg c hc
theorem lcT2_core {os : List Nat} (c1 : ∀ o ∈ os, o ∈ is) (c2 : ∀ i ∈ is, i ∈ os) (hi : LI X tg iter wi)
    (ht : ∀ (s : Shared) (H : Hp) (C : Addr) (cl : List (Str × Addr)) (fp : List Addr), LTs (Blk X scope s H C cl fp) ifs tt)
    (he : ∀ (s : Shared) (H : Hp) (C : Addr) (cl : List (Str × Addr)) (fp : List Addr), LE (Blk X scope s H C cl fp) elt te)
    {σv : L2.St} {H : Hp} {σ : PSt} {F : Hp} {M : Mem} {Q : PQ} {E : PXK} (tk : PTk X F M H E) (rm : RM X.K F M H) (rs : RS X.K F σ σv) (h : pLcT wi is tt te E σ M Q) : tLc (WI X tg iter) (gTup X.K is.length (gsN is)) (TBlk X scope ifs) (EBlk X scope elt) os σv H (LQ X.K F M H Q) := by
  refine (hi.run σv H σ F M _ E tk rm rs h).mono ?_
  rintro J H1 ⟨F1, M1, xs, b1, st, hz, h1⟩
  intro D nD
  exact lcT2_turns (te := te) (tt := tt) (te' := EBlk X scope elt) (tt' := TBlk X scope ifs) X.K rfl c1 c2 (fun σv H σ F M Q rm rs h s0 H0 C cl fp pins s I => (ht s0 H0 C cl fp).run σv H σ F M Q rm rs h pins s I)
    (fun σv H σ F M Q rm rs h s0 H0 C cl fp => (he s0 H0 C cl fp).run σv H σ F M Q noX PTk.no rm rs h)
    (fun σv H Q Q' h m => TBlk.mono h m) (fun σv H Q Q' h m => EBlk.mono h m) b1 rs st hz h1 nD
theorem LE.lcT2 (c1 : ∀ o ∈ own.map (·.2), o ∈ is) (c2 : ∀ i ∈ is, i ∈ own.map (·.2)) (hc : X.calm = true) (hN : X.N.Nodup) (hi : LI X (.Tuple els kk pt) iter wi) (ok : BlkOk X.N X.env.scope scope own)
    (hg : ∀ (s : Shared) (H : Hp) (C : Addr) (cl : List (Str × Addr)) (fp : List Addr), PGs (Blk X scope s H C cl fp) els (gsN is))
    (hel : ∀ (s : Shared) (H : Hp) (C : Addr) (cl : List (Str × Addr)) (fp : List Addr), (assignEach els (Blk X scope s H C cl fp).env).length = is.length ∧ (assignEach els (Blk X scope s H C cl fp).env).findIdx? (·.1) = none)
    (ht : ∀ (s : Shared) (H : Hp) (C : Addr) (cl : List (Str × Addr)) (fp : List Addr), LTs (Blk X scope s H C cl fp) ifs tt)
    (he : ∀ (s : Shared) (H : Hp) (C : Addr) (cl : List (Str × Addr)) (fp : List Addr), LE (Blk X scope s H C cl fp) elt te)
    (hs : ∀ v, foldedSetIterable iter X.env v = pure v := by intro _; rfl) : LE X (.ListComp elt [⟨.Tuple els kk pt, iter, ifs, 0⟩] scope pos) (pLcT wi is tt te) := by
  refine ⟨fun σv H σ F M Q E tk rm rs h => ?_⟩
  refine WE.of (pe_lc (own := own) (g := gTup X.K is.length (gsN is)) (tt := TBlk X scope ifs) (te := EBlk X scope elt) hc hN WI.pi ok (fun s0 H0 C cl fp => pg_tup hc (hg s0 H0 C cl fp) (hel s0 H0 C cl fp).1 (hel s0 H0 C cl fp).2) (fun s0 H0 C cl fp => ⟨fun pins s σ H Q I hh => hh s0 H0 C cl fp pins s I⟩) (fun s0 H0 C cl fp => ⟨fun pins s σ H Q I hh => hh s0 H0 C cl fp pins s I⟩) hs) ?_
  exact lcT2_core c1 c2 hi ht he tk rm rs h
theorem LS.setLcT2 (k : Nat) {y : Str} {py spos : Pos} (c1 : ∀ o ∈ own.map (·.2), o ∈ is) (c2 : ∀ i ∈ is, i ∈ own.map (·.2)) (hc : X.calm = true) (hN : X.N.Nodup) (hy : X.N[k]? = some y) (hyl : X.env.scope.names.lookup y = some .local)
    (hsw : swapsWith (.ListComp elt [⟨.Tuple els kk pt, iter, ifs, 0⟩] scope pos) (some (.Name y py)) spos.line X.env = pure true) (hi : LI X (.Tuple els kk pt) iter wi) (ok : BlkOk X.N X.env.scope scope own)
    (hg : ∀ (s : Shared) (H : Hp) (C : Addr) (cl : List (Str × Addr)) (fp : List Addr), PGs (Blk X scope s H C cl fp) els (gsN is))
    (hel : ∀ (s : Shared) (H : Hp) (C : Addr) (cl : List (Str × Addr)) (fp : List Addr), (assignEach els (Blk X scope s H C cl fp).env).length = is.length ∧ (assignEach els (Blk X scope s H C cl fp).env).findIdx? (·.1) = none)
    (ht : ∀ (s : Shared) (H : Hp) (C : Addr) (cl : List (Str × Addr)) (fp : List Addr), LTs (Blk X scope s H C cl fp) ifs tt)
    (he : ∀ (s : Shared) (H : Hp) (C : Addr) (cl : List (Str × Addr)) (fp : List Addr), LE (Blk X scope s H C cl fp) elt te)
    (hs : ∀ v, foldedSetIterable iter X.env v = pure v := by intro _; rfl) : LS X (.Assign [.Name y py] (.ListComp elt [⟨.Tuple els kk pt, iter, ifs, 0⟩] scope pos) spos) (pSet k (pLcT wi is tt te)) := by
  refine ⟨fun σv H σ F M D tk rm rs h => ?_⟩
  refine WS.of (ps_setLc (own := own) (g := gTup X.K is.length (gsN is)) (tt := TBlk X scope ifs) (te := EBlk X scope elt) hc hN hy hyl hsw WI.pi ok (fun s0 H0 C cl fp => pg_tup hc (hg s0 H0 C cl fp) (hel s0 H0 C cl fp).1 (hel s0 H0 C cl fp).2) (fun s0 H0 C cl fp => ⟨fun pins s σ H Q I hh => hh s0 H0 C cl fp pins s I⟩) (fun s0 H0 C cl fp => ⟨fun pins s σ H Q I hh => hh s0 H0 C cl fp pins s I⟩) hs) ?_
  have q := lcT2_core (elt := elt) (ifs := ifs) (scope := scope) c1 c2 hi ht he tk rm rs h
  have m : ∀ v H', LQ X.K F M H (fun x M1 => D.nx (σ.set k (some x)) M1) v H' → gName k v σv H' (LD X.K F M H D).nx := fun v H' ⟨F1, M1, y, b1, ry, hy⟩ => ⟨F1, M1, _, b1, (rs.same b1.sm).set k ry, hy⟩
  refine WI.mono q fun J H1 h1 => ?_
  intro D' nD
  obtain ⟨W, w0, w1⟩ := h1 D' nD
  refine ⟨W, w0, fun j m' H' w => ?_⟩
  rcases w1 j m' H' w with ⟨s1, s2⟩ | s
  · exact .inl ⟨s1, m _ _ s2⟩
  · exact .inr s
end
end PL
set_option Elab.async false
set_option linter.all false
set_option maxRecDepth 100000
/-! a, b, c = x, y, z -/
namespace PL
open PySem PySem.Spec PyProof.Rows L2
section
variable {X : Cx} {x : Str} {pos : Pos}
def kPar3 (i j l : Nat) (σ : PSt) (dn : PNx) (xs : List PV) (M : Mem) : Prop := match xs with
  | [x, y, z] => dn (((σ.set i (some x)).set j (some y)).set l (some z)) M
  | _ => False
def pPar3 (i j l : Nat) (ta : PTA) : PTS := fun D σ M => ta D.ex σ M fun xs M1 => kPar3 i j l σ D.nx xs M1
theorem w_kpar3 {i j l : Nat} {x y z : PV} {σ σ1 σ2 σ3 : PSt} {dn : PNx} {M : Mem} (e1 : σ.set i (some x) = σ1) (e2 : σ1.set j (some y) = σ2) (e3 : σ2.set l (some z) = σ3) (h : dn σ3 M) : kPar3 i j l σ dn [x, y, z] M := by
  subst e1
  subst e2
  subst e3
  exact h
theorem RAll.three {K : PySem.W.Frag} {F : Hp} {x y z : PV} {vs : List V} (r : RAll K F [x, y, z] vs) : ∃ u v w, vs = [u, v, w] ∧ R K F x u ∧ R K F y v ∧ R K F z w := by
  cases r with
  | cons a r => cases r with
    | cons b r => cases r with
      | cons c r => cases r; exact ⟨_, _, _, rfl, a, b, c⟩
theorem w_par3 {i j l : Nat} {ta : PTA} {dn db dc : PNx} {dr : PQ} {de : PXK} {σ : PSt} {M : Mem} (h : ta de σ M fun xs M1 => kPar3 i j l σ dn xs M1) : pPar3 i j l ta (PEnds.mk dn dr de db dc) σ M := h
end
end PL
set_option Elab.async false
set_option linter.all false
set_option maxRecDepth 100000
/-! TM: ordinary tape machines, as plain Lean -/
namespace TM
open PySem PySem.Spec PyProof.Rows L2 PL
abbrev TRow := Option (Int × Int × Int)
def rowP : TRow → PV
  | none => .non
  | some (w, mv, t) => .tup [.int w, .int mv, .int t]
def RowOk (m s : Int) : TRow → Prop
  | none => True
  | some (w, mv, t) => (0 ≤ w ∧ w < m) ∧ (mv = 1 ∨ mv = -1) ∧ (0 ≤ t ∧ t < s)
structure Mach (m s : Int) (rows : List TRow) : Prop where
  m2 : 2 ≤ m
  m8 : m ≤ 8
  s1 : 1 ≤ s
  s40 : s ≤ 40
  len : (rows.length : Int) = m * s
  ok : ∀ r ∈ rows, RowOk m s r
def tI (xs : List Int) : PV := .tup (xs.map PV.int)
def trimL (ms : List Int) : List Int := (ms.reverse.dropWhile (fun x => decide (x = 0))).reverse
structure Cf where
  q : Int
  l : List Int
  a : Int
  r : List Int
def cfP (c : Cf) : PV := .tup [.int c.q, tI c.l, .int c.a, tI c.r]
structure SideOk (m : Int) (xs : List Int) : Prop where
  mm : ∀ x ∈ xs, 0 ≤ x ∧ x < m
  tr : trimL xs = xs
structure CfOk (m s : Int) (c : Cf) : Prop where
  q0 : 0 ≤ c.q
  qs : c.q < s
  a0 : 0 ≤ c.a
  am : c.a < m
  l : SideOk m c.l
  r : SideOk m c.r
def push (w : Int) (l : List Int) : List Int := if w = 0 ∧ l = [] then [] else w :: l
def hd (l : List Int) : Int := l.headD 0
def rowAt (rows : List TRow) (m q a : Int) : TRow := (rows[(q * m + a).toNat]?).getD none
def stepM (rows : List TRow) (m : Int) (c : Cf) : Option Cf := match rowAt rows m c.q c.a with
  | none => none
  | some (w, mv, t) => if mv = 1 then some ⟨t, push w c.l, hd c.r, c.r.tail⟩ else some ⟨t, c.l.tail, hd c.l, push w c.r⟩
def runM (rows : List TRow) (m : Int) : Nat → Cf → Cf × Nat
  | 0, c => (c, 0)
  | n + 1, c => match stepM rows m c with
    | none => (c, 0)
    | some d => let (e, k) := runM rows m n d; (e, k + 1)
def optP : Option Cf → PV
  | none => .non
  | some c => cfP c
def tapeF (m s : Int) (rows : List TRow) : List (Str × PV) := [(Str.ofString "marks", .int m), (Str.ofString "states", .int s), (Str.ofString "_rows", .lst (rows.map rowP))]
/-! ### trimming -/
theorem trimL_snoc0 (xs : List Int) : trimL (xs ++ [0]) = trimL xs := by
  unfold trimL
  rw [List.reverse_append]
  simp
theorem trimL_snoc (xs : List Int) {x : Int} (h : x ≠ 0) : trimL (xs ++ [x]) = xs ++ [x] := by
  unfold trimL
  rw [List.reverse_append]
  simp [h]
theorem trimL_idem (xs : List Int) : trimL (trimL xs) = trimL xs := by
  unfold trimL
  rw [List.reverse_reverse]
  congr 1
  generalize xs.reverse = ys
  induction ys with
  | nil => rfl
  | cons y r ih =>
    rw [List.dropWhile_cons]
    split
    · exact ih
    · rename_i h
      rw [List.dropWhile_cons, if_neg h]
theorem mem_trimL {xs : List Int} {x : Int} (h : x ∈ trimL xs) : x ∈ xs := by
  unfold trimL at h
  rw [List.mem_reverse] at h
  exact List.mem_reverse.mp ((List.dropWhile_suffix _).subset h)
theorem trimL_len (xs : List Int) : (trimL xs).length ≤ xs.length := by
  unfold trimL
  rw [List.length_reverse]
  exact Nat.le_trans ((List.dropWhile_suffix _).length_le) (by rw [List.length_reverse]; exact Nat.le_refl _)
theorem SideOk.trim {m : Int} {xs : List Int} (h : ∀ x ∈ xs, 0 ≤ x ∧ x < m) : SideOk m (trimL xs) := ⟨fun x hx => h x (mem_trimL hx), trimL_idem xs⟩
/-- it is trimmed: it is empty, or its last is no blank -/
theorem trimL_eq_iff (xs : List Int) : trimL xs = xs ↔ ∀ x, xs.getLast? = some x → x ≠ 0 := by
  rcases List.eq_nil_or_concat xs with rfl | ⟨r, y, rfl⟩
  · simp [trimL]
  · rw [List.concat_eq_append]
    constructor
    · intro h x hx
      rw [List.getLast?_append] at hx
      simp at hx
      subst hx
      intro z
      subst z
      rw [trimL_snoc0] at h
      have := trimL_len r
      rw [h] at this
      simp at this
      omega
    · intro h
      exact trimL_snoc r (h y (by simp))
theorem SideOk.tail {m : Int} {xs : List Int} (h : SideOk m xs) : SideOk m xs.tail := by
  refine ⟨fun x hx => h.mm x (List.mem_of_mem_tail hx), ?_⟩
  rw [trimL_eq_iff]
  have h2 := (trimL_eq_iff xs).mp h.tr
  cases xs with
  | nil => exact h2
  | cons a r =>
    intro x hx
    refine h2 x ?_
    show (a :: r).getLast? = some x
    cases r with
    | nil => cases hx
    | cons b r =>
      rw [List.getLast?_cons_cons]
      exact hx
theorem SideOk.push {m w : Int} {xs : List Int} (h : SideOk m xs) (hw : 0 ≤ w ∧ w < m) : SideOk m (push w xs) := by
  unfold TM.push
  split
  · exact ⟨fun x hx => (nomatch hx), rfl⟩
  · rename_i hn
    refine ⟨fun x hx => ?_, ?_⟩
    · rcases List.mem_cons.mp hx with e | e
      · rw [e]; exact hw
      · exact h.mm x e
    · rw [trimL_eq_iff]
      have h2 := (trimL_eq_iff xs).mp h.tr
      cases xs with
      | nil =>
        intro x hx
        simp at hx
        subst hx
        intro z
        exact hn ⟨z, rfl⟩
      | cons b r =>
        intro x hx
        rw [List.getLast?_cons_cons] at hx
        exact h2 x hx
theorem SideOk.hd {m : Int} {xs : List Int} (h : SideOk m xs) (hm : 0 < m) : 0 ≤ hd xs ∧ hd xs < m := by
  cases xs with
  | nil => exact ⟨Int.le_refl 0, hm⟩
  | cons a r => exact h.mm a List.mem_cons_self
theorem rowAt_mem {m s q a : Int} {rows : List TRow} (M : Mach m s rows) (hq : 0 ≤ q) (hqs : q < s) (ha : 0 ≤ a) (ham : a < m) :
    (q * m + a).toNat < rows.length ∧ rows[(q * m + a).toNat]? = some (rowAt rows m q a) ∧ RowOk m s (rowAt rows m q a) ∧ 0 ≤ q * m + a := by
  have h0 : 0 ≤ q * m + a := Int.add_nonneg (Int.mul_nonneg hq (by have := M.m2; omega)) ha
  have h1 : q * m + a < m * s := by
    have e1 : (q + 1) * m ≤ s * m := Int.mul_le_mul_of_nonneg_right (by omega) (by have := M.m2; omega)
    have e2 : (q + 1) * m = q * m + m := by rw [Int.add_mul, Int.one_mul]
    have e3 : s * m = m * s := Int.mul_comm s m
    omega
  have hl : (q * m + a).toNat < rows.length := by
    have := M.len
    omega
  have hg : rows[(q * m + a).toNat]? = some rows[(q * m + a).toNat] := List.getElem?_eq_getElem hl
  have hr : rowAt rows m q a = rows[(q * m + a).toNat] := by
    unfold rowAt
    rw [hg]
    rfl
  exact ⟨hl, by rw [hr]; exact hg, by rw [hr]; exact M.ok _ (List.getElem_mem hl), h0⟩
/-! ### readings over tuples of ints -/
section
variable {M : Mem} {Q : PQ}
theorem eq_tI {l r : List Int} : oEq (tI l) (tI r) M Q = Q (.bl (decide (l = r))) M := eqP_tI
theorem eq_tI_nil {l : List Int} : oEq (tI l) (.tup []) M Q = Q (.bl (decide (l = []))) M := eqP_tI (ys := [])
theorem sl_tI_tail {l : List Int} : oSl (tI l) (some 1) none M Q = Q (tI l.tail) M := by
  unfold tI
  rw [PL.sl_tup, cutA_map, cutA_from1]
theorem len_tI {l : List Int} : kLen (tI l) M Q = Q (.int l.length) M := by
  unfold tI
  rw [PL.len_tup, List.length_map]
theorem tup_tI {l : List Int} : PL.kTup (tI l) M Q = Q (tI l) M := rfl
theorem add_tI {l r : List Int} : oAdd (tI l) (tI r) M Q = (l.length + r.length ≤ sizeLine ∧ Q (tI (l ++ r)) M) := by
  show ((l.map PV.int).length + (r.map PV.int).length ≤ sizeLine ∧ Q (.tup (l.map PV.int ++ r.map PV.int)) M) = _
  rw [List.length_map, List.length_map, ← List.map_append]
  rfl
end
section
variable {m s : Int} {rows : List TRow}
theorem lk_marks : List.lookup (Str.ofString "marks") (tapeF m s rows) = some (.int m) := rfl
theorem lk_states : List.lookup (Str.ofString "states") (tapeF m s rows) = some (.int s) := rfl
theorem lk_rows : List.lookup (Str.ofString "_rows") (tapeF m s rows) = some (.lst (rows.map rowP)) := rfl
theorem lk_row : List.lookup (Str.ofString "row") (tapeF m s rows) = none := rfl
theorem lk_table : List.lookup (Str.ofString "table") (tapeF m s rows) = none := rfl
theorem lk_begin : List.lookup (Str.ofString "begin") (tapeF m s rows) = none := rfl
theorem lk_step : List.lookup (Str.ofString "step") (tapeF m s rows) = none := rfl
theorem lk_stopped : List.lookup (Str.ofString "stopped") (tapeF m s rows) = none := rfl
theorem lk_run : List.lookup (Str.ofString "run") (tapeF m s rows) = none := rfl
theorem at_rows {q a : Int} (M0 : Mach m s rows) (hq : 0 ≤ q) (hqs : q < s) (ha : 0 ≤ a) (ham : a < m) : L2.atI (rows.map rowP) (q * m + a) = some (rowP (rowAt rows m q a)) := by
  obtain ⟨_, h2, _, h0⟩ := rowAt_mem M0 hq hqs ha ham
  rw [at_pos _ h0, List.getElem?_map, h2]
  rfl
theorem cmul_ok {q : Int} (M0 : Mach m s rows) (hq : 0 ≤ q) (hqs : q < s) : CMul q m := by
  have := M0.s40
  exact .inl ⟨by omega, by omega⟩
end
/-! ### the count of places from which on something stands -/
def cntL (ms : List Int) : Nat := ((List.range ms.length).filter (fun i => (ms.drop i).any (fun x => decide (0 < x)))).length
section
variable {M : Mem} {Q : PQ}
end
end TM
set_option Elab.async false
set_option linter.all false
set_option maxRecDepth 100000
namespace My
open PySem PySem.Spec PyProof.Rows L2 PL
def topS (i : Nat) : Stmt := PySem.Challenge.pw_backstair_k66_pasts_that_are_none.main.body.getD i (.Pass ⟨0, 0, 0, 0⟩)
abbrev s_is_whole : Stmt := topS 6
theorem sc_is_whole : FnScope ["value"] ["value"] (defScope s_is_whole) := ⟨rfl, rfl, rfl, by decide +kernel, rfl, by decide +kernel, by decide +kernel⟩
abbrev s_is_number : Stmt := topS 7
theorem sc_is_number : FnScope ["value", "low", "high"] ["value", "low", "high"] (defScope s_is_number) := ⟨rfl, rfl, rfl, by decide +kernel, rfl, by decide +kernel, by decide +kernel⟩
abbrev s_are_numbers : Stmt := topS 8
theorem sc_are_numbers : FnScope ["value", "low", "high", "item"] ["value", "low", "high"] (defScope s_are_numbers) := ⟨rfl, rfl, rfl, by decide +kernel, rfl, by decide +kernel, by decide +kernel⟩
abbrev s_trimmed : Stmt := topS 10
theorem sc_trimmed : FnScope ["marks", "end"] ["marks"] (defScope s_trimmed) := ⟨rfl, rfl, rfl, by decide +kernel, rfl, by decide +kernel, by decide +kernel⟩
abbrev s_is_row : Stmt := topS 14
theorem sc_is_row : FnScope ["row", "marks", "states", "mark", "move", "state"] ["row", "marks", "states"] (defScope s_is_row) := ⟨rfl, rfl, rfl, by decide +kernel, rfl, by decide +kernel, by decide +kernel⟩
abbrev s_Tape_init : Stmt := inClass (topS 15) 0
theorem sc_Tape_init : FnScope ["self", "marks", "states", "rows", "row"] ["self", "marks", "states", "rows"] (defScope s_Tape_init) := ⟨rfl, rfl, rfl, by decide +kernel, rfl, by decide +kernel, by decide +kernel⟩
abbrev s_Tape_row : Stmt := inClass (topS 15) 1
theorem sc_Tape_row : FnScope ["self", "state", "mark"] ["self", "state", "mark"] (defScope s_Tape_row) := ⟨rfl, rfl, rfl, by decide +kernel, rfl, by decide +kernel, by decide +kernel⟩
abbrev s_headed : Stmt := topS 17
theorem sc_headed : FnScope ["marks", "state", "mark"] ["marks", "state", "mark"] (defScope s_headed) := ⟨rfl, rfl, rfl, by decide +kernel, rfl, by decide +kernel, by decide +kernel⟩
abbrev s_head_place : Stmt := topS 18
theorem sc_head_place : FnScope ["marks", "line", "places", "place", "cell"] ["marks", "line"] (defScope s_head_place) := ⟨rfl, rfl, rfl, by decide +kernel, rfl, by decide +kernel, by decide +kernel⟩
abbrev s_tape_at : Stmt := topS 19
theorem sc_tape_at : FnScope ["marks", "line", "place", "middles", "higher", "mark", "cell"] ["marks", "line", "place"] (defScope s_tape_at) := ⟨rfl, rfl, rfl, by decide +kernel, rfl, by decide +kernel, by decide +kernel⟩
abbrev s_is_sizes : Stmt := topS 23
theorem sc_is_sizes : FnScope ["value"] ["value"] (defScope s_is_sizes) := ⟨rfl, rfl, rfl, by decide +kernel, rfl, by decide +kernel, by decide +kernel⟩
abbrev s_is_triple : Stmt := topS 24
theorem sc_is_triple : FnScope ["value", "sizes", "letter", "size"] ["value", "sizes"] (defScope s_is_triple) := ⟨rfl, rfl, rfl, by decide +kernel, rfl, by decide +kernel, by decide +kernel⟩
abbrev s_all_triples : Stmt := topS 25
theorem sc_all_triples : FnScope ["sizes", "first", "second", "third", "one", "two", "three"] ["sizes"] (defScope s_all_triples) := ⟨rfl, rfl, rfl, by decide +kernel, rfl, by decide +kernel, by decide +kernel⟩
abbrev s_whole_rule : Stmt := topS 26
theorem sc_whole_rule : FnScope ["sizes", "changes", "given", "rule", "triples", "cells", "triple", "cell"] ["sizes", "changes"] (defScope s_whole_rule) := ⟨rfl, rfl, rfl, by decide +kernel, rfl, by decide +kernel, by decide +kernel⟩
abbrev s_gathered : Stmt := topS 27
theorem sc_gathered : FnScope ["line", "wide", "one", "two", "three"] ["line"] (defScope s_gathered) := ⟨rfl, rfl, rfl, by decide +kernel, rfl, by decide +kernel, by decide +kernel⟩
abbrev s_stripped : Stmt := topS 28
theorem sc_stripped : FnScope ["cells", "low", "high"] ["cells"] (defScope s_stripped) := ⟨rfl, rfl, rfl, by decide +kernel, rfl, by decide +kernel, by decide +kernel⟩
abbrev s_Parts_init : Stmt := inClass (topS 29) 0
theorem sc_Parts_init : FnScope ["self", "sizes", "changes", "triple"] ["self", "sizes", "changes"] (defScope s_Parts_init) := ⟨rfl, rfl, rfl, by decide +kernel, rfl, by decide +kernel, by decide +kernel⟩
abbrev s_Parts_step : Stmt := inClass (topS 29) 4
theorem sc_Parts_step : FnScope ["self", "configuration", "triple"] ["self", "configuration"] (defScope s_Parts_step) := ⟨rfl, rfl, rfl, by decide +kernel, rfl, by decide +kernel, by decide +kernel⟩
abbrev s_Parts_back : Stmt := inClass (topS 29) 5
theorem sc_Parts_back : FnScope ["self", "configuration", "cell"] ["self", "configuration"] (defScope s_Parts_back) := ⟨rfl, rfl, rfl, by decide +kernel, rfl, by decide +kernel, by decide +kernel⟩
abbrev s_Parts_run : Stmt := inClass (topS 29) 6
theorem sc_Parts_run : FnScope ["self", "configuration", "steps", "_"] ["self", "configuration", "steps"] (defScope s_Parts_run) := ⟨rfl, rfl, rfl, by decide +kernel, rfl, by decide +kernel, by decide +kernel⟩
abbrev s_Parts_run_back : Stmt := inClass (topS 29) 7
theorem sc_Parts_run_back : FnScope ["self", "configuration", "steps", "_"] ["self", "configuration", "steps"] (defScope s_Parts_run_back) := ⟨rfl, rfl, rfl, by decide +kernel, rfl, by decide +kernel, by decide +kernel⟩
abbrev s_memory_of : Stmt := topS 31
theorem sc_memory_of : FnScope ["marks", "state", "mark"] ["marks", "state", "mark"] (defScope s_memory_of) := ⟨rfl, rfl, rfl, by decide +kernel, rfl, by decide +kernel, by decide +kernel⟩
abbrev s_many_memories : Stmt := topS 32
theorem sc_many_memories : FnScope ["machine"] ["machine"] (defScope s_many_memories) := ⟨rfl, rfl, rfl, by decide +kernel, rfl, by decide +kernel, by decide +kernel⟩
abbrev s_quiet_changes : Stmt := topS 33
theorem sc_quiet_changes : FnScope ["machine", "marks", "pairs", "mark", "memory", "state"] ["machine"] (defScope s_quiet_changes) := ⟨rfl, rfl, rfl, by decide +kernel, rfl, by decide +kernel, by decide +kernel⟩
abbrev s_row_changes : Stmt := topS 34
theorem sc_row_changes : FnScope ["machine", "state", "mark", "row", "marks", "written", "move", "after", "memory", "leaving", "letter", "pairs", "there"] ["machine", "state", "mark"] (defScope s_row_changes) := ⟨rfl, rfl, rfl, by decide +kernel, rfl, by decide +kernel, by decide +kernel⟩
abbrev s_line_changes : Stmt := topS 35
theorem sc_line_changes : FnScope ["machine", "pairs", "state", "mark", "triple", "cell"] ["machine"] (defScope s_line_changes) := ⟨rfl, rfl, rfl, by decide +kernel, rfl, by decide +kernel, by decide +kernel⟩
abbrev s_FlyStair_init : Stmt := inClass (topS 36) 0
theorem sc_FlyStair_init : FnScope ["self", "machine", "heads", "sizes"] ["self", "machine"] (defScope s_FlyStair_init) := ⟨rfl, rfl, rfl, by decide +kernel, rfl, by decide +kernel, by decide +kernel⟩
abbrev s_FlyStair_up : Stmt := inClass (topS 36) 2
theorem sc_FlyStair_up : FnScope ["self", "configuration", "place", "_", "right", "left"] ["self", "configuration"] (defScope s_FlyStair_up) := ⟨rfl, rfl, rfl, by decide +kernel, rfl, by decide +kernel, by decide +kernel⟩
abbrev s_FlyStair_memories : Stmt := inClass (topS 36) 4
theorem sc_FlyStair_memories : FnScope ["self", "configuration", "letters", "left", "_", "letter"] ["self", "configuration"] (defScope s_FlyStair_memories) := ⟨rfl, rfl, rfl, by decide +kernel, rfl, by decide +kernel, by decide +kernel⟩
abbrev s_past : Stmt := topS 37
theorem sc_past : FnScope ["stair", "line", "found", "many", "upper"] ["stair", "line"] (defScope s_past) := ⟨rfl, rfl, rfl, by decide +kernel, rfl, by decide +kernel, by decide +kernel⟩
abbrev s_law_cell : Stmt := topS 40
theorem sc_law_cell : FnScope ["script", "k"] ["script", "k"] (defScope s_law_cell) := ⟨rfl, rfl, rfl, by decide +kernel, rfl, by decide +kernel, by decide +kernel⟩
abbrev s_law_mixed : Stmt := topS 41
theorem sc_law_mixed : FnScope ["cell", "k", "first", "second"] ["cell", "k"] (defScope s_law_mixed) := ⟨rfl, rfl, rfl, by decide +kernel, rfl, by decide +kernel, by decide +kernel⟩
abbrev s_law_digits : Stmt := topS 42
theorem sc_law_digits : FnScope ["cell", "count", "many", "digits", "k"] ["cell", "count", "many"] (defScope s_law_digits) := ⟨rfl, rfl, rfl, by decide +kernel, rfl, by decide +kernel, by decide +kernel⟩
abbrev s_law_tape : Stmt := topS 43
theorem sc_law_tape : FnScope ["numbers", "most_states", "marks", "states", "rows", "k", "digit"] ["numbers", "most_states"] (defScope s_law_tape) := ⟨rfl, rfl, rfl, by decide +kernel, rfl, by decide +kernel, by decide +kernel⟩
abbrev s_law_trim : Stmt := topS 44
theorem sc_law_trim : FnScope ["row", "end", "k"] ["row"] (defScope s_law_trim) := ⟨rfl, rfl, rfl, by decide +kernel, rfl, by decide +kernel, by decide +kernel⟩
abbrev s_law_upper : Stmt := topS 45
theorem sc_law_upper : FnScope ["machine", "cell", "digits", "left", "right", "one"] ["machine", "cell"] (defScope s_law_upper) := ⟨rfl, rfl, rfl, by decide +kernel, rfl, by decide +kernel, by decide +kernel⟩
abbrev s_law_line : Stmt := topS 47
theorem sc_law_line : FnScope ["machine", "configuration", "state", "left", "mark", "right", "cells", "one"] ["machine", "configuration"] (defScope s_law_line) := ⟨rfl, rfl, rfl, by decide +kernel, rfl, by decide +kernel, by decide +kernel⟩
abbrev s_law_past : Stmt := topS 48
theorem sc_law_past : FnScope ["stair", "line", "found", "k"] ["stair", "line"] (defScope s_law_past) := ⟨rfl, rfl, rfl, by decide +kernel, rfl, by decide +kernel, by decide +kernel⟩
abbrev s_law_asked : Stmt := topS 49
theorem sc_law_asked : FnScope ["stair", "line", "e"] ["stair", "line"] (defScope s_law_asked) := ⟨rfl, rfl, rfl, by decide +kernel, rfl, by decide +kernel, by decide +kernel⟩
abbrev s_law : Stmt := topS 50
theorem sc_law : FnScope ["script", "machine", "stair", "upper", "size", "digits", "line", "while_zero", "due", "k", "at"] ["script"] (defScope s_law) := ⟨rfl, rfl, rfl, by decide +kernel, rfl, by decide +kernel, by decide +kernel⟩
def gv_QUIET : PV := .tup [.int 0, .int 0, .int 0]
/-- where the classes of the text stand -/
structure Ctx where
  Tape : Addr
  Parts : Addr
  FlyStair : Addr
  BackError : Addr
  BadMachine : Addr
  BadParts : Addr
  exm : Addr → Addr → Option Bool
  kit : Addr → Value → Option Bool
  e_BadMachine_BackError : exm BadMachine BackError = some true
  e_BadParts_BackError : exm BadParts BackError = some true
  k_BadMachine_BadParts : kit BadMachine (.ref BadParts) = some false
  k_BadMachine_ValueError : kit BadMachine (.type "ValueError") = some true
  k_BadParts_BadParts : kit BadParts (.ref BadParts) = some true
  k_BadParts_ValueError : kit BadParts (.type "ValueError") = some true
structure ClTape (K : PySem.W.Frag) (C : Addr) : Prop where
  cl : Cls K C
  n_rows : NoAttr K C (PySem.Str.ofString "_rows")
  n_marks : NoAttr K C (PySem.Str.ofString "marks")
  n_states : NoAttr K C (PySem.Str.ofString "states")
structure ClParts (K : PySem.W.Frag) (C : Addr) : Prop where
  cl : Cls K C
  n_rule : NoAttr K C (PySem.Str.ofString "_rule")
  n_source : NoAttr K C (PySem.Str.ofString "_source")
  n_sizes : NoAttr K C (PySem.Str.ofString "sizes")
structure ClFlyStair (K : PySem.W.Frag) (C : Addr) : Prop where
  cl : Cls K C
  n_lower : NoAttr K C (PySem.Str.ofString "lower")
  n_upper : NoAttr K C (PySem.Str.ofString "upper")
structure Txt (K : PySem.W.Frag) (mg : Str → Option Value) (Γ : Ctx) : Prop where
  b_ValueError : mg (PySem.Str.ofString "ValueError") = none
  b_all : mg (PySem.Str.ofString "all") = none
  b_any : mg (PySem.Str.ofString "any") = none
  b_bool : mg (PySem.Str.ofString "bool") = none
  b_dict : mg (PySem.Str.ofString "dict") = none
  b_divmod : mg (PySem.Str.ofString "divmod") = none
  b_enumerate : mg (PySem.Str.ofString "enumerate") = none
  b_int : mg (PySem.Str.ofString "int") = none
  b_isinstance : mg (PySem.Str.ofString "isinstance") = none
  b_len : mg (PySem.Str.ofString "len") = none
  b_list : mg (PySem.Str.ofString "list") = none
  b_range : mg (PySem.Str.ofString "range") = none
  b_tuple : mg (PySem.Str.ofString "tuple") = none
  b_zip : mg (PySem.Str.ofString "zip") = none
  m_MOST_CELLS : ∃ t, mg (PySem.Str.ofString "MOST_CELLS") = some (.int 40000 t)
  m_QUIET : ∃ v, mg (PySem.Str.ofString "QUIET") = some v ∧ KIs K gv_QUIET v
  cTape : ClTape K Γ.Tape
  cParts : ClParts K Γ.Parts
  cFlyStair : ClFlyStair K Γ.FlyStair
  g_BackError : mg (PySem.Str.ofString "BackError") = some (.ref Γ.BackError)
  g_BadMachine : mg (PySem.Str.ofString "BadMachine") = some (.ref Γ.BadMachine)
  g_BadParts : mg (PySem.Str.ofString "BadParts") = some (.ref Γ.BadParts)
  r_BadMachine : OwnErr K Γ.BadMachine
  r_BadParts : OwnErr K Γ.BadParts
  exm_ok : ∀ C X b, Γ.exm C X = some b → PySem.W.exmOne K (.ref C) (.ref X) = some b
  exm_cls : ∀ C X b, Γ.exm C X = some b → ExcC K C
  kit_ok : ∀ C v b, Γ.kit C v = some b → PySem.W.kitOne K (.ref C) v = some b
end My
set_option Elab.async false
set_option linter.all false
set_option maxRecDepth 100000
namespace My
open PySem PySem.Spec PyProof.Rows L2 PL TM PD
/-! ### promises -/
def isNum (lo hi : Int) : PV → Bool
  | .int i => decide (lo ≤ i) && decide (i ≤ hi)
  | _ => false
def areNum (lo hi : Int) : PV → Bool
  | .tup xs => xs.all (isNum lo hi)
  | _ => false
def known (M : Mem) (v : PV) : Prop := tyOf M v ≠ none
def isWh : PV → Bool
  | .int _ => true
  | _ => false
def sp_is_whole (Γ : Ctx) : PSp := fun xs M Q _ => ∃ v, xs = [v] ∧ known M v ∧ Q (.bl (isWh v)) M
def sp_is_number (Γ : Ctx) : PSp := fun xs M Q _ => ∃ v lo hi, xs = [v, .int lo, .int hi] ∧ known M v ∧ Q (.bl (isNum lo hi v)) M
def sp_are_numbers (Γ : Ctx) : PSp := fun xs M Q _ => ∃ v lo hi, xs = [v, .int lo, .int hi] ∧ known M v ∧ (∀ ys, v = .tup ys → ys.length ≤ sizeLine ∧ ∀ y ∈ ys, known M y) ∧ Q (.bl (areNum lo hi v)) M
def sp_is_row (Γ : Ctx) : PSp := fun xs M Q _ => ∃ r m s, xs = [rowP r, .int m, .int s] ∧ RowOk m s r ∧ Q (.bl true) M
def sp_Tape_init (Γ : Ctx) : PSp := fun xs M Q _ => ∃ p m s rv rows, xs = [.ptr p, .int m, .int s, rv] ∧ Mach m s rows ∧ lstOf M rv = some (rows.map rowP) ∧ tyOf M rv = some "list" ∧ M p = some (.obj Γ.Tape []) ∧
  Q .non (M.put p (.obj Γ.Tape (tapeF m s rows)))
def tapeP (Γ : Ctx) (m s : Int) (rows : List TRow) : PV := .obj Γ.Tape (tapeF m s rows)
def sp_Tape_row (Γ : Ctx) : PSp := fun xs M Q _ => ∃ m s rows q a, xs = [tapeP Γ m s rows, .int q, .int a] ∧ Mach m s rows ∧ (0 ≤ q ∧ q < s) ∧ (0 ≤ a ∧ a < m) ∧ Q (rowP (rowAt rows m q a)) M
def lI (xs : List Int) : PV := .lst (xs.map PV.int)
structure Tp where
  l : List Int
  a : Int
  r : List Int
def tpP (t : Tp) : PV := .tup [tI t.l, .int t.a, tI t.r]
/-! ### machines in parts, in plain words -/
abbrev T3 := Int × Int × Int
def tP (t : T3) : PV := .tup [.int t.1, .int t.2.1, .int t.2.2]
def kT (t : T3) : NestedKey := .tup [.num t.1, .num t.2.1, .num t.2.2]
def q0 : T3 := (0, 0, 0)
structure Sz where
  a : Nat
  b : Nat
  c : Nat
def szP (z : Sz) : PV := .tup [.int (z.a : Int), .int (z.b : Int), .int (z.c : Int)]
def Sz.rev (z : Sz) : Sz := ⟨z.c, z.b, z.a⟩
structure BxOk (z : Sz) : Prop where
  a1 : 1 ≤ z.a
  b1 : 1 ≤ z.b
  c1 : 1 ≤ z.c
  a2 : z.a ≤ 200
  b2 : z.b ≤ 40000
  c2 : z.c ≤ 200
  m : z.a * z.b * z.c ≤ 40000
def inZ (z : Sz) (t : T3) : Prop := (0 ≤ t.1 ∧ t.1 < z.a) ∧ (0 ≤ t.2.1 ∧ t.2.1 < z.b) ∧ (0 ≤ t.2.2 ∧ t.2.2 < z.c)
instance (z : Sz) (t : T3) : Decidable (inZ z t) := by unfold inZ; infer_instance
/-- all triples, in order -/
def trL (z : Sz) : List T3 := ((List.range z.a).map fun (i : Nat) => ((List.range z.b).map fun (j : Nat) => (List.range z.c).map fun (k : Nat) => (((i : Int), (j : Int), (k : Int)) : T3)).flatten).flatten
abbrev Tb := List (T3 × T3)
def dP (R : Tb) : List (NestedKey × PV) := R.map fun p => (kT p.1, tP p.2)
def swp (R : Tb) : Tb := R.map fun p => (p.2, p.1)
def look (R : Tb) (t : T3) : Option T3 := (R.find? fun p => decide (p.1 = t)).map (·.2)
/-- what a change to a rule may be -/
structure ChOk (z : Sz) (R : Tb) : Prop where
  dom : ∀ p ∈ R, inZ z.rev p.1 ∧ inZ z p.2
  k : (R.map (·.1)).Nodup
  v : (R.map (·.2)).Nodup
  q : (q0, q0) ∈ R
def missK (z : Sz) (R : Tb) : List T3 := (trL z.rev).filter fun t => decide (t ∉ R.map (·.1))
def missV (z : Sz) (R : Tb) : List T3 := (trL z).filter fun t => decide (t ∉ R.map (·.2))
/-- the whole rule -/
def full (z : Sz) (R : Tb) : Tb := R ++ (missK z R).zip (missV z R)
/-- one to one, and whole -/
structure FOk (z : Sz) (R : Tb) : Prop extends ChOk z R where
  ak : ∀ t, inZ z.rev t → t ∈ R.map (·.1)
  av : ∀ t, inZ z t → t ∈ R.map (·.2)
def rl (R : Tb) (t : T3) : T3 := (look R t).getD q0
/-! lines -/
def gat (L : List T3) : List T3 :=
  let w := [q0, q0] ++ L ++ [q0, q0]
  (w.zip (w.tail.zip w.tail.tail)).map fun p => (p.1.2.2, p.2.1.2.1, p.2.2.1)
def isQ (t : T3) : Bool := decide (t = q0)
def strip (L : List T3) : List T3 := ((L.dropWhile isQ).reverse.dropWhile isQ).reverse
def stepL (R : Tb) (L : List T3) : List T3 := strip ((gat L).map (rl R))
def bakL (R : Tb) (L : List T3) : List T3 := strip (gat (L.map (rl (swp R))))
def lP (L : List T3) : PV := .tup (L.map tP)
def inL (z : Sz) (L : List T3) : Prop := ∀ t ∈ L, inZ z t
def partsF (z : Sz) (R : Tb) : List (Str × PV) := [(Str.ofString "sizes", szP z), (Str.ofString "_rule", .dct (dP R)), (Str.ofString "_source", .dct (dP (swp R)))]
def partsP (Γ : Ctx) (z : Sz) (R : Tb) : PV := .obj Γ.Parts (partsF z R)
def cfOkB (z : Sz) (L : List T3) : Bool := L.all (fun t => decide (inZ z t)) && (decide (L = []) || (!decide (L.head? = some q0) && !decide (L.getLast? = some q0)))
def iterN (f : List T3 → List T3) : Nat → List T3 → List T3
  | 0, L => L
  | n + 1, L => iterN f n (f L)
def sp_is_triple (Γ : Ctx) : PSp := fun xs M Q _ => ∃ z t, xs = [tP t, szP z] ∧ Q (.bl (decide (inZ z t))) M
def sp_all_triples (Γ : Ctx) : PSp := fun xs M Q _ => ∃ z, xs = [szP z] ∧ BxOk z ∧ Q (.lst ((trL z).map tP)) M
def sp_whole_rule (Γ : Ctx) : PSp := fun xs M Q _ => ∃ z R, xs = [szP z, .dct (dP R)] ∧ BxOk z ∧ ChOk z R ∧ Q (.dct (dP (full z R))) M
def sp_gathered (Γ : Ctx) : PSp := fun xs M Q _ => ∃ L, xs = [lP L] ∧ L.length < 100000 ∧ Q (.lst ((gat L).map tP)) M
def sp_stripped (Γ : Ctx) : PSp := fun xs M Q _ => ∃ L, xs = [.lst (L.map tP)] ∧ L.length < 100000 ∧ Q (lP (strip L)) M
def sp_Parts_init (Γ : Ctx) : PSp := fun xs M Q _ => ∃ p z R, xs = [.ptr p, szP z, .dct (dP R)] ∧ BxOk z ∧ ChOk z R ∧ M p = some (.obj Γ.Parts []) ∧ Q .non (M.put p (.obj Γ.Parts (partsF z (full z R))))
def sp_Parts_step (Γ : Ctx) : PSp := fun xs M Q _ => ∃ z R L, xs = [partsP Γ z R, lP L] ∧ FOk z R ∧ BxOk z ∧ inL z L ∧ L.length < 10000 ∧ Q (lP (stepL R L)) M
def sp_Parts_back (Γ : Ctx) : PSp := fun xs M Q _ => ∃ z R L, xs = [partsP Γ z R, lP L] ∧ FOk z R ∧ BxOk z ∧ inL z L ∧ L.length < 10000 ∧ Q (lP (bakL R L)) M
def sp_Parts_run (Γ : Ctx) : PSp := fun xs M Q _ => ∃ z R L, ∃ n : Nat, xs = [partsP Γ z R, lP L, .int (n : Int)] ∧ FOk z R ∧ BxOk z ∧ inL z L ∧ L.length + 2 * n < 10000 ∧ Q (lP (iterN (stepL R) n L)) M
def sp_Parts_run_back (Γ : Ctx) : PSp := fun xs M Q _ => ∃ z R L, ∃ n : Nat, xs = [partsP Γ z R, lP L, .int (n : Int)] ∧ FOk z R ∧ BxOk z ∧ inL z L ∧ L.length + 2 * n < 10000 ∧ Q (lP (iterN (bakL R) n L)) M
def padL (n : Nat) (L : List T3) : List T3 := List.replicate n q0 ++ L ++ List.replicate n q0
def growL (R : Tb) (L : List T3) : List T3 := (gat L).map (rl R)
def nextL (R : Tb) (L : List T3) : List T3 := ((gat L).drop 1).dropLast.map (rl R)
def prevL (R : Tb) (L : List T3) : List T3 := ((gat (L.map (rl (swp R)))).drop 1).dropLast
def hdI (m s k : Int) : Int := m * (s + 1) + k
def tri (v : Int) : T3 := (0, v, 0)
def l0 (xs : List Int) : Int := (xs.head?).getD 0
def lnL (m q : Int) (t : Tp) : List T3 := (t.l.reverse ++ [hdI m q t.a] ++ t.r).map tri
def hdsL (m : Int) (L : List T3) : List Nat := (List.range L.length).filter fun i => decide (m ≤ ((L[i]?).getD q0).2.1)
def hdPl (m : Int) (L : List T3) : Option Nat := match hdsL m L with | [i] => some i | _ => none
def mdL (L : List T3) : List Int := L.map fun t => t.2.1
def tpAt (m : Int) (L : List T3) (i : Nat) : Tp := ⟨trimL ((mdL L).take i).reverse, (((mdL L)[i]?).getD 0) % m, trimL ((mdL L).drop (i + 1))⟩
def qAt (m : Int) (L : List T3) (i : Nat) : Int := (((mdL L)[i]?).getD 0) / m - 1
def sp_headed (Γ : Ctx) : PSp := fun xs M Q _ => ∃ m s k : Int, xs = [.int m, .int s, .int k] ∧ (0 ≤ m ∧ m ≤ 400) ∧ Q (.int (hdI m s k)) M
def sp_trimmed (Γ : Ctx) : PSp := fun xs M Q _ => ∃ ns, xs = [lI ns] ∧ ns.length ≤ 100000 ∧ Q (tI (trimL ns)) M
def oNt : Option Nat → PV
  | some i => .int i
  | none => .non
def sp_head_place (Γ : Ctx) : PSp := fun xs M Q _ => ∃ m L, xs = [.int m, lP L] ∧ L.length ≤ 100000 ∧ Q (oNt (hdPl m L)) M
def sp_tape_at (Γ : Ctx) : PSp := fun xs M Q _ => ∃ m L, ∃ i : Nat, xs = [.int m, lP L, .int i] ∧ (0 < m ∧ m ≤ 400) ∧ i < L.length ∧ L.length ≤ 100000 ∧ Q (.tup [.int (qAt m L i), tI (tpAt m L i).l, .int (tpAt m L i).a, tI (tpAt m L i).r]) M
def sp_is_sizes (Γ : Ctx) : PSp := fun xs M Q _ => ∃ a b c : Int, xs = [.tup [.int a, .int b, .int c]] ∧ (1 ≤ a ∧ a ≤ 20000) ∧ (1 ≤ b ∧ b ≤ 3000000) ∧ (1 ≤ c ∧ c ≤ 6000) ∧ Q (.bl (decide (a * b * c ≤ 40000))) M
def szF (m s : Int) : Sz := ⟨((s + 1) * (s * m + 1)).toNat, (m * (s + 1)).toNat, (s + 1).toNat⟩
def qtF (m s : Int) (k : Nat) : Tb := (tri k, tri k) :: (((List.range (s * m).toNat).map fun (j : Nat) => (((0, (k : Int), 1 + (j : Int)), (1 + (j : Int), (k : Int), 0)) : T3 × T3)) ++ (List.range s.toNat).map fun (q : Nat) => ((((q : Int) + 1, (k : Int), 0), tri (hdI m q k)) : T3 × T3))
def memI (m q k : Int) : Int := 1 + m * q + k
def rowFl (m s q k : Int) : TRow → Tb
  | none => []
  | some (w, mv, t) => if mv = 1 then [(tri (hdI m q k), (memI m q k, w, t + 1))] else
      (tri (hdI m q k), ((t + 1) * (s * m + 1) + memI m q k, w, 0)) :: (List.range m.toNat).map fun (j : Nat) => (((0, (j : Int), (t + 1) * (s * m + 1) + memI m q k), (memI m q k, hdI m t j, 0)) : T3 × T3)
def rowsFl (m s : Int) (rows : List TRow) (q : Nat) : Tb := ((List.range m.toNat).map fun (k : Nat) => rowFl m s q k (rowAt rows m q k)).flatten
def prF (m s : Int) (rows : List TRow) : Tb := ((List.range m.toNat).map (qtF m s)).flatten ++ ((List.range s.toNat).map (rowsFl m s rows)).flatten
/-! the stair from which what is forgotten flies away -/
def flyF (Γ : Ctx) (m s : Int) (rows : List TRow) : List (Str × PV) := [(Str.ofString "upper", tapeP Γ m s rows), (Str.ofString "lower", partsP Γ (szF m s) (full (szF m s) (prF m s rows)))]
def flyP (Γ : Ctx) (m s : Int) (rows : List TRow) : PV := .obj Γ.FlyStair (flyF Γ m s rows)
def prodF (m s : Int) : Int := (s + 1) * (s * m + 1) * (m * (s + 1)) * (s + 1)
def sp_memory_of (Γ : Ctx) : PSp := fun xs M Q _ => ∃ m q k : Int, xs = [.int m, .int q, .int k] ∧ (0 ≤ m ∧ m ≤ 400) ∧ Q (.int (memI m q k)) M
def sp_many_memories (Γ : Ctx) : PSp := fun xs M Q _ => ∃ m s rows, xs = [tapeP Γ m s rows] ∧ (0 ≤ m ∧ m ≤ 400) ∧ Q (.int (s * m + 1)) M
def prP (p : T3 × T3) : PV := .tup [tP p.1, tP p.2]
def sp_quiet_changes (Γ : Ctx) : PSp := fun xs M Q _ => ∃ m s rows, xs = [tapeP Γ m s rows] ∧ Mach m s rows ∧ ∀ p, M p = none → Q (.ptr p) (M.put p (.lst ((((List.range m.toNat).map (qtF m s)).flatten).map prP)))
def sp_row_changes (Γ : Ctx) : PSp := fun xs M Q _ => ∃ m s rows, ∃ q k : Nat, xs = [tapeP Γ m s rows, .int q, .int k] ∧ Mach m s rows ∧ (q : Int) < s ∧ (k : Int) < m ∧ Q (.lst ((rowFl m s q k (rowAt rows m q k)).map prP)) M
def sp_line_changes (Γ : Ctx) : PSp := fun xs M Q _ => ∃ m s rows, xs = [tapeP Γ m s rows] ∧ Mach m s rows ∧ ((prF m s rows).map (·.1)).Nodup ∧ Q (.dct (dP (prF m s rows))) M
def sp_FlyStair_init (Γ : Ctx) : PSp := fun xs M Q E => ∃ p m s rows, xs = [.ptr p, tapeP Γ m s rows] ∧ Mach m s rows ∧ M p = some (.obj Γ.FlyStair []) ∧
  ((40000 < prodF m s ∧ E Γ.BadParts [] M) ∨ (prodF m s ≤ 40000 ∧ Q .non (M.put p (.obj Γ.FlyStair (flyF Γ m s rows)))))
def upF (m s : Int) (L : List T3) : Option Cf := match hdPl m L with
  | none => none
  | some i => if L.any (fun t => decide (t.2.2 ≠ 0)) then none else if L.any (fun t => decide (s * m + 1 ≤ t.1)) then none else if (L.drop (i + 1)).any (fun t => decide (t.1 ≠ 0)) then none else some ⟨qAt m L i, (tpAt m L i).l, (tpAt m L i).a, (tpAt m L i).r⟩
def sp_FlyStair_up (Γ : Ctx) : PSp := fun xs M Q _ => ∃ m s rows L, xs = [flyP Γ m s rows, lP L] ∧ Mach m s rows ∧ L.length ≤ 100000 ∧ Q (optP (upF m s L)) M
def memF (m s : Int) (L : List T3) : List (Int × Int) := ((L.reverse.map fun t => t.1 % (s * m + 1)).filter fun e => decide (e ≠ 0)).map fun e => ((e - 1) / m, (e - 1) % m)
def ppP (p : Int × Int) : PV := .tup [.int p.1, .int p.2]
def sp_FlyStair_memories (Γ : Ctx) : PSp := fun xs M Q _ => ∃ m s rows L, xs = [flyP Γ m s rows, lP L] ∧ Mach m s rows ∧ L.length ≤ 100000 ∧ Q (.lst ((memF m s L).map ppP)) M
/-! the law's own -/
def sp_law_cell (Γ : Ctx) : PSp := fun xs M Q _ => ∃ (zs : List Int) (k : Nat), xs = [.scr (zs.map .int), .int k] ∧ zs.length ≤ 63 ∧ ∀ c, Q (.int c) M
def sp_law_mixed (Γ : Ctx) : PSp := fun xs M Q _ => ∃ (c : Int) (k : Nat), xs = [.int c, .int k] ∧ k ≤ 1000 ∧ ∀ v, 0 ≤ v → Q (.int v) M
def sp_law_digits (Γ : Ctx) : PSp := fun xs M Q _ => ∃ (c : Int) (n : Nat) (many : Int), xs = [.int c, .int n, .int many] ∧ n ≤ 1000 ∧ (1 ≤ many ∧ many ≤ 100000) ∧ ∀ ds : List Int, ds.length = n → (∀ d ∈ ds, 0 ≤ d ∧ d < many) → Q (lI ds) M
def sp_law_trim (Γ : Ctx) : PSp := fun xs M Q _ => ∃ ns, (xs = [tI ns] ∨ xs = [lI ns]) ∧ ns.length ≤ 100000 ∧ Q (tI (trimL ns)) M
def sp_law_tape (Γ : Ctx) : PSp := fun xs M Q _ => ∃ ds S, xs = [lI ds, .int S] ∧ ds.length ≤ 100 ∧ 2 + 3 * S.toNat ≤ ds.length ∧ (∀ d ∈ ds, 0 ≤ d) ∧ (1 ≤ S ∧ S ≤ 12) ∧ ∀ m s rows M', (2 ≤ m ∧ m ≤ 3) → s ≤ S → Mach m s rows → Q (tapeP Γ m s rows) M'
def sp_law_upper (Γ : Ctx) : PSp := fun xs M Q _ => ∃ m s rows, ∃ c : Int, xs = [tapeP Γ m s rows, .int c] ∧ Mach m s rows ∧ ∀ cf, CfOk m s cf → cf.l.length ≤ 3 → cf.r.length ≤ 3 → Q (cfP cf) M
def sp_law_line (Γ : Ctx) : PSp := fun xs M Q _ => ∃ m s rows c, xs = [tapeP Γ m s rows, cfP c] ∧ (0 ≤ m ∧ m ≤ 400) ∧ c.l.length ≤ 10000 ∧ c.r.length ≤ 10000 ∧ Q (lP (lnL m c.q ⟨c.l, c.a, c.r⟩)) M
def pastsF (m s : Int) (rows : List TRow) (L : List T3) : List (Option Cf) := (List.range ((memF m s L).length + 1)).map fun k => upF m s (iterN (bakL (full (szF m s) (prF m s rows))) (2 * k) L)
def sp_past (Γ : Ctx) : PSp := fun xs M Q E => ∃ m s rows L, xs = [flyP Γ m s rows, lP L] ∧ Mach m s rows ∧ prodF m s ≤ 40000 ∧ inL (szF m s) L ∧ L.length ≤ 100 ∧ (none ∉ pastsF m s rows L → Q (.lst ((pastsF m s rows L).map optP)) M) ∧ (none ∈ pastsF m s rows L → ∀ M', E Γ.BadParts [] M')
def sp_law_past (Γ : Ctx) : PSp := fun xs M Q _ => ∃ m s rows L, xs = [flyP Γ m s rows, lP L] ∧ Mach m s rows ∧ prodF m s ≤ 40000 ∧ inL (szF m s) L ∧ L.length ≤ 100 ∧ Q (.lst ((pastsF m s rows L).map optP)) M
def sp_law_asked (Γ : Ctx) : PSp := fun xs M Q _ => ∃ m s rows L, xs = [flyP Γ m s rows, lP L] ∧ Mach m s rows ∧ prodF m s ≤ 40000 ∧ inL (szF m s) L ∧ L.length ≤ 100 ∧ (none ∉ pastsF m s rows L → ∀ M', Q (.lst ((pastsF m s rows L).map optP)) M') ∧ (none ∈ pastsF m s rows L → ∀ M', Q (.str (PySem.Str.ofString "refused")) M')
def sp_top : PSp := fun xs M Q _ => ∃ (zs : List Int), xs = [.scr (zs.map .int)] ∧ zs.length ≤ 63 ∧ ∀ M', Q (.bl true) M'
def sp_law (_ : Ctx) : PSp := sp_top
end My
set_option Elab.async false
set_option linter.all false
set_option maxRecDepth 100000
namespace My
open PySem PySem.Spec PyProof.Rows L2 PL
def t_is_whole (Γ : Ctx) : PTS := (pRet (pAndV (fun E σ M Q => (pVar 0) E σ M fun x M1 => kIsi "int" x M1 Q) (pNotV (fun E σ M Q => (pVar 0) E σ M fun x M1 => kIsi "bool" x M1 Q))))
theorem d_is_whole {P : Program} {w : World} {K : PySem.W.Frag} {mg : Str → Option Value} {base : Heap} {Γ : Ctx} (T : Txt K mg Γ)  {f : Addr} {cdv : Value} {A : Around} {outer : List Env} {s : Shared} {H : Hp} {E : XK}
    (hr : Room 0 (A.deeper (envOfC "is_whole" (defScope s_is_whole) s.heap.objs.size f cdv))) :
    LSs (cxOf (L2.CX P w) P w K mg base ["value"] "is_whole" (defScope s_is_whole) f cdv A outer s H E) (defBody s_is_whole) (t_is_whole Γ) :=
  (LSs.one (LS.ret (PL.LE.and (PL.LE.isi (Ts := "int") rfl T.b_isinstance rfl T.b_int (by decide +kernel) (PL.LE.var 0)) (PL.LE.one (PL.LE.not (PL.LE.isi (Ts := "bool") rfl T.b_isinstance rfl T.b_bool (by decide +kernel) (PL.LE.var 0)))))))
def t_is_number (Γ : Ctx) : PTS := (pRet (pAndV (pCall (sp_is_whole Γ) (pCons (pVar 0) pNil)) (pChain (fun i j => decide (i ≤ j)) (fun i j => decide (i ≤ j)) (pVar 1) (pVar 0) (pVar 2))))
theorem d_is_number {P : Program} {w : World} {K : PySem.W.Frag} {mg : Str → Option Value} {base : Heap} {Γ : Ctx} (T : Txt K mg Γ) (G_is_whole : GFn P w K mg base (PySem.Str.ofString "is_whole") 1 ["value"] (sp_is_whole Γ)) {f : Addr} {cdv : Value} {A : Around} {outer : List Env} {s : Shared} {H : Hp} {E : XK}
    (hr : Room 1 (A.deeper (envOfC "is_number" (defScope s_is_number) s.heap.objs.size f cdv))) :
    LSs (cxOf (L2.CX P w) P w K mg base ["value", "low", "high"] "is_number" (defScope s_is_number) f cdv A outer s H E) (defBody s_is_number) (t_is_number Γ) :=
  (LSs.one (LS.ret (PL.LE.and (PL.LE.call G_is_whole (hr.mono (by decide)) rfl (LA.cons (PL.LE.var 0) LA.nil)) (PL.LE.one (PL.LE.lele (PL.LE.var 1) (PL.LE.var 0) (PL.LE.var 2))))))
def t_are_numbers (Γ : Ctx) : PTS := (pSeq (pIfS (pNot (pTest (fun E σ M Q => (pVar 0) E σ M fun x M1 => kIsi "tuple" x M1 Q))) (pRet (pC (.bl false))) pNext) (pRet (pCallB (on1 kAll) (pCons (pLc (piT (pVar 0)) 3 pYes (pCall (sp_is_number Γ) (pCons (pVar 3) (pCons (pVar 1) (pCons (pVar 2) pNil))))) pNil))))
theorem d_are_numbers {P : Program} {w : World} {K : PySem.W.Frag} {mg : Str → Option Value} {base : Heap} {Γ : Ctx} (T : Txt K mg Γ) (G_is_number : GFn P w K mg base (PySem.Str.ofString "is_number") 2 ["value", "low", "high"] (sp_is_number Γ)) {f : Addr} {cdv : Value} {A : Around} {outer : List Env} {s : Shared} {H : Hp} {E : XK}
    (hr : Room 2 (A.deeper (envOfC "are_numbers" (defScope s_are_numbers) s.heap.objs.size f cdv))) :
    LSs (cxOf (L2.CX P w) P w K mg base ["value", "low", "high", "item"] "are_numbers" (defScope s_are_numbers) f cdv A outer s H E) (defBody s_are_numbers) (t_are_numbers Γ) :=
  (LSs.cons (LS.ite (PL.LT.not (PL.LT.val (PL.LE.isi (Ts := "tuple") rfl T.b_isinstance rfl T.b_tuple (by decide +kernel) (PL.LE.var 0)))) (LSs.one (LS.ret PL.LE.bl)) LSs.nil) (LSs.one (LS.ret (PL.LE.all rfl rfl T.b_all (LA.cons (PL.LE.lc rfl sc_are_numbers.nd (LI.tup (PL.LE.var 0)) (blkOk_by (N := ["value", "low", "high", "item"]) (sc := defScope s_are_numbers) (by decide +kernel)) (fun _ _ _ _ _ => pg_name (i := 3) sc_are_numbers.nd rfl (Or.inl rfl)) (fun _ _ _ _ _ => LTs.nil) (fun _ _ _ _ _ => (PL.LE.call G_is_number (hr.mono (by decide)) rfl (LA.cons (PL.LE.var 3) (LA.cons (PL.LE.var 1) (LA.cons (PL.LE.var 2) LA.nil)))))) LA.nil)))))
def c_trimmed_1 (Γ : Ctx) := ((pAnd (pTest (pBin oGt (pVar 1) (pC (.int 0)))) (pTest (pBin oEq (pBin oIx (pVar 0) (pBin oSub (pVar 1) (pC (.int 1)))) (pC (.int 0))))) : PTT)
def b_trimmed_1 (Γ : Ctx) := ((pAug 1 oSub (pC (.int 1))) : PTS)
def t_trimmed (Γ : Ctx) : PTS := (pSeq (pSet 1 (pCallB (on1 kLen) (pCons (pVar 0) pNil))) (pSeq (pWhile (c_trimmed_1 Γ) (b_trimmed_1 Γ)) (pRet (pCallB (on1 kTup) (pCons (pSl (pVar 0) pNoPart (pPart (pVar 1))) pNil)))))
theorem d_trimmed {P : Program} {w : World} {K : PySem.W.Frag} {mg : Str → Option Value} {base : Heap} {Γ : Ctx} (T : Txt K mg Γ)  {f : Addr} {cdv : Value} {A : Around} {outer : List Env} {s : Shared} {H : Hp} {E : XK}
    (hr : Room 0 (A.deeper (envOfC "trimmed" (defScope s_trimmed) s.heap.objs.size f cdv))) :
    LSs (cxOf (L2.CX P w) P w K mg base ["marks", "end"] "trimmed" (defScope s_trimmed) f cdv A outer s H E) (defBody s_trimmed) (t_trimmed Γ) :=
  (LSs.cons (LS.set 1 sc_trimmed.nd (PL.LE.len rfl T.b_len (LA.cons (PL.LE.var 0) LA.nil))) (LSs.cons (LS.while (passes_of rfl) (LW.lt (LW.and (PL.LT.gt (PL.LE.var 1) PL.LE.int) (LW.and1 (PL.LT.eq hr.units (PL.LE.ix (PL.LE.var 0) (PL.LE.sub (PL.LE.var 1) PL.LE.int)) PL.LE.int)))) (LSs.one (LS.augSub 1 sc_trimmed.nd PL.LE.int))) (LSs.one (LS.ret (PL.LE.tupOf rfl T.b_tuple (LA.cons (PL.LE.slice (PL.LE.var 0) LO.none (LO.some (PL.LE.var 1))) LA.nil))))))
def t_is_row (Γ : Ctx) : PTS := (pSeq (pIfS (pTIsN (pVar 0)) (pRet (pC (.bl true))) pNext) (pSeq (pIfS (pOr (pNot (pTest (fun E σ M Q => (pVar 0) E σ M fun x M1 => kIsi "tuple" x M1 Q))) (pTest (pBin oNe (pCallB (on1 kLen) (pCons (pVar 0) pNil)) (pC (.int 3))))) (pRet (pC (.bl false))) pNext) (pSeq (pAsg (pVar 0) (gpTup 3 (gpCons (gpName 3) (gpCons (gpName 4) (gpCons (gpName 5) gpNil))))) (pSeq (pIfS (pOr (pNot (pTest (pCall (sp_is_number Γ) (pCons (pVar 4) (pCons (pNeg (pC (.int 1))) (pCons (pC (.int 1)) pNil)))))) (pTest (pBin oEq (pVar 4) (pC (.int 0))))) (pRet (pC (.bl false))) pNext) (pRet (pAndV (pCall (sp_is_number Γ) (pCons (pVar 3) (pCons (pC (.int 0)) (pCons (pBin oSub (pVar 1) (pC (.int 1))) pNil)))) (pCall (sp_is_number Γ) (pCons (pVar 5) (pCons (pC (.int 0)) (pCons (pBin oSub (pVar 2) (pC (.int 1))) pNil))))))))))
theorem d_is_row {P : Program} {w : World} {K : PySem.W.Frag} {mg : Str → Option Value} {base : Heap} {Γ : Ctx} (T : Txt K mg Γ) (G_is_number : GFn P w K mg base (PySem.Str.ofString "is_number") 2 ["value", "low", "high"] (sp_is_number Γ)) {f : Addr} {cdv : Value} {A : Around} {outer : List Env} {s : Shared} {H : Hp} {E : XK}
    (hr : Room 2 (A.deeper (envOfC "is_row" (defScope s_is_row) s.heap.objs.size f cdv))) :
    LSs (cxOf (L2.CX P w) P w K mg base ["row", "marks", "states", "mark", "move", "state"] "is_row" (defScope s_is_row) f cdv A outer s H E) (defBody s_is_row) (t_is_row Γ) :=
  (LSs.cons (LS.ite (PL.LT.isN (PL.LE.var 0)) (LSs.one (LS.ret PL.LE.bl)) LSs.nil) (LSs.cons (LS.ite (LW.lt (LW.or (PL.LT.not (PL.LT.val (PL.LE.isi (Ts := "tuple") rfl T.b_isinstance rfl T.b_tuple (by decide +kernel) (PL.LE.var 0)))) (LW.or1 (PL.LT.ne hr.units (PL.LE.len rfl T.b_len (LA.cons (PL.LE.var 0) LA.nil)) PL.LE.int)))) (LSs.one (LS.ret PL.LE.bl)) LSs.nil) (LSs.cons (LS.asg (PL.LE.var 0) (LG.tup rfl (LGs.cons (LG.name 3 sc_is_row.nd) (LGs.cons (LG.name 4 sc_is_row.nd) (LGs.cons (LG.name 5 sc_is_row.nd) LGs.nil))))) (LSs.cons (LS.ite (LW.lt (LW.or (PL.LT.not (PL.LT.val (PL.LE.call G_is_number (hr.mono (by decide)) rfl (LA.cons (PL.LE.var 4) (LA.cons (PL.LE.neg PL.LE.int) (LA.cons PL.LE.int LA.nil)))))) (LW.or1 (PL.LT.eq hr.units (PL.LE.var 4) PL.LE.int)))) (LSs.one (LS.ret PL.LE.bl)) LSs.nil) (LSs.one (LS.ret (PL.LE.and (PL.LE.call G_is_number (hr.mono (by decide)) rfl (LA.cons (PL.LE.var 3) (LA.cons PL.LE.int (LA.cons (PL.LE.sub (PL.LE.var 1) PL.LE.int) LA.nil)))) (PL.LE.one (PL.LE.call G_is_number (hr.mono (by decide)) rfl (LA.cons (PL.LE.var 5) (LA.cons PL.LE.int (LA.cons (PL.LE.sub (PL.LE.var 2) PL.LE.int) LA.nil))))))))))))
def b_Tape_init_1 (Γ : Ctx) := ((pIfS (pNot (pTest (pCall (sp_is_row Γ) (pCons (pVar 4) (pCons (pVar 1) (pCons (pVar 2) pNil)))))) (pRaise Γ.BadMachine) pNext) : PTS)
def t_Tape_init (Γ : Ctx) : PTS := (pSeq (pIfS (pNot (pTest (pCall (sp_is_number Γ) (pCons (pVar 1) (pCons (pC (.int 2)) (pCons (pC (.int 8)) pNil)))))) (pRaise Γ.BadMachine) pNext) (pSeq (pIfS (pNot (pTest (pCall (sp_is_number Γ) (pCons (pVar 2) (pCons (pC (.int 1)) (pCons (pC (.int 40)) pNil)))))) (pRaise Γ.BadMachine) pNext) (pSeq (pIfS (pOr (pNot (pTest (fun E σ M Q => (pVar 3) E σ M fun x M1 => kIsi "list" x M1 Q))) (pTest (pBin oNe (pCallB (on1 kLen) (pCons (pVar 3) pNil)) (pBin oMul (pVar 1) (pVar 2))))) (pRaise Γ.BadMachine) pNext) (pSeq (pForM (pVar 3) (gpName 4) (b_Tape_init_1 Γ)) (pSeq (pFldS Γ.Tape (PySem.Str.ofString "marks") (pVar 0) (pVar 1)) (pSeq (pFldS Γ.Tape (PySem.Str.ofString "states") (pVar 0) (pVar 2)) (pFldS Γ.Tape (PySem.Str.ofString "_rows") (pVar 0) (pCallB (on1 kList) (pCons (pVar 3) pNil)))))))))
theorem d_Tape_init {P : Program} {w : World} {K : PySem.W.Frag} {mg : Str → Option Value} {base : Heap} {Γ : Ctx} (T : Txt K mg Γ) (G_is_number : GFn P w K mg base (PySem.Str.ofString "is_number") 2 ["value", "low", "high"] (sp_is_number Γ)) (G_is_row : GFn P w K mg base (PySem.Str.ofString "is_row") 3 ["row", "marks", "states"] (sp_is_row Γ)) {f : Addr} {cdv : Value} {A : Around} {outer : List Env} {s : Shared} {H : Hp} {E : XK}
    (hr : Room 3 (A.deeper (envOfC "Tape.__init__" (defScope s_Tape_init) s.heap.objs.size f cdv))) :
    LSs (cxOf (L2.CX P w) P w K mg base ["self", "marks", "states", "rows", "row"] "Tape.__init__" (defScope s_Tape_init) f cdv A outer s H E) (defBody s_Tape_init) (t_Tape_init Γ) :=
  (LSs.cons (LS.ite (PL.LT.not (PL.LT.val (PL.LE.call G_is_number (hr.mono (by decide)) rfl (LA.cons (PL.LE.var 1) (LA.cons PL.LE.int (LA.cons PL.LE.int LA.nil)))))) (LSs.one (LS.raise PySem.F.excBase_ValueError T.r_BadMachine.x T.g_BadMachine T.r_BadMachine.k (raises_own T.r_BadMachine.b T.r_BadMachine.t) rfl)) LSs.nil) (LSs.cons (LS.ite (PL.LT.not (PL.LT.val (PL.LE.call G_is_number (hr.mono (by decide)) rfl (LA.cons (PL.LE.var 2) (LA.cons PL.LE.int (LA.cons PL.LE.int LA.nil)))))) (LSs.one (LS.raise PySem.F.excBase_ValueError T.r_BadMachine.x T.g_BadMachine T.r_BadMachine.k (raises_own T.r_BadMachine.b T.r_BadMachine.t) rfl)) LSs.nil) (LSs.cons (LS.ite (LW.lt (LW.or (PL.LT.not (PL.LT.val (PL.LE.isi (Ts := "list") rfl T.b_isinstance rfl T.b_list (by decide +kernel) (PL.LE.var 3)))) (LW.or1 (PL.LT.ne hr.units (PL.LE.len rfl T.b_len (LA.cons (PL.LE.var 3) LA.nil)) (PL.LE.mul (PL.LE.var 1) (PL.LE.var 2)))))) (LSs.one (LS.raise PySem.F.excBase_ValueError T.r_BadMachine.x T.g_BadMachine T.r_BadMachine.k (raises_own T.r_BadMachine.b T.r_BadMachine.t) rfl)) LSs.nil) (LSs.cons (LS.forM (passes_of rfl) rfl (PL.LE.var 3) (LG.name 4 sc_Tape_init.nd) (LSs.one (LS.ite (PL.LT.not (PL.LT.val (PL.LE.call G_is_row (hr.mono (by decide)) rfl (LA.cons (PL.LE.var 4) (LA.cons (PL.LE.var 1) (LA.cons (PL.LE.var 2) LA.nil)))))) (LSs.one (LS.raise PySem.F.excBase_ValueError T.r_BadMachine.x T.g_BadMachine T.r_BadMachine.k (raises_own T.r_BadMachine.b T.r_BadMachine.t) rfl)) LSs.nil))) (LSs.cons (LS.fld T.cTape.cl T.cTape.n_marks (PL.LE.var 0) (PL.LE.var 1)) (LSs.cons (LS.fld T.cTape.cl T.cTape.n_states (PL.LE.var 0) (PL.LE.var 2)) (LSs.one (LS.fld T.cTape.cl T.cTape.n_rows (PL.LE.var 0) (PL.LE.list rfl T.b_list (LA.cons (PL.LE.var 3) LA.nil))))))))))
def t_Tape_row (Γ : Ctx) : PTS := (pSeq (pIfS (pOr (pNot (pTest (pCall (sp_is_number Γ) (pCons (pVar 1) (pCons (pC (.int 0)) (pCons (pBin oSub (pFld Γ.Tape (pVar 0) (PySem.Str.ofString "states")) (pC (.int 1))) pNil)))))) (pNot (pTest (pCall (sp_is_number Γ) (pCons (pVar 2) (pCons (pC (.int 0)) (pCons (pBin oSub (pFld Γ.Tape (pVar 0) (PySem.Str.ofString "marks")) (pC (.int 1))) pNil))))))) (pRaise Γ.BadMachine) pNext) (pRet (pBin oIx (pFld Γ.Tape (pVar 0) (PySem.Str.ofString "_rows")) (pBin oAdd (pBin oMul (pVar 1) (pFld Γ.Tape (pVar 0) (PySem.Str.ofString "marks"))) (pVar 2)))))
theorem d_Tape_row {P : Program} {w : World} {K : PySem.W.Frag} {mg : Str → Option Value} {base : Heap} {Γ : Ctx} (T : Txt K mg Γ) (G_is_number : GFn P w K mg base (PySem.Str.ofString "is_number") 2 ["value", "low", "high"] (sp_is_number Γ)) {f : Addr} {cdv : Value} {A : Around} {outer : List Env} {s : Shared} {H : Hp} {E : XK}
    (hr : Room 2 (A.deeper (envOfC "Tape.row" (defScope s_Tape_row) s.heap.objs.size f cdv))) :
    LSs (cxOf (L2.CX P w) P w K mg base ["self", "state", "mark"] "Tape.row" (defScope s_Tape_row) f cdv A outer s H E) (defBody s_Tape_row) (t_Tape_row Γ) :=
  (LSs.cons (LS.ite (LW.lt (LW.or (PL.LT.not (PL.LT.val (PL.LE.call G_is_number (hr.mono (by decide)) rfl (LA.cons (PL.LE.var 1) (LA.cons PL.LE.int (LA.cons (PL.LE.sub (PL.LE.fld T.cTape.cl T.cTape.n_states (PL.LE.var 0)) PL.LE.int) LA.nil)))))) (LW.or1 (PL.LT.not (PL.LT.val (PL.LE.call G_is_number (hr.mono (by decide)) rfl (LA.cons (PL.LE.var 2) (LA.cons PL.LE.int (LA.cons (PL.LE.sub (PL.LE.fld T.cTape.cl T.cTape.n_marks (PL.LE.var 0)) PL.LE.int) LA.nil))))))))) (LSs.one (LS.raise PySem.F.excBase_ValueError T.r_BadMachine.x T.g_BadMachine T.r_BadMachine.k (raises_own T.r_BadMachine.b T.r_BadMachine.t) rfl)) LSs.nil) (LSs.one (LS.ret (PL.LE.ix (PL.LE.fld T.cTape.cl T.cTape.n_rows (PL.LE.var 0)) (PL.LE.add (PL.LE.mul (PL.LE.var 1) (PL.LE.fld T.cTape.cl T.cTape.n_marks (PL.LE.var 0))) (PL.LE.var 2))))))
def t_headed (Γ : Ctx) : PTS := (pRet (pBin oAdd (pBin oMul (pVar 0) (pBin oAdd (pVar 1) (pC (.int 1)))) (pVar 2)))
theorem d_headed {P : Program} {w : World} {K : PySem.W.Frag} {mg : Str → Option Value} {base : Heap} {Γ : Ctx} (T : Txt K mg Γ)  {f : Addr} {cdv : Value} {A : Around} {outer : List Env} {s : Shared} {H : Hp} {E : XK}
    (hr : Room 0 (A.deeper (envOfC "headed" (defScope s_headed) s.heap.objs.size f cdv))) :
    LSs (cxOf (L2.CX P w) P w K mg base ["marks", "state", "mark"] "headed" (defScope s_headed) f cdv A outer s H E) (defBody s_headed) (t_headed Γ) :=
  (LSs.one (LS.ret (PL.LE.add (PL.LE.mul (PL.LE.var 0) (PL.LE.add (PL.LE.var 1) PL.LE.int)) (PL.LE.var 2))))
def t_head_place (Γ : Ctx) : PTS := (pSeq (pSet 2 (pLcT (piET (pVar 1)) [3, 4] (pTest (pBin oGe (pBin oIx (pVar 4) (pC (.int 1))) (pVar 0))) (pVar 3))) (pSeq (pIfS (pTest (pBin oNe (pCallB (on1 kLen) (pCons (pVar 2) pNil)) (pC (.int 1)))) (pRet (pC .non)) pNext) (pRet (pBin oIx (pVar 2) (pC (.int 0))))))
theorem d_head_place {P : Program} {w : World} {K : PySem.W.Frag} {mg : Str → Option Value} {base : Heap} {Γ : Ctx} (T : Txt K mg Γ)  {f : Addr} {cdv : Value} {A : Around} {outer : List Env} {s : Shared} {H : Hp} {E : XK}
    (hr : Room 0 (A.deeper (envOfC "head_place" (defScope s_head_place) s.heap.objs.size f cdv))) :
    LSs (cxOf (L2.CX P w) P w K mg base ["marks", "line", "places", "place", "cell"] "head_place" (defScope s_head_place) f cdv A outer s H E) (defBody s_head_place) (t_head_place Γ) :=
  (LSs.cons (LS.setLcT 2 (own := [("place", 3), ("cell", 4)]) (by decide) rfl rfl sc_head_place.nd rfl rfl (sw_true rfl rfl rfl (by decide +kernel)) (LI.enumT rfl T.b_enumerate (PL.LE.var 1)) (blkOk_by (N := ["marks", "line", "places", "place", "cell"]) (sc := defScope s_head_place) (own := [("place", 3), ("cell", 4)]) (by decide +kernel)) (fun _ _ _ _ _ => (pgs_cons (pg_name (i := 3) sc_head_place.nd rfl (Or.inl rfl)) (pgs_cons (pg_name (i := 4) sc_head_place.nd rfl (Or.inl rfl)) pgs_nil))) (fun _ _ _ _ _ => ⟨rfl, rfl⟩) (fun _ _ _ _ _ => (LTs.one (PL.LT.ge (PL.LE.ix (PL.LE.var 4) PL.LE.int) (PL.LE.var 0)))) (fun _ _ _ _ _ => (PL.LE.var 3))) (LSs.cons (LS.ite (PL.LT.ne hr.units (PL.LE.len rfl T.b_len (LA.cons (PL.LE.var 2) LA.nil)) PL.LE.int) (LSs.one (LS.ret PL.LE.non)) LSs.nil) (LSs.one (LS.ret (PL.LE.ix (PL.LE.var 2) PL.LE.int)))))
def t_tape_at (Γ : Ctx) : PTS := (pSeq (pSet 3 (pLc (piT (pVar 1)) 6 pYes (pBin oIx (pVar 6) (pC (.int 1))))) (pSeq (pAsg (pCallB (on2 kDivmod) (pCons (pBin oIx (pVar 3) (pVar 2)) (pCons (pVar 0) pNil))) (gpTup 2 (gpCons (gpName 4) (gpCons (gpName 5) gpNil)))) (pRet (pTup (pCons (pBin oSub (pVar 4) (pC (.int 1))) (pCons (pCall (sp_trimmed Γ) (pCons (pRev (pSl (pVar 3) pNoPart (pPart (pVar 2)))) pNil)) (pCons (pVar 5) (pCons (pCall (sp_trimmed Γ) (pCons (pSl (pVar 3) (pPart (pBin oAdd (pVar 2) (pC (.int 1)))) pNoPart) pNil)) pNil))))))))
theorem d_tape_at {P : Program} {w : World} {K : PySem.W.Frag} {mg : Str → Option Value} {base : Heap} {Γ : Ctx} (T : Txt K mg Γ) (G_trimmed : GFn P w K mg base (PySem.Str.ofString "trimmed") 1 ["marks"] (sp_trimmed Γ)) {f : Addr} {cdv : Value} {A : Around} {outer : List Env} {s : Shared} {H : Hp} {E : XK}
    (hr : Room 1 (A.deeper (envOfC "tape_at" (defScope s_tape_at) s.heap.objs.size f cdv))) :
    LSs (cxOf (L2.CX P w) P w K mg base ["marks", "line", "place", "middles", "higher", "mark", "cell"] "tape_at" (defScope s_tape_at) f cdv A outer s H E) (defBody s_tape_at) (t_tape_at Γ) :=
  (LSs.cons (LS.setLc 3 rfl sc_tape_at.nd rfl rfl (sw_true rfl rfl rfl (by decide +kernel)) (LI.tup (PL.LE.var 1)) (blkOk_by (N := ["marks", "line", "place", "middles", "higher", "mark", "cell"]) (sc := defScope s_tape_at) (by decide +kernel)) (fun _ _ _ _ _ => pg_name (i := 6) sc_tape_at.nd rfl (Or.inl rfl)) (fun _ _ _ _ _ => LTs.nil) (fun _ _ _ _ _ => (PL.LE.ix (PL.LE.var 6) PL.LE.int))) (LSs.cons (LS.asg (PL.LE.divmod rfl T.b_divmod (LA.cons (PL.LE.ix (PL.LE.var 3) (PL.LE.var 2)) (LA.cons (PL.LE.var 0) LA.nil))) (LG.tup rfl (LGs.cons (LG.name 4 sc_tape_at.nd) (LGs.cons (LG.name 5 sc_tape_at.nd) LGs.nil)))) (LSs.one (LS.ret (PL.LE.tup (LA.cons (PL.LE.sub (PL.LE.var 4) PL.LE.int) (LA.cons (PL.LE.call G_trimmed (hr.mono (by decide)) rfl (LA.cons (PL.LE.revL (PL.LE.slice (PL.LE.var 3) LO.none (LO.some (PL.LE.var 2)))) LA.nil)) (LA.cons (PL.LE.var 5) (LA.cons (PL.LE.call G_trimmed (hr.mono (by decide)) rfl (LA.cons (PL.LE.slice (PL.LE.var 3) (LO.some (PL.LE.add (PL.LE.var 2) PL.LE.int)) LO.none) LA.nil)) LA.nil)))))))))
def t_is_sizes (Γ : Ctx) : PTS := (pSeq (pIfS (pOr (pNot (pTest (pCall (sp_are_numbers Γ) (pCons (pVar 0) (pCons (pC (.int 1)) (pCons (pC (.int 40000)) pNil)))))) (pTest (pBin oNe (pCallB (on1 kLen) (pCons (pVar 0) pNil)) (pC (.int 3))))) (pRet (pC (.bl false))) pNext) (pRet (pBin oLe (pBin oMul (pBin oMul (pBin oIx (pVar 0) (pC (.int 0))) (pBin oIx (pVar 0) (pC (.int 1)))) (pBin oIx (pVar 0) (pC (.int 2)))) (pC (.int 40000)))))
theorem d_is_sizes {P : Program} {w : World} {K : PySem.W.Frag} {mg : Str → Option Value} {base : Heap} {Γ : Ctx} (T : Txt K mg Γ) (G_are_numbers : GFn P w K mg base (PySem.Str.ofString "are_numbers") 3 ["value", "low", "high"] (sp_are_numbers Γ)) {f : Addr} {cdv : Value} {A : Around} {outer : List Env} {s : Shared} {H : Hp} {E : XK}
    (hr : Room 3 (A.deeper (envOfC "is_sizes" (defScope s_is_sizes) s.heap.objs.size f cdv))) :
    LSs (cxOf (L2.CX P w) P w K mg base ["value"] "is_sizes" (defScope s_is_sizes) f cdv A outer s H E) (defBody s_is_sizes) (t_is_sizes Γ) :=
  (LSs.cons (LS.ite (LW.lt (LW.or (PL.LT.not (PL.LT.val (PL.LE.call G_are_numbers (hr.mono (by decide)) rfl (LA.cons (PL.LE.var 0) (LA.cons PL.LE.int (LA.cons (PL.LE.globI rfl T.m_MOST_CELLS) LA.nil)))))) (LW.or1 (PL.LT.ne hr.units (PL.LE.len rfl T.b_len (LA.cons (PL.LE.var 0) LA.nil)) PL.LE.int)))) (LSs.one (LS.ret PL.LE.bl)) LSs.nil) (LSs.one (LS.ret (PL.LE.le (PL.LE.mul (PL.LE.mul (PL.LE.ix (PL.LE.var 0) PL.LE.int) (PL.LE.ix (PL.LE.var 0) PL.LE.int)) (PL.LE.ix (PL.LE.var 0) PL.LE.int)) (PL.LE.globI rfl T.m_MOST_CELLS)))))
def t_is_triple (Γ : Ctx) : PTS := (pSeq (pIfS (pOr (pNot (pTest (fun E σ M Q => (pVar 0) E σ M fun x M1 => kIsi "tuple" x M1 Q))) (pTest (pBin oNe (pCallB (on1 kLen) (pCons (pVar 0) pNil)) (pC (.int 3))))) (pRet (pC (.bl false))) pNext) (pRet (pCallB (on1 kAll) (pCons (pLcT (piZ (pVar 0) (pVar 1)) [2, 3] pYes (pCall (sp_is_number Γ) (pCons (pVar 2) (pCons (pC (.int 0)) (pCons (pBin oSub (pVar 3) (pC (.int 1))) pNil))))) pNil))))
theorem d_is_triple {P : Program} {w : World} {K : PySem.W.Frag} {mg : Str → Option Value} {base : Heap} {Γ : Ctx} (T : Txt K mg Γ) (G_is_number : GFn P w K mg base (PySem.Str.ofString "is_number") 2 ["value", "low", "high"] (sp_is_number Γ)) {f : Addr} {cdv : Value} {A : Around} {outer : List Env} {s : Shared} {H : Hp} {E : XK}
    (hr : Room 2 (A.deeper (envOfC "is_triple" (defScope s_is_triple) s.heap.objs.size f cdv))) :
    LSs (cxOf (L2.CX P w) P w K mg base ["value", "sizes", "letter", "size"] "is_triple" (defScope s_is_triple) f cdv A outer s H E) (defBody s_is_triple) (t_is_triple Γ) :=
  (LSs.cons (LS.ite (LW.lt (LW.or (PL.LT.not (PL.LT.val (PL.LE.isi (Ts := "tuple") rfl T.b_isinstance rfl T.b_tuple (by decide +kernel) (PL.LE.var 0)))) (LW.or1 (PL.LT.ne hr.units (PL.LE.len rfl T.b_len (LA.cons (PL.LE.var 0) LA.nil)) PL.LE.int)))) (LSs.one (LS.ret PL.LE.bl)) LSs.nil) (LSs.one (LS.ret (PL.LE.all rfl rfl T.b_all (LA.cons (PL.LE.lcT (own := [("letter", 2), ("size", 3)]) (by decide) rfl rfl sc_is_triple.nd (LI.zip rfl T.b_zip (PL.LE.var 0) (PL.LE.var 1)) (blkOk_by (N := ["value", "sizes", "letter", "size"]) (sc := defScope s_is_triple) (own := [("letter", 2), ("size", 3)]) (by decide +kernel)) (fun _ _ _ _ _ => (pgs_cons (pg_name (i := 2) sc_is_triple.nd rfl (Or.inl rfl)) (pgs_cons (pg_name (i := 3) sc_is_triple.nd rfl (Or.inl rfl)) pgs_nil))) (fun _ _ _ _ _ => ⟨rfl, rfl⟩) (fun _ _ _ _ _ => LTs.nil) (fun _ _ _ _ _ => (PL.LE.call G_is_number (hr.mono (by decide)) rfl (LA.cons (PL.LE.var 2) (LA.cons PL.LE.int (LA.cons (PL.LE.sub (PL.LE.var 3) PL.LE.int) LA.nil)))))) LA.nil)))))
def t_all_triples (Γ : Ctx) : PTS := (pSeq (pAsg (pVar 0) (gpTup 3 (gpCons (gpName 1) (gpCons (gpName 2) (gpCons (gpName 3) gpNil))))) (pRet (pLc3 (piR1 (pVar 1)) 4 (piR1 (pVar 2)) 5 (piR1 (pVar 3)) 6 (pTup (pCons (pVar 4) (pCons (pVar 5) (pCons (pVar 6) pNil)))))))
theorem d_all_triples {P : Program} {w : World} {K : PySem.W.Frag} {mg : Str → Option Value} {base : Heap} {Γ : Ctx} (T : Txt K mg Γ)  {f : Addr} {cdv : Value} {A : Around} {outer : List Env} {s : Shared} {H : Hp} {E : XK}
    (hr : Room 0 (A.deeper (envOfC "all_triples" (defScope s_all_triples) s.heap.objs.size f cdv))) :
    LSs (cxOf (L2.CX P w) P w K mg base ["sizes", "first", "second", "third", "one", "two", "three"] "all_triples" (defScope s_all_triples) f cdv A outer s H E) (defBody s_all_triples) (t_all_triples Γ) :=
  (LSs.cons (LS.asg (PL.LE.var 0) (LG.tup rfl (LGs.cons (LG.name 1 sc_all_triples.nd) (LGs.cons (LG.name 2 sc_all_triples.nd) (LGs.cons (LG.name 3 sc_all_triples.nd) LGs.nil))))) (LSs.one (LS.ret (PL.LE.lc3 rfl sc_all_triples.nd (LI.rng1 rfl T.b_range (PL.LE.var 1)) (blkOk_by (N := ["sizes", "first", "second", "third", "one", "two", "three"]) (sc := defScope s_all_triples) (by decide +kernel)) (by decide) (fun _ _ _ _ _ => pg_name (i := 4) sc_all_triples.nd rfl (Or.inl rfl)) (fun _ _ _ _ _ => (LI.rng1 rfl T.b_range (PL.LE.var 2))) (fun _ _ _ _ _ => pg_name (i := 5) sc_all_triples.nd rfl (Or.inl rfl)) (fun _ _ _ _ _ => (LI.rng1 rfl T.b_range (PL.LE.var 3))) (fun _ _ _ _ _ => pg_name (i := 6) sc_all_triples.nd rfl (Or.inl rfl)) (fun _ _ _ _ _ => (PL.LE.tup (LA.cons (PL.LE.var 4) (LA.cons (PL.LE.var 5) (LA.cons (PL.LE.var 6) LA.nil)))))))))
def b_whole_rule_1 (Γ : Ctx) := ((pAsg (pVar 7) (gpSubD (pVar 3) (pVar 6))) : PTS)
def t_whole_rule (Γ : Ctx) : PTS := (pSeq (pSet 2 (pDcF (piD (pVar 1)) (stpN 6) pYes (pBin oIxD (pVar 1) (pVar 6)) (pC (.bl true)))) (pSeq (pIfS (pTest (pBin oLt (pCallB (on1 kLenD) (pCons (pVar 2) pNil)) (pCallB (on1 kLenD) (pCons (pVar 1) pNil)))) (pRaise Γ.BadParts) pNext) (pSeq (pSet 3 (pDc (piD (pVar 1)) (stpN 6) pYes (pVar 6) (pBin oIxD (pVar 1) (pVar 6)))) (pSeq (pSet 4 (pLc (piL (pCall (sp_all_triples Γ) (pCons (pRevT (pVar 0)) pNil))) 6 (pTest (pBin oNinD (pVar 6) (pVar 1))) (pVar 6))) (pSeq (pSet 5 (pLc (piL (pCall (sp_all_triples Γ) (pCons (pVar 0) pNil))) 7 (pTest (pBin oNinD (pVar 7) (pVar 2))) (pVar 7))) (pSeq (pFor (piZ (pVar 4) (pVar 5)) (gpTup 2 (gpCons (gpName 6) (gpCons (gpName 7) gpNil))) (b_whole_rule_1 Γ)) (pRetF (pVar 3))))))))
theorem d_whole_rule {P : Program} {w : World} {K : PySem.W.Frag} {mg : Str → Option Value} {base : Heap} {Γ : Ctx} (T : Txt K mg Γ) (G_all_triples : GFn P w K mg base (PySem.Str.ofString "all_triples") 1 ["sizes"] (sp_all_triples Γ)) {f : Addr} {cdv : Value} {A : Around} {outer : List Env} {s : Shared} {H : Hp} {E : XK}
    (hr : Room 1 (A.deeper (envOfC "whole_rule" (defScope s_whole_rule) s.heap.objs.size f cdv))) :
    LSs (cxOf (L2.CX P w) P w K mg base ["sizes", "changes", "given", "rule", "triples", "cells", "triple", "cell"] "whole_rule" (defScope s_whole_rule) f cdv A outer s H E) (defBody s_whole_rule) (t_whole_rule Γ) :=
  (LSs.cons (LS.set 2 sc_whole_rule.nd (PL.LE.dcF (Room.units65 hr) rfl sc_whole_rule.nd (LI.dct (PL.LE.var 1)) (blkOk_by (N := ["sizes", "changes", "given", "rule", "triples", "cells", "triple", "cell"]) (sc := defScope s_whole_rule) (own := [("triple", 6)]) (by decide +kernel)) (stores_name _ 6) (fun _ _ _ _ _ => pg_name (i := 6) sc_whole_rule.nd rfl (Or.inl rfl)) (fun _ _ _ _ _ => LTs.nil) (fun _ _ _ _ _ => (PL.LE.ixD (Room.units65 hr) (PL.LE.var 1) (PL.LE.var 6))) (fun _ _ _ _ _ => PL.LE.bl))) (LSs.cons (LS.ite (PL.LT.lt (PL.LE.lenD rfl T.b_len (LA.cons (PL.LE.var 2) LA.nil)) (PL.LE.lenD rfl T.b_len (LA.cons (PL.LE.var 1) LA.nil))) (LSs.one (LS.raise PySem.F.excBase_ValueError T.r_BadParts.x T.g_BadParts T.r_BadParts.k (raises_own T.r_BadParts.b T.r_BadParts.t) rfl)) LSs.nil) (LSs.cons (LS.setDc 3 rfl rfl (swD_true rfl rfl rfl (by decide +kernel)) (Room.units65 hr) rfl sc_whole_rule.nd (LI.dct (PL.LE.var 1)) (blkOk_by (N := ["sizes", "changes", "given", "rule", "triples", "cells", "triple", "cell"]) (sc := defScope s_whole_rule) (own := [("triple", 6)]) (by decide +kernel)) (stores_name _ 6) (fun _ _ _ _ _ => pg_name (i := 6) sc_whole_rule.nd rfl (Or.inl rfl)) (fun _ _ _ _ _ => LTs.nil) (fun _ _ _ _ _ => (PL.LE.var 6)) (fun _ _ _ _ _ => (PL.LE.ixD (Room.units65 hr) (PL.LE.var 1) (PL.LE.var 6)))) (LSs.cons (LS.setLc 4 rfl sc_whole_rule.nd rfl rfl (sw_true rfl rfl rfl (by decide +kernel)) (LI.list (PL.LE.call G_all_triples (hr.mono (by decide)) rfl (LA.cons (PL.LE.revT (PL.LE.var 0)) LA.nil))) (blkOk_by (N := ["sizes", "changes", "given", "rule", "triples", "cells", "triple", "cell"]) (sc := defScope s_whole_rule) (by decide +kernel)) (fun _ _ _ _ _ => pg_name (i := 6) sc_whole_rule.nd rfl (Or.inl rfl)) (fun _ _ _ _ _ => (LTs.one (PL.LT.ninD (Room.units65 hr) (PL.LE.var 6) (PL.LE.var 1)))) (fun _ _ _ _ _ => (PL.LE.var 6))) (LSs.cons (LS.setLc 5 rfl sc_whole_rule.nd rfl rfl (sw_true rfl rfl rfl (by decide +kernel)) (LI.list (PL.LE.call G_all_triples (hr.mono (by decide)) rfl (LA.cons (PL.LE.var 0) LA.nil))) (blkOk_by (N := ["sizes", "changes", "given", "rule", "triples", "cells", "triple", "cell"]) (sc := defScope s_whole_rule) (by decide +kernel)) (fun _ _ _ _ _ => pg_name (i := 7) sc_whole_rule.nd rfl (Or.inl rfl)) (fun _ _ _ _ _ => (LTs.one (PL.LT.ninD (Room.units65 hr) (PL.LE.var 7) (PL.LE.var 2)))) (fun _ _ _ _ _ => (PL.LE.var 7))) (LSs.cons (LS.for (passes_of rfl) rfl (LI.zip rfl T.b_zip (PL.LE.var 4) (PL.LE.var 5)) (LG.tup rfl (LGs.cons (LG.name 6 sc_whole_rule.nd) (LGs.cons (LG.name 7 sc_whole_rule.nd) LGs.nil))) (LSs.one (LS.asg (PL.LE.var 7) (LG.subD (Room.units65 hr) (PL.LE.var 3) (PL.LE.var 6))))) (LSs.one (LS.retF (PL.LE.var 3)))))))))
def t_gathered (Γ : Ctx) : PTS := (pSeq (pSet 1 (pBin oAdd (pBin oAdd (pTup (pCons (pC (gv_QUIET)) (pCons (pC (gv_QUIET)) pNil))) (pVar 0)) (pTup (pCons (pC (gv_QUIET)) (pCons (pC (gv_QUIET)) pNil))))) (pRet (pLcT (piZ3 (pVar 1) (pSl (pVar 1) (pPart (pC (.int 1))) pNoPart) (pSl (pVar 1) (pPart (pC (.int 2))) pNoPart)) [2, 3, 4] pYes (pTup (pCons (pBin oIx (pVar 2) (pC (.int 2))) (pCons (pBin oIx (pVar 3) (pC (.int 1))) (pCons (pBin oIx (pVar 4) (pC (.int 0))) pNil)))))))
theorem d_gathered {P : Program} {w : World} {K : PySem.W.Frag} {mg : Str → Option Value} {base : Heap} {Γ : Ctx} (T : Txt K mg Γ)  {f : Addr} {cdv : Value} {A : Around} {outer : List Env} {s : Shared} {H : Hp} {E : XK}
    (hr : Room 0 (A.deeper (envOfC "gathered" (defScope s_gathered) s.heap.objs.size f cdv))) :
    LSs (cxOf (L2.CX P w) P w K mg base ["line", "wide", "one", "two", "three"] "gathered" (defScope s_gathered) f cdv A outer s H E) (defBody s_gathered) (t_gathered Γ) :=
  (LSs.cons (LS.set 1 sc_gathered.nd (PL.LE.add (PL.LE.add (PL.LE.tup (LA.cons (PL.LE.globT rfl T.m_QUIET) (LA.cons (PL.LE.globT rfl T.m_QUIET) LA.nil))) (PL.LE.var 0)) (PL.LE.tup (LA.cons (PL.LE.globT rfl T.m_QUIET) (LA.cons (PL.LE.globT rfl T.m_QUIET) LA.nil))))) (LSs.one (LS.ret (PL.LE.lcT (own := [("one", 2), ("two", 3), ("three", 4)]) (by decide) rfl rfl sc_gathered.nd (LI.zip3 rfl T.b_zip (PL.LE.var 1) (PL.LE.slice (PL.LE.var 1) (LO.some PL.LE.int) LO.none) (PL.LE.slice (PL.LE.var 1) (LO.some PL.LE.int) LO.none)) (blkOk_by (N := ["line", "wide", "one", "two", "three"]) (sc := defScope s_gathered) (own := [("one", 2), ("two", 3), ("three", 4)]) (by decide +kernel)) (fun _ _ _ _ _ => (pgs_cons (pg_name (i := 2) sc_gathered.nd rfl (Or.inl rfl)) (pgs_cons (pg_name (i := 3) sc_gathered.nd rfl (Or.inl rfl)) (pgs_cons (pg_name (i := 4) sc_gathered.nd rfl (Or.inl rfl)) pgs_nil)))) (fun _ _ _ _ _ => ⟨rfl, rfl⟩) (fun _ _ _ _ _ => LTs.nil) (fun _ _ _ _ _ => (PL.LE.tup (LA.cons (PL.LE.ix (PL.LE.var 2) PL.LE.int) (LA.cons (PL.LE.ix (PL.LE.var 3) PL.LE.int) (LA.cons (PL.LE.ix (PL.LE.var 4) PL.LE.int) LA.nil)))))))))
def c_stripped_1 (Γ : Ctx) := ((pAnd (pTest (pBin oLt (pVar 1) (pVar 2))) (pTest (pBin oEq (pBin oIx (pVar 0) (pVar 1)) (pC (gv_QUIET))))) : PTT)
def b_stripped_1 (Γ : Ctx) := ((pAug 1 (oI0 fun i j => .int (i + j)) (pC (.int 1))) : PTS)
def c_stripped_2 (Γ : Ctx) := ((pAnd (pTest (pBin oLt (pVar 1) (pVar 2))) (pTest (pBin oEq (pBin oIx (pVar 0) (pBin oSub (pVar 2) (pC (.int 1)))) (pC (gv_QUIET))))) : PTT)
def b_stripped_2 (Γ : Ctx) := ((pAug 2 oSub (pC (.int 1))) : PTS)
def t_stripped (Γ : Ctx) : PTS := (pSeq (pSet 1 (pC (.int 0))) (pSeq (pSet 2 (pCallB (on1 kLen) (pCons (pVar 0) pNil))) (pSeq (pWhile (c_stripped_1 Γ) (b_stripped_1 Γ)) (pSeq (pWhile (c_stripped_2 Γ) (b_stripped_2 Γ)) (pRet (pCallB (on1 kTup) (pCons (pSl (pVar 0) (pPart (pVar 1)) (pPart (pVar 2))) pNil)))))))
theorem d_stripped {P : Program} {w : World} {K : PySem.W.Frag} {mg : Str → Option Value} {base : Heap} {Γ : Ctx} (T : Txt K mg Γ)  {f : Addr} {cdv : Value} {A : Around} {outer : List Env} {s : Shared} {H : Hp} {E : XK}
    (hr : Room 0 (A.deeper (envOfC "stripped" (defScope s_stripped) s.heap.objs.size f cdv))) :
    LSs (cxOf (L2.CX P w) P w K mg base ["cells", "low", "high"] "stripped" (defScope s_stripped) f cdv A outer s H E) (defBody s_stripped) (t_stripped Γ) :=
  (LSs.cons (LS.set 1 sc_stripped.nd PL.LE.int) (LSs.cons (LS.set 2 sc_stripped.nd (PL.LE.len rfl T.b_len (LA.cons (PL.LE.var 0) LA.nil))) (LSs.cons (LS.while (passes_of rfl) (LW.lt (LW.and (PL.LT.lt (PL.LE.var 1) (PL.LE.var 2)) (LW.and1 (PL.LT.eq hr.units (PL.LE.ix (PL.LE.var 0) (PL.LE.var 1)) (PL.LE.globT rfl T.m_QUIET))))) (LSs.one (LS.augAdd 1 sc_stripped.nd PL.LE.int))) (LSs.cons (LS.while (passes_of rfl) (LW.lt (LW.and (PL.LT.lt (PL.LE.var 1) (PL.LE.var 2)) (LW.and1 (PL.LT.eq hr.units (PL.LE.ix (PL.LE.var 0) (PL.LE.sub (PL.LE.var 2) PL.LE.int)) (PL.LE.globT rfl T.m_QUIET))))) (LSs.one (LS.augSub 2 sc_stripped.nd PL.LE.int))) (LSs.one (LS.ret (PL.LE.tupOf rfl T.b_tuple (LA.cons (PL.LE.slice (PL.LE.var 0) (LO.some (PL.LE.var 1)) (LO.some (PL.LE.var 2))) LA.nil))))))))
def b_Parts_init_1 (Γ : Ctx) := ((pIfS (pOr (pNot (pTest (pCall (sp_is_triple Γ) (pCons (pVar 3) (pCons (pRevT (pVar 1)) pNil))))) (pNot (pTest (pCall (sp_is_triple Γ) (pCons (pBin oIxD (pVar 2) (pVar 3)) (pCons (pVar 1) pNil)))))) (pRaise Γ.BadParts) pNext) : PTS)
def t_Parts_init (Γ : Ctx) : PTS := (pSeq (pIfS (pNot (pTest (pCall (sp_is_sizes Γ) (pCons (pVar 1) pNil)))) (pRaise Γ.BadParts) pNext) (pSeq (pIfS (pNot (pTest (pIsD (pVar 2)))) (pRaise Γ.BadParts) pNext) (pSeq (pFor (piD (pVar 2)) (gpName 3) (b_Parts_init_1 Γ)) (pSeq (pIfS (pTest (pBin oNe (pDGet1 (pVar 2) (pC (gv_QUIET))) (pC (gv_QUIET)))) (pRaise Γ.BadParts) pNext) (pSeq (pFldS Γ.Parts (PySem.Str.ofString "sizes") (pVar 0) (pVar 1)) (pSeq (pFldS Γ.Parts (PySem.Str.ofString "_rule") (pVar 0) (pCall (sp_whole_rule Γ) (pCons (pVar 1) (pCons (pVar 2) pNil)))) (pFldS Γ.Parts (PySem.Str.ofString "_source") (pVar 0) (pDcF (piD (pFld Γ.Parts (pVar 0) (PySem.Str.ofString "_rule"))) (stpN 3) pYes (pBin oIxD (pFld Γ.Parts (pVar 0) (PySem.Str.ofString "_rule")) (pVar 3)) (pVar 3)))))))))
theorem d_Parts_init {P : Program} {w : World} {K : PySem.W.Frag} {mg : Str → Option Value} {base : Heap} {Γ : Ctx} (T : Txt K mg Γ) (G_whole_rule : GFn P w K mg base (PySem.Str.ofString "whole_rule") 2 ["sizes", "changes"] (sp_whole_rule Γ)) (G_is_sizes : GFn P w K mg base (PySem.Str.ofString "is_sizes") 4 ["value"] (sp_is_sizes Γ)) (G_is_triple : GFn P w K mg base (PySem.Str.ofString "is_triple") 3 ["value", "sizes"] (sp_is_triple Γ)) {f : Addr} {cdv : Value} {A : Around} {outer : List Env} {s : Shared} {H : Hp} {E : XK}
    (hr : Room 4 (A.deeper (envOfC "Parts.__init__" (defScope s_Parts_init) s.heap.objs.size f cdv))) :
    LSs (cxOf (L2.CX P w) P w K mg base ["self", "sizes", "changes", "triple"] "Parts.__init__" (defScope s_Parts_init) f cdv A outer s H E) (defBody s_Parts_init) (t_Parts_init Γ) :=
  (LSs.cons (LS.ite (PL.LT.not (PL.LT.val (PL.LE.call G_is_sizes (hr.mono (by decide)) rfl (LA.cons (PL.LE.var 1) LA.nil)))) (LSs.one (LS.raise PySem.F.excBase_ValueError T.r_BadParts.x T.g_BadParts T.r_BadParts.k (raises_own T.r_BadParts.b T.r_BadParts.t) rfl)) LSs.nil) (LSs.cons (LS.ite (PL.LT.not (PL.LT.val (PL.LE.isD rfl T.b_isinstance rfl T.b_dict (by decide +kernel) (PL.LE.var 2)))) (LSs.one (LS.raise PySem.F.excBase_ValueError T.r_BadParts.x T.g_BadParts T.r_BadParts.k (raises_own T.r_BadParts.b T.r_BadParts.t) rfl)) LSs.nil) (LSs.cons (LS.for (passes_of rfl) rfl (LI.dct (PL.LE.var 2)) (LG.name 3 sc_Parts_init.nd) (LSs.one (LS.ite (LW.lt (LW.or (PL.LT.not (PL.LT.val (PL.LE.call G_is_triple (hr.mono (by decide)) rfl (LA.cons (PL.LE.var 3) (LA.cons (PL.LE.revT (PL.LE.var 1)) LA.nil))))) (LW.or1 (PL.LT.not (PL.LT.val (PL.LE.call G_is_triple (hr.mono (by decide)) rfl (LA.cons (PL.LE.ixD (Room.units65 hr) (PL.LE.var 2) (PL.LE.var 3)) (LA.cons (PL.LE.var 1) LA.nil)))))))) (LSs.one (LS.raise PySem.F.excBase_ValueError T.r_BadParts.x T.g_BadParts T.r_BadParts.k (raises_own T.r_BadParts.b T.r_BadParts.t) rfl)) LSs.nil))) (LSs.cons (LS.ite (PL.LT.ne hr.units (PL.LE.dget1 (Room.units65 hr) (PL.LE.var 2) (PL.LE.globT rfl T.m_QUIET) ⟨rfl, rfl, rfl, rfl⟩) (PL.LE.globT rfl T.m_QUIET)) (LSs.one (LS.raise PySem.F.excBase_ValueError T.r_BadParts.x T.g_BadParts T.r_BadParts.k (raises_own T.r_BadParts.b T.r_BadParts.t) rfl)) LSs.nil) (LSs.cons (LS.fld T.cParts.cl T.cParts.n_sizes (PL.LE.var 0) (PL.LE.var 1)) (LSs.cons (LS.fld T.cParts.cl T.cParts.n_rule (PL.LE.var 0) (PL.LE.call G_whole_rule (hr.mono (by decide)) rfl (LA.cons (PL.LE.var 1) (LA.cons (PL.LE.var 2) LA.nil)))) (LSs.one (LS.fld T.cParts.cl T.cParts.n_source (PL.LE.var 0) (PL.LE.dcF (Room.units65 hr) rfl sc_Parts_init.nd (LI.dct (PL.LE.fld T.cParts.cl T.cParts.n_rule (PL.LE.var 0))) (blkOk_by (N := ["self", "sizes", "changes", "triple"]) (sc := defScope s_Parts_init) (own := [("triple", 3)]) (by decide +kernel)) (stores_name _ 3) (fun _ _ _ _ _ => pg_name (i := 3) sc_Parts_init.nd rfl (Or.inl rfl)) (fun _ _ _ _ _ => LTs.nil) (fun _ _ _ _ _ => (PL.LE.ixD (Room.units65 hr) (PL.LE.fld T.cParts.cl T.cParts.n_rule (PL.LE.var 0)) (PL.LE.var 3))) (fun _ _ _ _ _ => (PL.LE.var 3)))))))))))
def t_Parts_step (Γ : Ctx) : PTS := (pRet (pCall (sp_stripped Γ) (pCons (pLc (piL (pCall (sp_gathered Γ) (pCons (pVar 1) pNil))) 2 pYes (pBin oIxD (pFld Γ.Parts (pVar 0) (PySem.Str.ofString "_rule")) (pVar 2))) pNil)))
theorem d_Parts_step {P : Program} {w : World} {K : PySem.W.Frag} {mg : Str → Option Value} {base : Heap} {Γ : Ctx} (T : Txt K mg Γ) (G_stripped : GFn P w K mg base (PySem.Str.ofString "stripped") 1 ["cells"] (sp_stripped Γ)) (G_gathered : GFn P w K mg base (PySem.Str.ofString "gathered") 1 ["line"] (sp_gathered Γ)) {f : Addr} {cdv : Value} {A : Around} {outer : List Env} {s : Shared} {H : Hp} {E : XK}
    (hr : Room 1 (A.deeper (envOfC "Parts.step" (defScope s_Parts_step) s.heap.objs.size f cdv))) :
    LSs (cxOf (L2.CX P w) P w K mg base ["self", "configuration", "triple"] "Parts.step" (defScope s_Parts_step) f cdv A outer s H E) (defBody s_Parts_step) (t_Parts_step Γ) :=
  (LSs.one (LS.ret (PL.LE.call G_stripped (hr.mono (by decide)) rfl (LA.cons (PL.LE.lc rfl sc_Parts_step.nd (LI.list (PL.LE.call G_gathered (hr.mono (by decide)) rfl (LA.cons (PL.LE.var 1) LA.nil))) (blkOk_by (N := ["self", "configuration", "triple"]) (sc := defScope s_Parts_step) (by decide +kernel)) (fun _ _ _ _ _ => pg_name (i := 2) sc_Parts_step.nd rfl (Or.inl rfl)) (fun _ _ _ _ _ => LTs.nil) (fun _ _ _ _ _ => (PL.LE.ixD (Room.units65 hr) (PL.LE.fld T.cParts.cl T.cParts.n_rule (PL.LE.var 0)) (PL.LE.var 2)))) LA.nil))))
def t_Parts_back (Γ : Ctx) : PTS := (pRet (pCall (sp_stripped Γ) (pCons (pCall (sp_gathered Γ) (pCons (pCallB (on1 kTup) (pCons (pLc (piT (pVar 1)) 2 pYes (pBin oIxD (pFld Γ.Parts (pVar 0) (PySem.Str.ofString "_source")) (pVar 2))) pNil)) pNil)) pNil)))
theorem d_Parts_back {P : Program} {w : World} {K : PySem.W.Frag} {mg : Str → Option Value} {base : Heap} {Γ : Ctx} (T : Txt K mg Γ) (G_stripped : GFn P w K mg base (PySem.Str.ofString "stripped") 1 ["cells"] (sp_stripped Γ)) (G_gathered : GFn P w K mg base (PySem.Str.ofString "gathered") 1 ["line"] (sp_gathered Γ)) {f : Addr} {cdv : Value} {A : Around} {outer : List Env} {s : Shared} {H : Hp} {E : XK}
    (hr : Room 1 (A.deeper (envOfC "Parts.back" (defScope s_Parts_back) s.heap.objs.size f cdv))) :
    LSs (cxOf (L2.CX P w) P w K mg base ["self", "configuration", "cell"] "Parts.back" (defScope s_Parts_back) f cdv A outer s H E) (defBody s_Parts_back) (t_Parts_back Γ) :=
  (LSs.one (LS.ret (PL.LE.call G_stripped (hr.mono (by decide)) rfl (LA.cons (PL.LE.call G_gathered (hr.mono (by decide)) rfl (LA.cons (PL.LE.tupOf rfl T.b_tuple (LA.cons (PL.LE.lc rfl sc_Parts_back.nd (LI.tup (PL.LE.var 1)) (blkOk_by (N := ["self", "configuration", "cell"]) (sc := defScope s_Parts_back) (by decide +kernel)) (fun _ _ _ _ _ => pg_name (i := 2) sc_Parts_back.nd rfl (Or.inl rfl)) (fun _ _ _ _ _ => LTs.nil) (fun _ _ _ _ _ => (PL.LE.ixD (Room.units65 hr) (PL.LE.fld T.cParts.cl T.cParts.n_source (PL.LE.var 0)) (PL.LE.var 2)))) LA.nil)) LA.nil)) LA.nil))))
def b_Parts_run_1 (Γ : Ctx) := ((pSet 1 (pMeth Γ.Parts (PySem.Str.ofString "step") (sp_Parts_step Γ) (pVar 0) (pCons (pVar 1) pNil))) : PTS)
def t_Parts_run (Γ : Ctx) : PTS := (pSeq (pFor (piR1 (pVar 2)) (gpName 3) (b_Parts_run_1 Γ)) (pRet (pVar 1)))
theorem d_Parts_run {P : Program} {w : World} {K : PySem.W.Frag} {mg : Str → Option Value} {base : Heap} {Γ : Ctx} (T : Txt K mg Γ) (G_Parts_step : GMt P w K mg base Γ.Parts (PySem.Str.ofString "step") 2 ["self", "configuration"] (sp_Parts_step Γ)) {f : Addr} {cdv : Value} {A : Around} {outer : List Env} {s : Shared} {H : Hp} {E : XK}
    (hr : Room 2 (A.deeper (envOfC "Parts.run" (defScope s_Parts_run) s.heap.objs.size f cdv))) :
    LSs (cxOf (L2.CX P w) P w K mg base ["self", "configuration", "steps", "_"] "Parts.run" (defScope s_Parts_run) f cdv A outer s H E) (defBody s_Parts_run) (t_Parts_run Γ) :=
  (LSs.cons (LS.for (passes_of rfl) rfl (LI.rng1 rfl T.b_range (PL.LE.var 2)) (LG.name 3 sc_Parts_run.nd) (LSs.one (LS.set 1 sc_Parts_run.nd (PL.LE.meth G_Parts_step T.cParts.cl (hr.mono (by decide)) (PL.LE.var 0) (LA.cons (PL.LE.var 1) LA.nil))))) (LSs.one (LS.ret (PL.LE.var 1))))
def b_Parts_run_back_1 (Γ : Ctx) := ((pSet 1 (pMeth Γ.Parts (PySem.Str.ofString "back") (sp_Parts_back Γ) (pVar 0) (pCons (pVar 1) pNil))) : PTS)
def t_Parts_run_back (Γ : Ctx) : PTS := (pSeq (pFor (piR1 (pVar 2)) (gpName 3) (b_Parts_run_back_1 Γ)) (pRet (pVar 1)))
theorem d_Parts_run_back {P : Program} {w : World} {K : PySem.W.Frag} {mg : Str → Option Value} {base : Heap} {Γ : Ctx} (T : Txt K mg Γ) (G_Parts_back : GMt P w K mg base Γ.Parts (PySem.Str.ofString "back") 2 ["self", "configuration"] (sp_Parts_back Γ)) {f : Addr} {cdv : Value} {A : Around} {outer : List Env} {s : Shared} {H : Hp} {E : XK}
    (hr : Room 2 (A.deeper (envOfC "Parts.run_back" (defScope s_Parts_run_back) s.heap.objs.size f cdv))) :
    LSs (cxOf (L2.CX P w) P w K mg base ["self", "configuration", "steps", "_"] "Parts.run_back" (defScope s_Parts_run_back) f cdv A outer s H E) (defBody s_Parts_run_back) (t_Parts_run_back Γ) :=
  (LSs.cons (LS.for (passes_of rfl) rfl (LI.rng1 rfl T.b_range (PL.LE.var 2)) (LG.name 3 sc_Parts_run_back.nd) (LSs.one (LS.set 1 sc_Parts_run_back.nd (PL.LE.meth G_Parts_back T.cParts.cl (hr.mono (by decide)) (PL.LE.var 0) (LA.cons (PL.LE.var 1) LA.nil))))) (LSs.one (LS.ret (PL.LE.var 1))))
def t_memory_of (Γ : Ctx) : PTS := (pRet (pBin oAdd (pBin oAdd (pC (.int 1)) (pBin oMul (pVar 0) (pVar 1))) (pVar 2)))
theorem d_memory_of {P : Program} {w : World} {K : PySem.W.Frag} {mg : Str → Option Value} {base : Heap} {Γ : Ctx} (T : Txt K mg Γ)  {f : Addr} {cdv : Value} {A : Around} {outer : List Env} {s : Shared} {H : Hp} {E : XK}
    (hr : Room 0 (A.deeper (envOfC "memory_of" (defScope s_memory_of) s.heap.objs.size f cdv))) :
    LSs (cxOf (L2.CX P w) P w K mg base ["marks", "state", "mark"] "memory_of" (defScope s_memory_of) f cdv A outer s H E) (defBody s_memory_of) (t_memory_of Γ) :=
  (LSs.one (LS.ret (PL.LE.add (PL.LE.add PL.LE.int (PL.LE.mul (PL.LE.var 0) (PL.LE.var 1))) (PL.LE.var 2))))
def t_many_memories (Γ : Ctx) : PTS := (pRet (pBin oAdd (pBin oMul (pFld Γ.Tape (pVar 0) (PySem.Str.ofString "states")) (pFld Γ.Tape (pVar 0) (PySem.Str.ofString "marks"))) (pC (.int 1))))
theorem d_many_memories {P : Program} {w : World} {K : PySem.W.Frag} {mg : Str → Option Value} {base : Heap} {Γ : Ctx} (T : Txt K mg Γ)  {f : Addr} {cdv : Value} {A : Around} {outer : List Env} {s : Shared} {H : Hp} {E : XK}
    (hr : Room 0 (A.deeper (envOfC "many_memories" (defScope s_many_memories) s.heap.objs.size f cdv))) :
    LSs (cxOf (L2.CX P w) P w K mg base ["machine"] "many_memories" (defScope s_many_memories) f cdv A outer s H E) (defBody s_many_memories) (t_many_memories Γ) :=
  (LSs.one (LS.ret (PL.LE.add (PL.LE.mul (PL.LE.fld T.cTape.cl T.cTape.n_states (PL.LE.var 0)) (PL.LE.fld T.cTape.cl T.cTape.n_marks (PL.LE.var 0))) PL.LE.int)))
def b_quiet_changes_1 (Γ : Ctx) := ((pSeq (pDrop (pApp (pVar 2) (pTup (pCons (pTup (pCons (pC (.int 0)) (pCons (pVar 3) (pCons (pC (.int 0)) pNil)))) (pCons (pTup (pCons (pC (.int 0)) (pCons (pVar 3) (pCons (pC (.int 0)) pNil)))) pNil))))) (pSeq (pAug 2 oExt (pLc (piR2 (pC (.int 1)) (pCall (sp_many_memories Γ) (pCons (pVar 0) pNil))) 4 pYes (pTup (pCons (pTup (pCons (pC (.int 0)) (pCons (pVar 3) (pCons (pVar 4) pNil)))) (pCons (pTup (pCons (pVar 4) (pCons (pVar 3) (pCons (pC (.int 0)) pNil)))) pNil))))) (pAug 2 oExt (pLc (piR1 (pFld Γ.Tape (pVar 0) (PySem.Str.ofString "states"))) 5 pYes (pTup (pCons (pTup (pCons (pBin oAdd (pVar 5) (pC (.int 1))) (pCons (pVar 3) (pCons (pC (.int 0)) pNil)))) (pCons (pTup (pCons (pC (.int 0)) (pCons (pCall (sp_headed Γ) (pCons (pVar 1) (pCons (pVar 5) (pCons (pVar 3) pNil)))) (pCons (pC (.int 0)) pNil)))) pNil))))))) : PTS)
def t_quiet_changes (Γ : Ctx) : PTS := (pSeq (pSet 1 (pFld Γ.Tape (pVar 0) (PySem.Str.ofString "marks"))) (pSeq (pSet 2 (pLstM pNil)) (pSeq (pFor (piR1 (pVar 1)) (gpName 3) (b_quiet_changes_1 Γ)) (pRetD [] (pVar 2)))))
theorem d_quiet_changes {P : Program} {w : World} {K : PySem.W.Frag} {mg : Str → Option Value} {base : Heap} {Γ : Ctx} (T : Txt K mg Γ) (G_many_memories : GFn P w K mg base (PySem.Str.ofString "many_memories") 1 ["machine"] (sp_many_memories Γ)) (G_headed : GFn P w K mg base (PySem.Str.ofString "headed") 1 ["marks", "state", "mark"] (sp_headed Γ)) {f : Addr} {cdv : Value} {A : Around} {outer : List Env} {s : Shared} {H : Hp} {E : XK}
    (hr : Room 1 (A.deeper (envOfC "quiet_changes" (defScope s_quiet_changes) s.heap.objs.size f cdv))) :
    LSs (cxOf (L2.CX P w) P w K mg base ["machine", "marks", "pairs", "mark", "memory", "state"] "quiet_changes" (defScope s_quiet_changes) f cdv A outer s H E) (defBody s_quiet_changes) (t_quiet_changes Γ) :=
  (LSs.cons (LS.set 1 sc_quiet_changes.nd (PL.LE.fld T.cTape.cl T.cTape.n_marks (PL.LE.var 0))) (LSs.cons (LS.set 2 sc_quiet_changes.nd (PL.LE.lstM LA.nil)) (LSs.cons (LS.for (passes_of rfl) rfl (LI.rng1 rfl T.b_range (PL.LE.var 1)) (LG.name 3 sc_quiet_changes.nd) (LSs.cons (LS.expr (PL.LE.app (PL.LE.var 2) (PL.LE.tup (LA.cons (PL.LE.tup (LA.cons PL.LE.int (LA.cons (PL.LE.var 3) (LA.cons PL.LE.int LA.nil)))) (LA.cons (PL.LE.tup (LA.cons PL.LE.int (LA.cons (PL.LE.var 3) (LA.cons PL.LE.int LA.nil)))) LA.nil))))) (LSs.cons (LS.augExt 2 sc_quiet_changes.nd (PL.LE.lc rfl sc_quiet_changes.nd (LI.rng2 rfl T.b_range PL.LE.int (PL.LE.call G_many_memories (hr.mono (by decide)) rfl (LA.cons (PL.LE.var 0) LA.nil))) (blkOk_by (N := ["machine", "marks", "pairs", "mark", "memory", "state"]) (sc := defScope s_quiet_changes) (by decide +kernel)) (fun _ _ _ _ _ => pg_name (i := 4) sc_quiet_changes.nd rfl (Or.inl rfl)) (fun _ _ _ _ _ => LTs.nil) (fun _ _ _ _ _ => (PL.LE.tup (LA.cons (PL.LE.tup (LA.cons PL.LE.int (LA.cons (PL.LE.var 3) (LA.cons (PL.LE.var 4) LA.nil)))) (LA.cons (PL.LE.tup (LA.cons (PL.LE.var 4) (LA.cons (PL.LE.var 3) (LA.cons PL.LE.int LA.nil)))) LA.nil)))))) (LSs.one (LS.augExt 2 sc_quiet_changes.nd (PL.LE.lc rfl sc_quiet_changes.nd (LI.rng1 rfl T.b_range (PL.LE.fld T.cTape.cl T.cTape.n_states (PL.LE.var 0))) (blkOk_by (N := ["machine", "marks", "pairs", "mark", "memory", "state"]) (sc := defScope s_quiet_changes) (by decide +kernel)) (fun _ _ _ _ _ => pg_name (i := 5) sc_quiet_changes.nd rfl (Or.inl rfl)) (fun _ _ _ _ _ => LTs.nil) (fun _ _ _ _ _ => (PL.LE.tup (LA.cons (PL.LE.tup (LA.cons (PL.LE.add (PL.LE.var 5) PL.LE.int) (LA.cons (PL.LE.var 3) (LA.cons PL.LE.int LA.nil)))) (LA.cons (PL.LE.tup (LA.cons PL.LE.int (LA.cons (PL.LE.call G_headed (hr.mono (by decide)) rfl (LA.cons (PL.LE.var 1) (LA.cons (PL.LE.var 5) (LA.cons (PL.LE.var 3) LA.nil)))) (LA.cons PL.LE.int LA.nil)))) LA.nil)))))))))) (LSs.one (LS.retD [] (PL.LE.var 2))))))
def t_row_changes (Γ : Ctx) : PTS := (pSeq (pSet 3 (pMeth Γ.Tape (PySem.Str.ofString "row") (sp_Tape_row Γ) (pVar 0) (pCons (pVar 1) (pCons (pVar 2) pNil)))) (pSeq (pIfS (pTIsN (pVar 3)) (pRetD [11] (pLst pNil)) pNext) (pSeq (pSet 4 (pFld Γ.Tape (pVar 0) (PySem.Str.ofString "marks"))) (pSeq (pAsg (pVar 3) (gpTup 3 (gpCons (gpName 5) (gpCons (gpName 6) (gpCons (gpName 7) gpNil))))) (pSeq (pSet 8 (pCall (sp_memory_of Γ) (pCons (pVar 4) (pCons (pVar 1) (pCons (pVar 2) pNil))))) (pSeq (pSet 9 (pTup (pCons (pC (.int 0)) (pCons (pCall (sp_headed Γ) (pCons (pVar 4) (pCons (pVar 1) (pCons (pVar 2) pNil)))) (pCons (pC (.int 0)) pNil))))) (pSeq (pIfS (pTest (pBin oEq (pVar 6) (pC (.int 1)))) (pRetD [11] (pLst (pCons (pTup (pCons (pVar 9) (pCons (pTup (pCons (pVar 8) (pCons (pVar 5) (pCons (pBin oAdd (pVar 7) (pC (.int 1))) pNil)))) pNil))) pNil))) pNext) (pSeq (pSet 10 (pBin oAdd (pBin oMul (pBin oAdd (pVar 7) (pC (.int 1))) (pCall (sp_many_memories Γ) (pCons (pVar 0) pNil))) (pVar 8))) (pSeq (pSet 11 (pLstM (pCons (pTup (pCons (pVar 9) (pCons (pTup (pCons (pVar 10) (pCons (pVar 5) (pCons (pC (.int 0)) pNil)))) pNil))) pNil))) (pSeq (pAug 11 oExt (pLc (piR1 (pVar 4)) 12 pYes (pTup (pCons (pTup (pCons (pC (.int 0)) (pCons (pVar 12) (pCons (pVar 10) pNil)))) (pCons (pTup (pCons (pVar 8) (pCons (pCall (sp_headed Γ) (pCons (pVar 4) (pCons (pVar 7) (pCons (pVar 12) pNil)))) (pCons (pC (.int 0)) pNil)))) pNil))))) (pRetF (pVar 11))))))))))))
theorem d_row_changes {P : Program} {w : World} {K : PySem.W.Frag} {mg : Str → Option Value} {base : Heap} {Γ : Ctx} (T : Txt K mg Γ) (G_Tape_row : GMt P w K mg base Γ.Tape (PySem.Str.ofString "row") 3 ["self", "state", "mark"] (sp_Tape_row Γ)) (G_memory_of : GFn P w K mg base (PySem.Str.ofString "memory_of") 1 ["marks", "state", "mark"] (sp_memory_of Γ)) (G_headed : GFn P w K mg base (PySem.Str.ofString "headed") 1 ["marks", "state", "mark"] (sp_headed Γ)) (G_many_memories : GFn P w K mg base (PySem.Str.ofString "many_memories") 1 ["machine"] (sp_many_memories Γ)) {f : Addr} {cdv : Value} {A : Around} {outer : List Env} {s : Shared} {H : Hp} {E : XK}
    (hr : Room 3 (A.deeper (envOfC "row_changes" (defScope s_row_changes) s.heap.objs.size f cdv))) :
    LSs (cxOf (L2.CX P w) P w K mg base ["machine", "state", "mark", "row", "marks", "written", "move", "after", "memory", "leaving", "letter", "pairs", "there"] "row_changes" (defScope s_row_changes) f cdv A outer s H E) (defBody s_row_changes) (t_row_changes Γ) :=
  (LSs.cons (LS.set 3 sc_row_changes.nd (PL.LE.meth G_Tape_row T.cTape.cl (hr.mono (by decide)) (PL.LE.var 0) (LA.cons (PL.LE.var 1) (LA.cons (PL.LE.var 2) LA.nil)))) (LSs.cons (LS.ite (PL.LT.isN (PL.LE.var 3)) (LSs.one (LS.retD [11] (PL.LE.lst LA.nil))) LSs.nil) (LSs.cons (LS.set 4 sc_row_changes.nd (PL.LE.fld T.cTape.cl T.cTape.n_marks (PL.LE.var 0))) (LSs.cons (LS.asg (PL.LE.var 3) (LG.tup rfl (LGs.cons (LG.name 5 sc_row_changes.nd) (LGs.cons (LG.name 6 sc_row_changes.nd) (LGs.cons (LG.name 7 sc_row_changes.nd) LGs.nil))))) (LSs.cons (LS.set 8 sc_row_changes.nd (PL.LE.call G_memory_of (hr.mono (by decide)) rfl (LA.cons (PL.LE.var 4) (LA.cons (PL.LE.var 1) (LA.cons (PL.LE.var 2) LA.nil))))) (LSs.cons (LS.set 9 sc_row_changes.nd (PL.LE.tup (LA.cons PL.LE.int (LA.cons (PL.LE.call G_headed (hr.mono (by decide)) rfl (LA.cons (PL.LE.var 4) (LA.cons (PL.LE.var 1) (LA.cons (PL.LE.var 2) LA.nil)))) (LA.cons PL.LE.int LA.nil))))) (LSs.cons (LS.ite (PL.LT.eq hr.units (PL.LE.var 6) PL.LE.int) (LSs.one (LS.retD [11] (PL.LE.lst (LA.cons (PL.LE.tup (LA.cons (PL.LE.var 9) (LA.cons (PL.LE.tup (LA.cons (PL.LE.var 8) (LA.cons (PL.LE.var 5) (LA.cons (PL.LE.add (PL.LE.var 7) PL.LE.int) LA.nil)))) LA.nil))) LA.nil)))) LSs.nil) (LSs.cons (LS.set 10 sc_row_changes.nd (PL.LE.add (PL.LE.mul (PL.LE.add (PL.LE.var 7) PL.LE.int) (PL.LE.call G_many_memories (hr.mono (by decide)) rfl (LA.cons (PL.LE.var 0) LA.nil))) (PL.LE.var 8))) (LSs.cons (LS.set 11 sc_row_changes.nd (PL.LE.lstM (LA.cons (PL.LE.tup (LA.cons (PL.LE.var 9) (LA.cons (PL.LE.tup (LA.cons (PL.LE.var 10) (LA.cons (PL.LE.var 5) (LA.cons PL.LE.int LA.nil)))) LA.nil))) LA.nil))) (LSs.cons (LS.augExt 11 sc_row_changes.nd (PL.LE.lc rfl sc_row_changes.nd (LI.rng1 rfl T.b_range (PL.LE.var 4)) (blkOk_by (N := ["machine", "state", "mark", "row", "marks", "written", "move", "after", "memory", "leaving", "letter", "pairs", "there"]) (sc := defScope s_row_changes) (by decide +kernel)) (fun _ _ _ _ _ => pg_name (i := 12) sc_row_changes.nd rfl (Or.inl rfl)) (fun _ _ _ _ _ => LTs.nil) (fun _ _ _ _ _ => (PL.LE.tup (LA.cons (PL.LE.tup (LA.cons PL.LE.int (LA.cons (PL.LE.var 12) (LA.cons (PL.LE.var 10) LA.nil)))) (LA.cons (PL.LE.tup (LA.cons (PL.LE.var 8) (LA.cons (PL.LE.call G_headed (hr.mono (by decide)) rfl (LA.cons (PL.LE.var 4) (LA.cons (PL.LE.var 7) (LA.cons (PL.LE.var 12) LA.nil)))) (LA.cons PL.LE.int LA.nil)))) LA.nil)))))) (LSs.one (LS.retF (PL.LE.var 11)))))))))))))
def b_line_changes_2 (Γ : Ctx) := ((pAug 1 oExt (pCall (sp_row_changes Γ) (pCons (pVar 0) (pCons (pVar 2) (pCons (pVar 3) pNil))))) : PTS)
def b_line_changes_1 (Γ : Ctx) := ((pFor (piR1 (pFld Γ.Tape (pVar 0) (PySem.Str.ofString "marks"))) (gpName 3) (b_line_changes_2 Γ)) : PTS)
def t_line_changes (Γ : Ctx) : PTS := (pSeq (pSet 1 (pCall (sp_quiet_changes Γ) (pCons (pVar 0) pNil))) (pSeq (pFor (piR1 (pFld Γ.Tape (pVar 0) (PySem.Str.ofString "states"))) (gpName 2) (b_line_changes_1 Γ)) (pFz 1 (pRetD [1] (pDcF (piL (pVar 1)) (stpT [4, 5]) pYes (pVar 4) (pVar 5))))))
theorem d_line_changes {P : Program} {w : World} {K : PySem.W.Frag} {mg : Str → Option Value} {base : Heap} {Γ : Ctx} (T : Txt K mg Γ) (G_quiet_changes : GFn P w K mg base (PySem.Str.ofString "quiet_changes") 2 ["machine"] (sp_quiet_changes Γ)) (G_row_changes : GFn P w K mg base (PySem.Str.ofString "row_changes") 4 ["machine", "state", "mark"] (sp_row_changes Γ)) {f : Addr} {cdv : Value} {A : Around} {outer : List Env} {s : Shared} {H : Hp} {E : XK}
    (hr : Room 4 (A.deeper (envOfC "line_changes" (defScope s_line_changes) s.heap.objs.size f cdv))) :
    LSs (cxOf (L2.CX P w) P w K mg base ["machine", "pairs", "state", "mark", "triple", "cell"] "line_changes" (defScope s_line_changes) f cdv A outer s H E) (defBody s_line_changes) (t_line_changes Γ) :=
  (LSs.cons (LS.set 1 sc_line_changes.nd (PL.LE.call G_quiet_changes (hr.mono (by decide)) rfl (LA.cons (PL.LE.var 0) LA.nil))) (LSs.cons (LS.for (passes_of rfl) rfl (LI.rng1 rfl T.b_range (PL.LE.fld T.cTape.cl T.cTape.n_states (PL.LE.var 0))) (LG.name 2 sc_line_changes.nd) (LSs.one (LS.for (passes_of rfl) rfl (LI.rng1 rfl T.b_range (PL.LE.fld T.cTape.cl T.cTape.n_marks (PL.LE.var 0))) (LG.name 3 sc_line_changes.nd) (LSs.one (LS.augExt 1 sc_line_changes.nd (PL.LE.call G_row_changes (hr.mono (by decide)) rfl (LA.cons (PL.LE.var 0) (LA.cons (PL.LE.var 2) (LA.cons (PL.LE.var 3) LA.nil))))))))) (LSs.fz 1 (LSs.one (LS.retD [1] (PL.LE.dcF (Room.units65 hr) rfl sc_line_changes.nd (LI.list (PL.LE.var 1)) (blkOk_by (N := ["machine", "pairs", "state", "mark", "triple", "cell"]) (sc := defScope s_line_changes) (own := [("triple", 4), ("cell", 5)]) (by decide +kernel)) (stores_tup _ (is := [4, 5]) (by decide)) (fun _ _ _ _ _ => pg_tup rfl (pgs_cons (pg_name (i := 4) sc_line_changes.nd rfl (Or.inl rfl)) (pgs_cons (pg_name (i := 5) sc_line_changes.nd rfl (Or.inl rfl)) pgs_nil)) rfl rfl) (fun _ _ _ _ _ => LTs.nil) (fun _ _ _ _ _ => (PL.LE.var 4)) (fun _ _ _ _ _ => (PL.LE.var 5))))))))
def t_FlyStair_init (Γ : Ctx) : PTS := (pSeq (pSet 2 (pBin oAdd (pFld Γ.Tape (pVar 1) (PySem.Str.ofString "states")) (pC (.int 1)))) (pSeq (pSet 3 (pTup (pCons (pBin oMul (pVar 2) (pCall (sp_many_memories Γ) (pCons (pVar 1) pNil))) (pCons (pBin oMul (pFld Γ.Tape (pVar 1) (PySem.Str.ofString "marks")) (pVar 2)) (pCons (pVar 2) pNil))))) (pSeq (pIfS (pNot (pTest (pCall (sp_is_sizes Γ) (pCons (pVar 3) pNil)))) (pRaise Γ.BadParts) pNext) (pSeq (pFldS Γ.FlyStair (PySem.Str.ofString "upper") (pVar 0) (pVar 1)) (pFldS Γ.FlyStair (PySem.Str.ofString "lower") (pVar 0) (pMake Γ.Parts (sp_Parts_init Γ) (pCons (pVar 3) (pCons (pCall (sp_line_changes Γ) (pCons (pVar 1) pNil)) pNil))))))))
theorem d_FlyStair_init {P : Program} {w : World} {K : PySem.W.Frag} {mg : Str → Option Value} {base : Heap} {Γ : Ctx} (T : Txt K mg Γ) (G_Parts_init : GMk P w K mg base (PySem.Str.ofString "Parts") Γ.Parts 5 ["self", "sizes", "changes"] (sp_Parts_init Γ)) (G_is_sizes : GFn P w K mg base (PySem.Str.ofString "is_sizes") 4 ["value"] (sp_is_sizes Γ)) (G_line_changes : GFn P w K mg base (PySem.Str.ofString "line_changes") 5 ["machine"] (sp_line_changes Γ)) (G_many_memories : GFn P w K mg base (PySem.Str.ofString "many_memories") 1 ["machine"] (sp_many_memories Γ)) {f : Addr} {cdv : Value} {A : Around} {outer : List Env} {s : Shared} {H : Hp} {E : XK}
    (hr : Room 6 (A.deeper (envOfC "FlyStair.__init__" (defScope s_FlyStair_init) s.heap.objs.size f cdv))) :
    LSs (cxOf (L2.CX P w) P w K mg base ["self", "machine", "heads", "sizes"] "FlyStair.__init__" (defScope s_FlyStair_init) f cdv A outer s H E) (defBody s_FlyStair_init) (t_FlyStair_init Γ) :=
  (LSs.cons (LS.set 2 sc_FlyStair_init.nd (PL.LE.add (PL.LE.fld T.cTape.cl T.cTape.n_states (PL.LE.var 1)) PL.LE.int)) (LSs.cons (LS.set 3 sc_FlyStair_init.nd (PL.LE.tup (LA.cons (PL.LE.mul (PL.LE.var 2) (PL.LE.call G_many_memories (hr.mono (by decide)) rfl (LA.cons (PL.LE.var 1) LA.nil))) (LA.cons (PL.LE.mul (PL.LE.fld T.cTape.cl T.cTape.n_marks (PL.LE.var 1)) (PL.LE.var 2)) (LA.cons (PL.LE.var 2) LA.nil))))) (LSs.cons (LS.ite (PL.LT.not (PL.LT.val (PL.LE.call G_is_sizes (hr.mono (by decide)) rfl (LA.cons (PL.LE.var 3) LA.nil)))) (LSs.one (LS.raise PySem.F.excBase_ValueError T.r_BadParts.x T.g_BadParts T.r_BadParts.k (raises_own T.r_BadParts.b T.r_BadParts.t) rfl)) LSs.nil) (LSs.cons (LS.fld T.cFlyStair.cl T.cFlyStair.n_upper (PL.LE.var 0) (PL.LE.var 1)) (LSs.one (LS.fld T.cFlyStair.cl T.cFlyStair.n_lower (PL.LE.var 0) (PL.LE.make G_Parts_init (hr.mono (by decide)) rfl (LA.cons (PL.LE.var 3) (LA.cons (PL.LE.call G_line_changes (hr.mono (by decide)) rfl (LA.cons (PL.LE.var 1) LA.nil)) LA.nil)))))))))
def t_FlyStair_up (Γ : Ctx) : PTS := (pSeq (pSet 2 (pCall (sp_head_place Γ) (pCons (pFld Γ.Tape (pFld Γ.FlyStair (pVar 0) (PySem.Str.ofString "upper")) (PySem.Str.ofString "marks")) (pCons (pVar 1) pNil)))) (pSeq (pIfS (pOr (pTIsN (pVar 2)) (pTest (pCallB (on1 kAny) (pCons (pLcT (piT (pVar 1)) [3, 3, 4] pYes (pBin oNe (pVar 4) (pC (.int 0)))) pNil)))) (pRet (pC .non)) pNext) (pSeq (pIfS (pTest (pCallB (on1 kAny) (pCons (pLcT (piT (pVar 1)) [5, 3, 3] pYes (pBin oGe (pVar 5) (pCall (sp_many_memories Γ) (pCons (pFld Γ.FlyStair (pVar 0) (PySem.Str.ofString "upper")) pNil)))) pNil))) (pRet (pC .non)) pNext) (pSeq (pIfS (pTest (pCallB (on1 kAny) (pCons (pLcT (piT (pSl (pVar 1) (pPart (pBin oAdd (pVar 2) (pC (.int 1)))) pNoPart)) [5, 3, 3] pYes (pBin oNe (pVar 5) (pC (.int 0)))) pNil))) (pRet (pC .non)) pNext) (pRet (pCall (sp_tape_at Γ) (pCons (pFld Γ.Tape (pFld Γ.FlyStair (pVar 0) (PySem.Str.ofString "upper")) (PySem.Str.ofString "marks")) (pCons (pVar 1) (pCons (pVar 2) pNil)))))))))
theorem d_FlyStair_up {P : Program} {w : World} {K : PySem.W.Frag} {mg : Str → Option Value} {base : Heap} {Γ : Ctx} (T : Txt K mg Γ) (G_head_place : GFn P w K mg base (PySem.Str.ofString "head_place") 1 ["marks", "line"] (sp_head_place Γ)) (G_tape_at : GFn P w K mg base (PySem.Str.ofString "tape_at") 2 ["marks", "line", "place"] (sp_tape_at Γ)) (G_many_memories : GFn P w K mg base (PySem.Str.ofString "many_memories") 1 ["machine"] (sp_many_memories Γ)) {f : Addr} {cdv : Value} {A : Around} {outer : List Env} {s : Shared} {H : Hp} {E : XK}
    (hr : Room 2 (A.deeper (envOfC "FlyStair.up" (defScope s_FlyStair_up) s.heap.objs.size f cdv))) :
    LSs (cxOf (L2.CX P w) P w K mg base ["self", "configuration", "place", "_", "right", "left"] "FlyStair.up" (defScope s_FlyStair_up) f cdv A outer s H E) (defBody s_FlyStair_up) (t_FlyStair_up Γ) :=
  (LSs.cons (LS.set 2 sc_FlyStair_up.nd (PL.LE.call G_head_place (hr.mono (by decide)) rfl (LA.cons (PL.LE.fld T.cTape.cl T.cTape.n_marks (PL.LE.fld T.cFlyStair.cl T.cFlyStair.n_upper (PL.LE.var 0))) (LA.cons (PL.LE.var 1) LA.nil)))) (LSs.cons (LS.ite (LW.lt (LW.or (PL.LT.isN (PL.LE.var 2)) (LW.or1 (PL.LT.val (PL.LE.any rfl rfl T.b_any (LA.cons (PL.LE.lcT2 (own := [("_", 3), ("right", 4)]) (by decide) (by decide) rfl sc_FlyStair_up.nd (LI.tup (PL.LE.var 1)) (blkOk_by (N := ["self", "configuration", "place", "_", "right", "left"]) (sc := defScope s_FlyStair_up) (own := [("_", 3), ("right", 4)]) (by decide +kernel)) (fun _ _ _ _ _ => (pgs_cons (pg_name (i := 3) sc_FlyStair_up.nd rfl (Or.inl rfl)) (pgs_cons (pg_name (i := 3) sc_FlyStair_up.nd rfl (Or.inl rfl)) (pgs_cons (pg_name (i := 4) sc_FlyStair_up.nd rfl (Or.inl rfl)) pgs_nil)))) (fun _ _ _ _ _ => ⟨rfl, rfl⟩) (fun _ _ _ _ _ => LTs.nil) (fun _ _ _ _ _ => (PL.LE.ne hr.units (PL.LE.var 4) PL.LE.int))) LA.nil)))))) (LSs.one (LS.ret PL.LE.non)) LSs.nil) (LSs.cons (LS.ite (PL.LT.val (PL.LE.any rfl rfl T.b_any (LA.cons (PL.LE.lcT2 (own := [("left", 5), ("_", 3)]) (by decide) (by decide) rfl sc_FlyStair_up.nd (LI.tup (PL.LE.var 1)) (blkOk_by (N := ["self", "configuration", "place", "_", "right", "left"]) (sc := defScope s_FlyStair_up) (own := [("left", 5), ("_", 3)]) (by decide +kernel)) (fun _ _ _ _ _ => (pgs_cons (pg_name (i := 5) sc_FlyStair_up.nd rfl (Or.inl rfl)) (pgs_cons (pg_name (i := 3) sc_FlyStair_up.nd rfl (Or.inl rfl)) (pgs_cons (pg_name (i := 3) sc_FlyStair_up.nd rfl (Or.inl rfl)) pgs_nil)))) (fun _ _ _ _ _ => ⟨rfl, rfl⟩) (fun _ _ _ _ _ => LTs.nil) (fun _ _ _ _ _ => (PL.LE.ge (PL.LE.var 5) (PL.LE.call G_many_memories (hr.mono (by decide)) rfl (LA.cons (PL.LE.fld T.cFlyStair.cl T.cFlyStair.n_upper (PL.LE.var 0)) LA.nil))))) LA.nil))) (LSs.one (LS.ret PL.LE.non)) LSs.nil) (LSs.cons (LS.ite (PL.LT.val (PL.LE.any rfl rfl T.b_any (LA.cons (PL.LE.lcT2 (own := [("left", 5), ("_", 3)]) (by decide) (by decide) rfl sc_FlyStair_up.nd (LI.tup (PL.LE.slice (PL.LE.var 1) (LO.some (PL.LE.add (PL.LE.var 2) PL.LE.int)) LO.none)) (blkOk_by (N := ["self", "configuration", "place", "_", "right", "left"]) (sc := defScope s_FlyStair_up) (own := [("left", 5), ("_", 3)]) (by decide +kernel)) (fun _ _ _ _ _ => (pgs_cons (pg_name (i := 5) sc_FlyStair_up.nd rfl (Or.inl rfl)) (pgs_cons (pg_name (i := 3) sc_FlyStair_up.nd rfl (Or.inl rfl)) (pgs_cons (pg_name (i := 3) sc_FlyStair_up.nd rfl (Or.inl rfl)) pgs_nil)))) (fun _ _ _ _ _ => ⟨rfl, rfl⟩) (fun _ _ _ _ _ => LTs.nil) (fun _ _ _ _ _ => (PL.LE.ne hr.units (PL.LE.var 5) PL.LE.int))) LA.nil))) (LSs.one (LS.ret PL.LE.non)) LSs.nil) (LSs.one (LS.ret (PL.LE.call G_tape_at (hr.mono (by decide)) rfl (LA.cons (PL.LE.fld T.cTape.cl T.cTape.n_marks (PL.LE.fld T.cFlyStair.cl T.cFlyStair.n_upper (PL.LE.var 0))) (LA.cons (PL.LE.var 1) (LA.cons (PL.LE.var 2) LA.nil))))))))))
def t_FlyStair_memories (Γ : Ctx) : PTS := (pSeq (pSet 2 (pLcT (piT (pRevT (pVar 1))) [3, 4, 4] pYes (pBin oMod (pVar 3) (pCall (sp_many_memories Γ) (pCons (pFld Γ.FlyStair (pVar 0) (PySem.Str.ofString "upper")) pNil))))) (pRet (pLc (piL (pVar 2)) 5 (pTest (pBin oNe (pVar 5) (pC (.int 0)))) (pCallB (on2 kDivmod) (pCons (pBin oSub (pVar 5) (pC (.int 1))) (pCons (pFld Γ.Tape (pFld Γ.FlyStair (pVar 0) (PySem.Str.ofString "upper")) (PySem.Str.ofString "marks")) pNil))))))
theorem d_FlyStair_memories {P : Program} {w : World} {K : PySem.W.Frag} {mg : Str → Option Value} {base : Heap} {Γ : Ctx} (T : Txt K mg Γ) (G_many_memories : GFn P w K mg base (PySem.Str.ofString "many_memories") 1 ["machine"] (sp_many_memories Γ)) {f : Addr} {cdv : Value} {A : Around} {outer : List Env} {s : Shared} {H : Hp} {E : XK}
    (hr : Room 1 (A.deeper (envOfC "FlyStair.memories" (defScope s_FlyStair_memories) s.heap.objs.size f cdv))) :
    LSs (cxOf (L2.CX P w) P w K mg base ["self", "configuration", "letters", "left", "_", "letter"] "FlyStair.memories" (defScope s_FlyStair_memories) f cdv A outer s H E) (defBody s_FlyStair_memories) (t_FlyStair_memories Γ) :=
  (LSs.cons (LS.setLcT2 2 (own := [("left", 3), ("_", 4)]) (by decide) (by decide) rfl sc_FlyStair_memories.nd rfl rfl (sw_true rfl rfl rfl (by decide +kernel)) (LI.tup (PL.LE.revT (PL.LE.var 1))) (blkOk_by (N := ["self", "configuration", "letters", "left", "_", "letter"]) (sc := defScope s_FlyStair_memories) (own := [("left", 3), ("_", 4)]) (by decide +kernel)) (fun _ _ _ _ _ => (pgs_cons (pg_name (i := 3) sc_FlyStair_memories.nd rfl (Or.inl rfl)) (pgs_cons (pg_name (i := 4) sc_FlyStair_memories.nd rfl (Or.inl rfl)) (pgs_cons (pg_name (i := 4) sc_FlyStair_memories.nd rfl (Or.inl rfl)) pgs_nil)))) (fun _ _ _ _ _ => ⟨rfl, rfl⟩) (fun _ _ _ _ _ => LTs.nil) (fun _ _ _ _ _ => (PL.LE.mod (PL.LE.var 3) (PL.LE.call G_many_memories (hr.mono (by decide)) rfl (LA.cons (PL.LE.fld T.cFlyStair.cl T.cFlyStair.n_upper (PL.LE.var 0)) LA.nil))))) (LSs.one (LS.ret (PL.LE.lc rfl sc_FlyStair_memories.nd (LI.list (PL.LE.var 2)) (blkOk_by (N := ["self", "configuration", "letters", "left", "_", "letter"]) (sc := defScope s_FlyStair_memories) (by decide +kernel)) (fun _ _ _ _ _ => pg_name (i := 5) sc_FlyStair_memories.nd rfl (Or.inl rfl)) (fun _ _ _ _ _ => (LTs.one (PL.LT.ne hr.units (PL.LE.var 5) PL.LE.int))) (fun _ _ _ _ _ => (PL.LE.divmod rfl T.b_divmod (LA.cons (PL.LE.sub (PL.LE.var 5) PL.LE.int) (LA.cons (PL.LE.fld T.cTape.cl T.cTape.n_marks (PL.LE.fld T.cFlyStair.cl T.cFlyStair.n_upper (PL.LE.var 0))) LA.nil))))))))
def b_past_1 (Γ : Ctx) := ((pSeq (pIfS (pTest (pBin oGt (pVar 3) (pC (.int 0)))) (pSet 1 (pMeth Γ.Parts (PySem.Str.ofString "run_back") (sp_Parts_run_back Γ) (pFld Γ.FlyStair (pVar 0) (PySem.Str.ofString "lower")) (pCons (pVar 1) (pCons (pC (.int 2)) pNil)))) pNext) (pSeq (pSet 4 (pMeth Γ.FlyStair (PySem.Str.ofString "up") (sp_FlyStair_up Γ) (pVar 0) (pCons (pVar 1) pNil))) (pSeq (pIfS (pTIsN (pVar 4)) (pRaise Γ.BadParts) pNext) (pDrop (pApp (pVar 2) (pVar 4)))))) : PTS)
def t_past (Γ : Ctx) : PTS := (pSeq (pSet 2 (pLstM pNil)) (pSeq (pFor (piR1 (pBin oAdd (pCallB (on1 kLen) (pCons (pMeth Γ.FlyStair (PySem.Str.ofString "memories") (sp_FlyStair_memories Γ) (pVar 0) (pCons (pVar 1) pNil)) pNil)) (pC (.int 1)))) (gpName 3) (b_past_1 Γ)) (pRetF (pVar 2))))
theorem d_past {P : Program} {w : World} {K : PySem.W.Frag} {mg : Str → Option Value} {base : Heap} {Γ : Ctx} (T : Txt K mg Γ) (G_FlyStair_up : GMt P w K mg base Γ.FlyStair (PySem.Str.ofString "up") 3 ["self", "configuration"] (sp_FlyStair_up Γ)) (G_Parts_run_back : GMt P w K mg base Γ.Parts (PySem.Str.ofString "run_back") 3 ["self", "configuration", "steps"] (sp_Parts_run_back Γ)) (G_FlyStair_memories : GMt P w K mg base Γ.FlyStair (PySem.Str.ofString "memories") 2 ["self", "configuration"] (sp_FlyStair_memories Γ)) {f : Addr} {cdv : Value} {A : Around} {outer : List Env} {s : Shared} {H : Hp} {E : XK}
    (hr : Room 3 (A.deeper (envOfC "past" (defScope s_past) s.heap.objs.size f cdv))) :
    LSs (cxOf (L2.CX P w) P w K mg base ["stair", "line", "found", "many", "upper"] "past" (defScope s_past) f cdv A outer s H E) (defBody s_past) (t_past Γ) :=
  (LSs.cons (LS.set 2 sc_past.nd (PL.LE.lstM LA.nil)) (LSs.cons (LS.for (passes_of rfl) rfl (LI.rng1 rfl T.b_range (PL.LE.add (PL.LE.len rfl T.b_len (LA.cons (PL.LE.meth G_FlyStair_memories T.cFlyStair.cl (hr.mono (by decide)) (PL.LE.var 0) (LA.cons (PL.LE.var 1) LA.nil)) LA.nil)) PL.LE.int)) (LG.name 3 sc_past.nd) (LSs.cons (LS.ite (PL.LT.gt (PL.LE.var 3) PL.LE.int) (LSs.one (LS.set 1 sc_past.nd (PL.LE.meth G_Parts_run_back T.cParts.cl (hr.mono (by decide)) (PL.LE.fld T.cFlyStair.cl T.cFlyStair.n_lower (PL.LE.var 0)) (LA.cons (PL.LE.var 1) (LA.cons PL.LE.int LA.nil))))) LSs.nil) (LSs.cons (LS.set 4 sc_past.nd (PL.LE.meth G_FlyStair_up T.cFlyStair.cl (hr.mono (by decide)) (PL.LE.var 0) (LA.cons (PL.LE.var 1) LA.nil))) (LSs.cons (LS.ite (PL.LT.isN (PL.LE.var 4)) (LSs.one (LS.raise PySem.F.excBase_ValueError T.r_BadParts.x T.g_BadParts T.r_BadParts.k (raises_own T.r_BadParts.b T.r_BadParts.t) rfl)) LSs.nil) (LSs.one (LS.expr (PL.LE.app (PL.LE.var 2) (PL.LE.var 4)))))))) (LSs.one (LS.retF (PL.LE.var 2)))))
def t_law_cell (Γ : Ctx) : PTS := (pSeq (pIfS (pTest (pBin oLt (pVar 1) (pCallB (on1 kLen) (pCons (pVar 0) pNil)))) (pRet (pBin oIx (pVar 0) (pVar 1))) pNext) (pRet (pC (.int 0))))
theorem d_law_cell {P : Program} {w : World} {K : PySem.W.Frag} {mg : Str → Option Value} {base : Heap} {Γ : Ctx} (T : Txt K mg Γ)  {f : Addr} {cdv : Value} {A : Around} {outer : List Env} {s : Shared} {H : Hp} {E : XK}
    (hr : Room 0 (A.deeper (envOfC "_law_cell" (defScope s_law_cell) s.heap.objs.size f cdv))) :
    LSs (cxOf (L2.CX P w) P w K mg base ["script", "k"] "_law_cell" (defScope s_law_cell) f cdv A outer s H E) (defBody s_law_cell) (t_law_cell Γ) :=
  (LSs.cons (LS.ite (PL.LT.lt (PL.LE.var 1) (PL.LE.len rfl T.b_len (LA.cons (PL.LE.var 0) LA.nil))) (LSs.one (LS.ret (PL.LE.ix (PL.LE.var 0) (PL.LE.var 1)))) LSs.nil) (LSs.one (LS.ret PL.LE.int)))
def t_law_mixed (Γ : Ctx) : PTS := (pSeq (pSet 2 (pBin oMod (pCallB (on1 kInt) (pCons (pBin oAdd (pBin oAdd (pBin oMul (pCallB (on1 kInt) (pCons (pVar 0) pNil)) (pC (.int 48271))) (pBin oMul (pVar 1) (pC (.int 69621)))) (pC (.int 11))) pNil)) (pC (.int 2147483647)))) (pSeq (pSet 3 (pBin oMod (pCallB (on1 kInt) (pCons (pBin oAdd (pBin oAdd (pBin oMul (pVar 2) (pC (.int 16807))) (pBin oMul (pBin oAdd (pVar 1) (pC (.int 3))) (pC (.int 40692)))) (pC (.int 5))) pNil)) (pC (.int 2147483563)))) (pRet (pBin oDiv (pVar 3) (pC (.int 5))))))
theorem d_law_mixed {P : Program} {w : World} {K : PySem.W.Frag} {mg : Str → Option Value} {base : Heap} {Γ : Ctx} (T : Txt K mg Γ)  {f : Addr} {cdv : Value} {A : Around} {outer : List Env} {s : Shared} {H : Hp} {E : XK}
    (hr : Room 0 (A.deeper (envOfC "_law_mixed" (defScope s_law_mixed) s.heap.objs.size f cdv))) :
    LSs (cxOf (L2.CX P w) P w K mg base ["cell", "k", "first", "second"] "_law_mixed" (defScope s_law_mixed) f cdv A outer s H E) (defBody s_law_mixed) (t_law_mixed Γ) :=
  (LSs.cons (LS.set 2 sc_law_mixed.nd (PL.LE.mod (PL.LE.intOf rfl T.b_int (LA.cons (PL.LE.add (PL.LE.add (PL.LE.mul (PL.LE.intOf rfl T.b_int (LA.cons (PL.LE.var 0) LA.nil)) PL.LE.int) (PL.LE.mul (PL.LE.var 1) PL.LE.int)) PL.LE.int) LA.nil)) PL.LE.int)) (LSs.cons (LS.set 3 sc_law_mixed.nd (PL.LE.mod (PL.LE.intOf rfl T.b_int (LA.cons (PL.LE.add (PL.LE.add (PL.LE.mul (PL.LE.var 2) PL.LE.int) (PL.LE.mul (PL.LE.add (PL.LE.var 1) PL.LE.int) PL.LE.int)) PL.LE.int) LA.nil)) PL.LE.int)) (LSs.one (LS.ret (PL.LE.div (PL.LE.var 3) PL.LE.int)))))
def b_law_digits_1 (Γ : Ctx) := ((pDrop (pApp (pVar 3) (pBin oMod (pCallB (on1 kInt) (pCons (pCall (sp_law_mixed Γ) (pCons (pVar 0) (pCons (pVar 4) pNil))) pNil)) (pVar 2)))) : PTS)
def b_law_digits_2 (Γ : Ctx) := ((pSeq (pDrop (pApp (pVar 3) (pBin oMod (pCallB (on1 kInt) (pCons (pVar 0) pNil)) (pVar 2)))) (pSet 0 (pBin oDiv (pVar 0) (pVar 2)))) : PTS)
def t_law_digits (Γ : Ctx) : PTS := (pSeq (pSet 3 (pLstM pNil)) (pSeq (pIfS (pTest (pBin oLt (pVar 0) (pBin oPow (pC (.int 10)) (pC (.int 18))))) (pSeq (pFor (piR1 (pVar 1)) (gpName 4) (b_law_digits_1 Γ)) (pRetF (pVar 3))) pNext) (pSeq (pFor (piR1 (pVar 1)) (gpName 4) (b_law_digits_2 Γ)) (pRetF (pVar 3)))))
theorem d_law_digits {P : Program} {w : World} {K : PySem.W.Frag} {mg : Str → Option Value} {base : Heap} {Γ : Ctx} (T : Txt K mg Γ) (G_law_mixed : GFn P w K mg base (PySem.Str.ofString "_law_mixed") 1 ["cell", "k"] (sp_law_mixed Γ)) {f : Addr} {cdv : Value} {A : Around} {outer : List Env} {s : Shared} {H : Hp} {E : XK}
    (hr : Room 1 (A.deeper (envOfC "_law_digits" (defScope s_law_digits) s.heap.objs.size f cdv))) :
    LSs (cxOf (L2.CX P w) P w K mg base ["cell", "count", "many", "digits", "k"] "_law_digits" (defScope s_law_digits) f cdv A outer s H E) (defBody s_law_digits) (t_law_digits Γ) :=
  (LSs.cons (LS.set 3 sc_law_digits.nd (PL.LE.lstM LA.nil)) (LSs.cons (LS.ite (PL.LT.lt (PL.LE.var 0) (PL.LE.pow PL.LE.int PL.LE.int)) (LSs.cons (LS.for (passes_of rfl) rfl (LI.rng1 rfl T.b_range (PL.LE.var 1)) (LG.name 4 sc_law_digits.nd) (LSs.one (LS.expr (PL.LE.app (PL.LE.var 3) (PL.LE.mod (PL.LE.intOf rfl T.b_int (LA.cons (PL.LE.call G_law_mixed (hr.mono (by decide)) rfl (LA.cons (PL.LE.var 0) (LA.cons (PL.LE.var 4) LA.nil))) LA.nil)) (PL.LE.var 2)))))) (LSs.one (LS.retF (PL.LE.var 3)))) LSs.nil) (LSs.cons (LS.for (passes_of rfl) rfl (LI.rng1 rfl T.b_range (PL.LE.var 1)) (LG.name 4 sc_law_digits.nd) (LSs.cons (LS.expr (PL.LE.app (PL.LE.var 3) (PL.LE.mod (PL.LE.intOf rfl T.b_int (LA.cons (PL.LE.var 0) LA.nil)) (PL.LE.var 2)))) (LSs.one (LS.set 0 sc_law_digits.nd (PL.LE.div (PL.LE.var 0) (PL.LE.var 2)))))) (LSs.one (LS.retF (PL.LE.var 3))))))
def b_law_tape_1 (Γ : Ctx) := ((pSeq (pSet 6 (pBin oIx (pVar 0) (pBin oAdd (pC (.int 2)) (pVar 5)))) (pIfS (pTest (pBin oEq (pBin oMod (pVar 6) (pC (.int 7))) (pC (.int 0)))) (pDrop (pApp (pVar 4) (pC .non))) (pDrop (pApp (pVar 4) (pTup (pCons (pBin oMod (pVar 6) (pVar 2)) (pCons (pBin oSub (pBin oMul (pC (.int 2)) (pBin oMod (pBin oDiv (pVar 6) (pC (.int 4))) (pC (.int 2)))) (pC (.int 1))) (pCons (pBin oMod (pBin oDiv (pVar 6) (pC (.int 8))) (pVar 3)) pNil)))))))) : PTS)
def t_law_tape (Γ : Ctx) : PTS := (pSeq (pPar 2 3 (pCons (pBin oAdd (pC (.int 2)) (pBin oMod (pBin oIx (pVar 0) (pC (.int 0))) (pC (.int 2)))) (pCons (pBin oAdd (pC (.int 1)) (pBin oMod (pBin oIx (pVar 0) (pC (.int 1))) (pVar 1))) pNil))) (pSeq (pSet 4 (pLstM pNil)) (pSeq (pFor (piR1 (pBin oMul (pVar 2) (pVar 3))) (gpName 5) (b_law_tape_1 Γ)) (pRetD [4] (pMake Γ.Tape (sp_Tape_init Γ) (pCons (pVar 2) (pCons (pVar 3) (pCons (pVar 4) pNil))))))))
theorem d_law_tape {P : Program} {w : World} {K : PySem.W.Frag} {mg : Str → Option Value} {base : Heap} {Γ : Ctx} (T : Txt K mg Γ) (G_Tape_init : GMk P w K mg base (PySem.Str.ofString "Tape") Γ.Tape 4 ["self", "marks", "states", "rows"] (sp_Tape_init Γ)) {f : Addr} {cdv : Value} {A : Around} {outer : List Env} {s : Shared} {H : Hp} {E : XK}
    (hr : Room 5 (A.deeper (envOfC "_law_tape" (defScope s_law_tape) s.heap.objs.size f cdv))) :
    LSs (cxOf (L2.CX P w) P w K mg base ["numbers", "most_states", "marks", "states", "rows", "k", "digit"] "_law_tape" (defScope s_law_tape) f cdv A outer s H E) (defBody s_law_tape) (t_law_tape Γ) :=
  (LSs.cons (LS.par 2 3 rfl sc_law_tape.nd (by decide) (LA.cons (PL.LE.add PL.LE.int (PL.LE.mod (PL.LE.ix (PL.LE.var 0) PL.LE.int) PL.LE.int)) (LA.cons (PL.LE.add PL.LE.int (PL.LE.mod (PL.LE.ix (PL.LE.var 0) PL.LE.int) (PL.LE.var 1))) LA.nil)) (by rfl)) (LSs.cons (LS.set 4 sc_law_tape.nd (PL.LE.lstM LA.nil)) (LSs.cons (LS.for (passes_of rfl) rfl (LI.rng1 rfl T.b_range (PL.LE.mul (PL.LE.var 2) (PL.LE.var 3))) (LG.name 5 sc_law_tape.nd) (LSs.cons (LS.set 6 sc_law_tape.nd (PL.LE.ix (PL.LE.var 0) (PL.LE.add PL.LE.int (PL.LE.var 5)))) (LSs.one (LS.ite (PL.LT.eq hr.units (PL.LE.mod (PL.LE.var 6) PL.LE.int) PL.LE.int) (LSs.one (LS.expr (PL.LE.app (PL.LE.var 4) PL.LE.non))) (LSs.one (LS.expr (PL.LE.app (PL.LE.var 4) (PL.LE.tup (LA.cons (PL.LE.mod (PL.LE.var 6) (PL.LE.var 2)) (LA.cons (PL.LE.sub (PL.LE.mul PL.LE.int (PL.LE.mod (PL.LE.div (PL.LE.var 6) PL.LE.int) PL.LE.int)) PL.LE.int) (LA.cons (PL.LE.mod (PL.LE.div (PL.LE.var 6) PL.LE.int) (PL.LE.var 3)) LA.nil))))))))))) (LSs.one (LS.retD [4] (PL.LE.make G_Tape_init (hr.mono (by decide)) rfl (LA.cons (PL.LE.var 2) (LA.cons (PL.LE.var 3) (LA.cons (PL.LE.var 4) LA.nil)))))))))
def b_law_trim_1 (Γ : Ctx) := ((pIfS (pAnd (pTest (pBin oGt (pVar 1) (pC (.int 0)))) (pTest (pBin oEq (pBin oIx (pVar 0) (pBin oSub (pVar 1) (pC (.int 1)))) (pC (.int 0))))) (pSet 1 (pBin oSub (pVar 1) (pC (.int 1)))) pNext) : PTS)
def t_law_trim (Γ : Ctx) : PTS := (pSeq (pSet 1 (pCallB (on1 kLen) (pCons (pVar 0) pNil))) (pSeq (pFor (piR1 (pCallB (on1 kLen) (pCons (pVar 0) pNil))) (gpName 2) (b_law_trim_1 Γ)) (pRet (pCallB (on1 kTup) (pCons (pSl (pVar 0) pNoPart (pPart (pVar 1))) pNil)))))
theorem d_law_trim {P : Program} {w : World} {K : PySem.W.Frag} {mg : Str → Option Value} {base : Heap} {Γ : Ctx} (T : Txt K mg Γ)  {f : Addr} {cdv : Value} {A : Around} {outer : List Env} {s : Shared} {H : Hp} {E : XK}
    (hr : Room 0 (A.deeper (envOfC "_law_trim" (defScope s_law_trim) s.heap.objs.size f cdv))) :
    LSs (cxOf (L2.CX P w) P w K mg base ["row", "end", "k"] "_law_trim" (defScope s_law_trim) f cdv A outer s H E) (defBody s_law_trim) (t_law_trim Γ) :=
  (LSs.cons (LS.set 1 sc_law_trim.nd (PL.LE.len rfl T.b_len (LA.cons (PL.LE.var 0) LA.nil))) (LSs.cons (LS.for (passes_of rfl) rfl (LI.rng1 rfl T.b_range (PL.LE.len rfl T.b_len (LA.cons (PL.LE.var 0) LA.nil))) (LG.name 2 sc_law_trim.nd) (LSs.one (LS.ite (LW.lt (LW.and (PL.LT.gt (PL.LE.var 1) PL.LE.int) (LW.and1 (PL.LT.eq hr.units (PL.LE.ix (PL.LE.var 0) (PL.LE.sub (PL.LE.var 1) PL.LE.int)) PL.LE.int)))) (LSs.one (LS.set 1 sc_law_trim.nd (PL.LE.sub (PL.LE.var 1) PL.LE.int))) LSs.nil))) (LSs.one (LS.ret (PL.LE.tupOf rfl T.b_tuple (LA.cons (PL.LE.slice (PL.LE.var 0) LO.none (LO.some (PL.LE.var 1))) LA.nil))))))
def t_law_upper (Γ : Ctx) : PTS := (pSeq (pSet 2 (pCall (sp_law_digits Γ) (pCons (pVar 1) (pCons (pC (.int 10)) (pCons (pC (.int 60)) pNil))))) (pSeq (pSet 3 (pCall (sp_law_trim Γ) (pCons (pLc (piL (pSl (pVar 2) (pPart (pC (.int 3))) (pPart (pBin oAdd (pC (.int 3)) (pBin oMod (pBin oIx (pVar 2) (pC (.int 0))) (pC (.int 4))))))) 5 pYes (pBin oMod (pVar 5) (pFld Γ.Tape (pVar 0) (PySem.Str.ofString "marks")))) pNil))) (pSeq (pSet 4 (pCall (sp_law_trim Γ) (pCons (pLc (piL (pSl (pVar 2) (pPart (pC (.int 6))) (pPart (pBin oAdd (pC (.int 6)) (pBin oMod (pBin oIx (pVar 2) (pC (.int 1))) (pC (.int 4))))))) 5 pYes (pBin oMod (pVar 5) (pFld Γ.Tape (pVar 0) (PySem.Str.ofString "marks")))) pNil))) (pRet (pTup (pCons (pBin oMod (pBin oIx (pVar 2) (pC (.int 2))) (pFld Γ.Tape (pVar 0) (PySem.Str.ofString "states"))) (pCons (pVar 3) (pCons (pBin oMod (pBin oDiv (pBin oIx (pVar 2) (pC (.int 2))) (pC (.int 12))) (pFld Γ.Tape (pVar 0) (PySem.Str.ofString "marks"))) (pCons (pVar 4) pNil)))))))))
theorem d_law_upper {P : Program} {w : World} {K : PySem.W.Frag} {mg : Str → Option Value} {base : Heap} {Γ : Ctx} (T : Txt K mg Γ) (G_law_digits : GFn P w K mg base (PySem.Str.ofString "_law_digits") 2 ["cell", "count", "many"] (sp_law_digits Γ)) (G_law_trim : GFn P w K mg base (PySem.Str.ofString "_law_trim") 1 ["row"] (sp_law_trim Γ)) {f : Addr} {cdv : Value} {A : Around} {outer : List Env} {s : Shared} {H : Hp} {E : XK}
    (hr : Room 2 (A.deeper (envOfC "_law_upper" (defScope s_law_upper) s.heap.objs.size f cdv))) :
    LSs (cxOf (L2.CX P w) P w K mg base ["machine", "cell", "digits", "left", "right", "one"] "_law_upper" (defScope s_law_upper) f cdv A outer s H E) (defBody s_law_upper) (t_law_upper Γ) :=
  (LSs.cons (LS.set 2 sc_law_upper.nd (PL.LE.call G_law_digits (hr.mono (by decide)) rfl (LA.cons (PL.LE.var 1) (LA.cons PL.LE.int (LA.cons PL.LE.int LA.nil))))) (LSs.cons (LS.set 3 sc_law_upper.nd (PL.LE.call G_law_trim (hr.mono (by decide)) rfl (LA.cons (PL.LE.lc rfl sc_law_upper.nd (LI.list (PL.LE.slice (PL.LE.var 2) (LO.some PL.LE.int) (LO.some (PL.LE.add PL.LE.int (PL.LE.mod (PL.LE.ix (PL.LE.var 2) PL.LE.int) PL.LE.int))))) (blkOk_by (N := ["machine", "cell", "digits", "left", "right", "one"]) (sc := defScope s_law_upper) (by decide +kernel)) (fun _ _ _ _ _ => pg_name (i := 5) sc_law_upper.nd rfl (Or.inl rfl)) (fun _ _ _ _ _ => LTs.nil) (fun _ _ _ _ _ => (PL.LE.mod (PL.LE.var 5) (PL.LE.fld T.cTape.cl T.cTape.n_marks (PL.LE.var 0))))) LA.nil))) (LSs.cons (LS.set 4 sc_law_upper.nd (PL.LE.call G_law_trim (hr.mono (by decide)) rfl (LA.cons (PL.LE.lc rfl sc_law_upper.nd (LI.list (PL.LE.slice (PL.LE.var 2) (LO.some PL.LE.int) (LO.some (PL.LE.add PL.LE.int (PL.LE.mod (PL.LE.ix (PL.LE.var 2) PL.LE.int) PL.LE.int))))) (blkOk_by (N := ["machine", "cell", "digits", "left", "right", "one"]) (sc := defScope s_law_upper) (by decide +kernel)) (fun _ _ _ _ _ => pg_name (i := 5) sc_law_upper.nd rfl (Or.inl rfl)) (fun _ _ _ _ _ => LTs.nil) (fun _ _ _ _ _ => (PL.LE.mod (PL.LE.var 5) (PL.LE.fld T.cTape.cl T.cTape.n_marks (PL.LE.var 0))))) LA.nil))) (LSs.one (LS.ret (PL.LE.tup (LA.cons (PL.LE.mod (PL.LE.ix (PL.LE.var 2) PL.LE.int) (PL.LE.fld T.cTape.cl T.cTape.n_states (PL.LE.var 0))) (LA.cons (PL.LE.var 3) (LA.cons (PL.LE.mod (PL.LE.div (PL.LE.ix (PL.LE.var 2) PL.LE.int) PL.LE.int) (PL.LE.fld T.cTape.cl T.cTape.n_marks (PL.LE.var 0))) (LA.cons (PL.LE.var 4) LA.nil))))))))))
def t_law_line (Γ : Ctx) : PTS := (pSeq (pAsg (pVar 1) (gpTup 4 (gpCons (gpName 2) (gpCons (gpName 3) (gpCons (gpName 4) (gpCons (gpName 5) gpNil)))))) (pSeq (pSet 6 (pBin oAdd (pLc (piT (pRevT (pVar 3))) 7 pYes (pTup (pCons (pC (.int 0)) (pCons (pVar 7) (pCons (pC (.int 0)) pNil))))) (pLst (pCons (pTup (pCons (pC (.int 0)) (pCons (pBin oAdd (pBin oMul (pFld Γ.Tape (pVar 0) (PySem.Str.ofString "marks")) (pBin oAdd (pVar 2) (pC (.int 1)))) (pVar 4)) (pCons (pC (.int 0)) pNil)))) pNil)))) (pRet (pCallB (on1 kTup) (pCons (pBin oAdd (pVar 6) (pLc (piT (pVar 5)) 7 pYes (pTup (pCons (pC (.int 0)) (pCons (pVar 7) (pCons (pC (.int 0)) pNil)))))) pNil)))))
theorem d_law_line {P : Program} {w : World} {K : PySem.W.Frag} {mg : Str → Option Value} {base : Heap} {Γ : Ctx} (T : Txt K mg Γ)  {f : Addr} {cdv : Value} {A : Around} {outer : List Env} {s : Shared} {H : Hp} {E : XK}
    (hr : Room 0 (A.deeper (envOfC "_law_line" (defScope s_law_line) s.heap.objs.size f cdv))) :
    LSs (cxOf (L2.CX P w) P w K mg base ["machine", "configuration", "state", "left", "mark", "right", "cells", "one"] "_law_line" (defScope s_law_line) f cdv A outer s H E) (defBody s_law_line) (t_law_line Γ) :=
  (LSs.cons (LS.asg (PL.LE.var 1) (LG.tup rfl (LGs.cons (LG.name 2 sc_law_line.nd) (LGs.cons (LG.name 3 sc_law_line.nd) (LGs.cons (LG.name 4 sc_law_line.nd) (LGs.cons (LG.name 5 sc_law_line.nd) LGs.nil)))))) (LSs.cons (LS.set 6 sc_law_line.nd (PL.LE.add (PL.LE.lc rfl sc_law_line.nd (LI.tup (PL.LE.revT (PL.LE.var 3))) (blkOk_by (N := ["machine", "configuration", "state", "left", "mark", "right", "cells", "one"]) (sc := defScope s_law_line) (by decide +kernel)) (fun _ _ _ _ _ => pg_name (i := 7) sc_law_line.nd rfl (Or.inl rfl)) (fun _ _ _ _ _ => LTs.nil) (fun _ _ _ _ _ => (PL.LE.tup (LA.cons PL.LE.int (LA.cons (PL.LE.var 7) (LA.cons PL.LE.int LA.nil)))))) (PL.LE.lst (LA.cons (PL.LE.tup (LA.cons PL.LE.int (LA.cons (PL.LE.add (PL.LE.mul (PL.LE.fld T.cTape.cl T.cTape.n_marks (PL.LE.var 0)) (PL.LE.add (PL.LE.var 2) PL.LE.int)) (PL.LE.var 4)) (LA.cons PL.LE.int LA.nil)))) LA.nil)))) (LSs.one (LS.ret (PL.LE.tupOf rfl T.b_tuple (LA.cons (PL.LE.add (PL.LE.var 6) (PL.LE.lc rfl sc_law_line.nd (LI.tup (PL.LE.var 5)) (blkOk_by (N := ["machine", "configuration", "state", "left", "mark", "right", "cells", "one"]) (sc := defScope s_law_line) (by decide +kernel)) (fun _ _ _ _ _ => pg_name (i := 7) sc_law_line.nd rfl (Or.inl rfl)) (fun _ _ _ _ _ => LTs.nil) (fun _ _ _ _ _ => (PL.LE.tup (LA.cons PL.LE.int (LA.cons (PL.LE.var 7) (LA.cons PL.LE.int LA.nil))))))) LA.nil))))))
def b_law_past_1 (Γ : Ctx) := ((pDrop (pApp (pVar 2) (pMeth Γ.FlyStair (PySem.Str.ofString "up") (sp_FlyStair_up Γ) (pVar 0) (pCons (pMeth Γ.Parts (PySem.Str.ofString "run_back") (sp_Parts_run_back Γ) (pFld Γ.FlyStair (pVar 0) (PySem.Str.ofString "lower")) (pCons (pVar 1) (pCons (pBin oMul (pC (.int 2)) (pVar 3)) pNil))) pNil)))) : PTS)
def t_law_past (Γ : Ctx) : PTS := (pSeq (pSet 2 (pLstM pNil)) (pSeq (pFor (piR1 (pBin oAdd (pCallB (on1 kLen) (pCons (pMeth Γ.FlyStair (PySem.Str.ofString "memories") (sp_FlyStair_memories Γ) (pVar 0) (pCons (pVar 1) pNil)) pNil)) (pC (.int 1)))) (gpName 3) (b_law_past_1 Γ)) (pRetF (pVar 2))))
theorem d_law_past {P : Program} {w : World} {K : PySem.W.Frag} {mg : Str → Option Value} {base : Heap} {Γ : Ctx} (T : Txt K mg Γ) (G_FlyStair_up : GMt P w K mg base Γ.FlyStair (PySem.Str.ofString "up") 3 ["self", "configuration"] (sp_FlyStair_up Γ)) (G_FlyStair_memories : GMt P w K mg base Γ.FlyStair (PySem.Str.ofString "memories") 2 ["self", "configuration"] (sp_FlyStair_memories Γ)) (G_Parts_run_back : GMt P w K mg base Γ.Parts (PySem.Str.ofString "run_back") 3 ["self", "configuration", "steps"] (sp_Parts_run_back Γ)) {f : Addr} {cdv : Value} {A : Around} {outer : List Env} {s : Shared} {H : Hp} {E : XK}
    (hr : Room 3 (A.deeper (envOfC "_law_past" (defScope s_law_past) s.heap.objs.size f cdv))) :
    LSs (cxOf (L2.CX P w) P w K mg base ["stair", "line", "found", "k"] "_law_past" (defScope s_law_past) f cdv A outer s H E) (defBody s_law_past) (t_law_past Γ) :=
  (LSs.cons (LS.set 2 sc_law_past.nd (PL.LE.lstM LA.nil)) (LSs.cons (LS.for (passes_of rfl) rfl (LI.rng1 rfl T.b_range (PL.LE.add (PL.LE.len rfl T.b_len (LA.cons (PL.LE.meth G_FlyStair_memories T.cFlyStair.cl (hr.mono (by decide)) (PL.LE.var 0) (LA.cons (PL.LE.var 1) LA.nil)) LA.nil)) PL.LE.int)) (LG.name 3 sc_law_past.nd) (LSs.one (LS.expr (PL.LE.app (PL.LE.var 2) (PL.LE.meth G_FlyStair_up T.cFlyStair.cl (hr.mono (by decide)) (PL.LE.var 0) (LA.cons (PL.LE.meth G_Parts_run_back T.cParts.cl (hr.mono (by decide)) (PL.LE.fld T.cFlyStair.cl T.cFlyStair.n_lower (PL.LE.var 0)) (LA.cons (PL.LE.var 1) (LA.cons (PL.LE.mul PL.LE.int (PL.LE.var 3)) LA.nil))) LA.nil)))))) (LSs.one (LS.retF (PL.LE.var 2)))))
def t_law_asked (Γ : Ctx) : PTS := (pTryAs 3 2 (fun C => Γ.exm C Γ.BackError) (pRet (pCall (sp_past Γ) (pCons (pVar 0) (pCons (pVar 1) pNil)))) (fun C a => (pRet (pBin oIx (pLst (pCons (pC (.str (PySem.Str.ofString "other"))) (pCons (pC (.str (PySem.Str.ofString "refused"))) pNil))) (pCallB (on1 kInt) (pCons (pAndV (fun E σ M Q => (pVar 2) E σ M fun x M1 => kIsE a (Γ.kit C (.ref Γ.BadParts)) x M1 Q) (fun E σ M Q => (pVar 2) E σ M fun x M1 => kIsE a (Γ.kit C (.type "ValueError")) x M1 Q)) pNil))))))
theorem d_law_asked {P : Program} {w : World} {K : PySem.W.Frag} {mg : Str → Option Value} {base : Heap} {Γ : Ctx} (T : Txt K mg Γ) (G_past : GFn P w K mg base (PySem.Str.ofString "past") 4 ["stair", "line"] (sp_past Γ)) {f : Addr} {cdv : Value} {A : Around} {outer : List Env} {s : Shared} {H : Hp} {E : XK}
    (hr : Room 4 (A.deeper (envOfC "_law_asked" (defScope s_law_asked) s.heap.objs.size f cdv))) :
    LSs (cxOf (L2.CX P w) P w K mg base ["stair", "line", "e"] "_law_asked" (defScope s_law_asked) f cdv A outer s H E) (defBody s_law_asked) (t_law_asked Γ) :=
  (LSs.one (LS.tryAs (c := .ref Γ.BackError) (exm := fun C => Γ.exm C Γ.BackError) (i := 2) sc_law_asked.nd ⟨rfl, by decide, .inl T.g_BackError⟩ (fun C b h => T.exm_ok C _ b h) (fun pn xe hp => (LSs.one (LS.ret (PL.LE.call G_past (hr.mono (by decide)) rfl (LA.cons (PL.LE.var 0) (LA.cons (PL.LE.var 1) LA.nil)))))) (fun C b a oe pn hC hz hf => (LSs.one (LS.ret (PL.LE.ix (PL.LE.lst (LA.cons PL.LE.str (LA.cons PL.LE.str LA.nil))) (PL.LE.intOf rfl T.b_int (LA.cons (PL.LE.and (PL.LE.isE (CY := Γ.BadParts) (T.exm_cls _ _ _ hC) hz hf rfl T.b_isinstance rfl T.g_BadParts (T.kit_ok C (.ref Γ.BadParts)) (PL.LE.var 2)) (PL.LE.one (PL.LE.isEB (Ys := "ValueError") (T.exm_cls _ _ _ hC) hz hf rfl T.b_isinstance rfl T.b_ValueError (by decide +kernel) (T.kit_ok C (.type "ValueError")) (PL.LE.var 2)))) LA.nil))))))))
def r_law_15 (Γ : Ctx) := ((pRet (pBin oEq (pCall (sp_law_asked Γ) (pCons (pVar 2) (pCons (pVar 6) pNil))) (pVar 8))) : PTS)
def r_law_14 (Γ : Ctx) := ((pSeq (pIfS (pTest (pBin oInL (pC .non) (pVar 8))) (pRet (pBin oEq (pCall (sp_law_asked Γ) (pCons (pVar 2) (pCons (pVar 6) pNil))) (pC (.str (PySem.Str.ofString "refused"))))) pNext) (r_law_15 Γ)) : PTS)
def r_law_13 (Γ : Ctx) := ((pSeq (pSet 8 (pCall (sp_law_past Γ) (pCons (pVar 2) (pCons (pVar 6) pNil)))) (r_law_14 Γ)) : PTS)
def r_law_12 (Γ : Ctx) := ((pSeq (pIfS (pTest (pBin oGt (pCallB (on1 kLen) (pCons (pVar 7) pNil)) (pC (.int 0)))) (pSet 6 (pSl (pVar 6) (pPart (pBin oIx (pVar 7) (pC (.int 0)))) (pPart (pBin oAdd (pBin oIx (pVar 7) (pNeg (pC (.int 1)))) (pC (.int 1)))))) pNext) (r_law_13 Γ)) : PTS)
def r_law_11 (Γ : Ctx) := ((pSeq (pSet 7 (pLc (piR1 (pCallB (on1 kLen) (pCons (pVar 6) pNil))) 10 (pTest (pBin oNe (pBin oIx (pVar 6) (pVar 10)) (pTup (pCons (pC (.int 0)) (pCons (pC (.int 0)) (pCons (pC (.int 0)) pNil)))))) (pVar 10))) (r_law_12 Γ)) : PTS)
def r_law_10 (Γ : Ctx) := ((pSeq (pIfS (pTest (pBin oEq (pBin oMod (pBin oIx (pVar 5) (pC (.int 9))) (pC (.int 4))) (pC (.int 2)))) (pSet 6 (pBin oAdd (pVar 6) (pCall (sp_law_line Γ) (pCons (pVar 1) (pCons (pVar 3) pNil))))) pNext) (r_law_11 Γ)) : PTS)
def r_law_9 (Γ : Ctx) := ((pSeq (pIfS (pTest (pBin oEq (pBin oMod (pBin oIx (pVar 5) (pC (.int 9))) (pC (.int 4))) (pC (.int 1)))) (pSet 6 (pMeth Γ.Parts (PySem.Str.ofString "run") (sp_Parts_run Γ) (pFld Γ.FlyStair (pVar 2) (PySem.Str.ofString "lower")) (pCons (pVar 6) (pCons (pBin oAdd (pC (.int 1)) (pBin oMod (pBin oIx (pVar 5) (pC (.int 10))) (pC (.int 4)))) pNil)))) pNext) (r_law_10 Γ)) : PTS)
def r_law_8 (Γ : Ctx) := ((pSeq (pIfS (pTest (pBin oGt (pCallB (on1 kLen) (pCons (pVar 7) pNil)) (pC (.int 0)))) (pSet 6 (pSl (pVar 6) (pPart (pBin oIx (pVar 7) (pC (.int 0)))) (pPart (pBin oAdd (pBin oIx (pVar 7) (pNeg (pC (.int 1)))) (pC (.int 1)))))) pNext) (r_law_9 Γ)) : PTS)
def r_law_7 (Γ : Ctx) := ((pSeq (pSet 7 (pLc (piR1 (pCallB (on1 kLen) (pCons (pVar 6) pNil))) 10 (pTest (pBin oNe (pBin oIx (pVar 6) (pVar 10)) (pTup (pCons (pC (.int 0)) (pCons (pC (.int 0)) (pCons (pC (.int 0)) pNil)))))) (pVar 10))) (r_law_8 Γ)) : PTS)
def r_law_6 (Γ : Ctx) := ((pSeq (pSet 6 (pBin oAdd (pCallB (on1 kTup) (pCons (pVar 6) pNil)) (pCall (sp_law_line Γ) (pCons (pVar 1) (pCons (pVar 3) pNil))))) (r_law_7 Γ)) : PTS)
def r_law_5 (Γ : Ctx) := ((pSeq (pSet 6 (pLc (piR1 (pBin oMod (pBin oIx (pVar 5) (pC (.int 8))) (pC (.int 4)))) 9 pYes (pTup (pCons (pBin oMul (pBin oMod (pBin oIx (pVar 5) (pVar 9)) (pVar 4)) (pCallB (on1 kInt) (pCons (pBin oEq (pBin oMod (pBin oDiv (pBin oIx (pVar 5) (pVar 9)) (pC (.int 16))) (pC (.int 3))) (pC (.int 0))) pNil))) (pCons (pBin oMod (pBin oDiv (pBin oIx (pVar 5) (pVar 9)) (pC (.int 60))) (pFld Γ.Tape (pVar 1) (PySem.Str.ofString "marks"))) (pCons (pC (.int 0)) pNil)))))) (r_law_6 Γ)) : PTS)
def r_law_4 (Γ : Ctx) := ((pSeq (pSet 5 (pCall (sp_law_digits Γ) (pCons (pCall (sp_law_cell Γ) (pCons (pVar 0) (pCons (pC (.int 2)) pNil))) (pCons (pC (.int 12)) (pCons (pC (.int 840)) pNil))))) (r_law_5 Γ)) : PTS)
def r_law_3 (Γ : Ctx) := ((pSeq (pSet 4 (pBin oAdd (pBin oMul (pFld Γ.Tape (pVar 1) (PySem.Str.ofString "states")) (pFld Γ.Tape (pVar 1) (PySem.Str.ofString "marks"))) (pC (.int 1)))) (r_law_4 Γ)) : PTS)
def r_law_2 (Γ : Ctx) := ((pSeq (pSet 3 (pCall (sp_law_upper Γ) (pCons (pVar 1) (pCons (pCall (sp_law_cell Γ) (pCons (pVar 0) (pCons (pC (.int 1)) pNil))) pNil)))) (r_law_3 Γ)) : PTS)
def r_law_1 (Γ : Ctx) := ((pSeq (pSet 2 (pMake Γ.FlyStair (sp_FlyStair_init Γ) (pCons (pVar 1) pNil))) (r_law_2 Γ)) : PTS)
def t_law (Γ : Ctx) : PTS := (pSeq (pSet 1 (pCall (sp_law_tape Γ) (pCons (pCall (sp_law_digits Γ) (pCons (pCall (sp_law_cell Γ) (pCons (pVar 0) (pCons (pC (.int 0)) pNil))) (pCons (pC (.int 16)) (pCons (pC (.int 200)) pNil)))) (pCons (pC (.int 3)) pNil)))) (r_law_1 Γ))
theorem d_law {P : Program} {w : World} {K : PySem.W.Frag} {mg : Str → Option Value} {base : Heap} {Γ : Ctx} (T : Txt K mg Γ) (G_law_tape : GFn P w K mg base (PySem.Str.ofString "_law_tape") 6 ["numbers", "most_states"] (sp_law_tape Γ)) (G_FlyStair_init : GMk P w K mg base (PySem.Str.ofString "FlyStair") Γ.FlyStair 7 ["self", "machine"] (sp_FlyStair_init Γ)) (G_law_upper : GFn P w K mg base (PySem.Str.ofString "_law_upper") 3 ["machine", "cell"] (sp_law_upper Γ)) (G_law_digits : GFn P w K mg base (PySem.Str.ofString "_law_digits") 2 ["cell", "count", "many"] (sp_law_digits Γ)) (G_law_past : GFn P w K mg base (PySem.Str.ofString "_law_past") 4 ["stair", "line"] (sp_law_past Γ)) (G_law_cell : GFn P w K mg base (PySem.Str.ofString "_law_cell") 1 ["script", "k"] (sp_law_cell Γ)) (G_law_line : GFn P w K mg base (PySem.Str.ofString "_law_line") 1 ["machine", "configuration"] (sp_law_line Γ)) (G_Parts_run : GMt P w K mg base Γ.Parts (PySem.Str.ofString "run") 3 ["self", "configuration", "steps"] (sp_Parts_run Γ)) (G_law_asked : GFn P w K mg base (PySem.Str.ofString "_law_asked") 5 ["stair", "line"] (sp_law_asked Γ)) {f : Addr} {cdv : Value} {A : Around} {outer : List Env} {s : Shared} {H : Hp} {E : XK}
    (hr : Room 8 (A.deeper (envOfC "law" (defScope s_law) s.heap.objs.size f cdv))) :
    LSs (cxOf (L2.CX P w) P w K mg base ["script", "machine", "stair", "upper", "size", "digits", "line", "while_zero", "due", "k", "at"] "law" (defScope s_law) f cdv A outer s H E) (defBody s_law) (t_law Γ) :=
  (LSs.cons (LS.set 1 sc_law.nd (PL.LE.call G_law_tape (hr.mono (by decide)) rfl (LA.cons (PL.LE.call G_law_digits (hr.mono (by decide)) rfl (LA.cons (PL.LE.call G_law_cell (hr.mono (by decide)) rfl (LA.cons (PL.LE.var 0) (LA.cons PL.LE.int LA.nil))) (LA.cons PL.LE.int (LA.cons PL.LE.int LA.nil)))) (LA.cons PL.LE.int LA.nil)))) (LSs.cons (LS.set 2 sc_law.nd (PL.LE.make G_FlyStair_init (hr.mono (by decide)) rfl (LA.cons (PL.LE.var 1) LA.nil))) (LSs.cons (LS.set 3 sc_law.nd (PL.LE.call G_law_upper (hr.mono (by decide)) rfl (LA.cons (PL.LE.var 1) (LA.cons (PL.LE.call G_law_cell (hr.mono (by decide)) rfl (LA.cons (PL.LE.var 0) (LA.cons PL.LE.int LA.nil))) LA.nil)))) (LSs.cons (LS.set 4 sc_law.nd (PL.LE.add (PL.LE.mul (PL.LE.fld T.cTape.cl T.cTape.n_states (PL.LE.var 1)) (PL.LE.fld T.cTape.cl T.cTape.n_marks (PL.LE.var 1))) PL.LE.int)) (LSs.cons (LS.set 5 sc_law.nd (PL.LE.call G_law_digits (hr.mono (by decide)) rfl (LA.cons (PL.LE.call G_law_cell (hr.mono (by decide)) rfl (LA.cons (PL.LE.var 0) (LA.cons PL.LE.int LA.nil))) (LA.cons PL.LE.int (LA.cons PL.LE.int LA.nil))))) (LSs.cons (LS.set 6 sc_law.nd (PL.LE.lc rfl sc_law.nd (LI.rng1 rfl T.b_range (PL.LE.mod (PL.LE.ix (PL.LE.var 5) PL.LE.int) PL.LE.int)) (blkOk_by (N := ["script", "machine", "stair", "upper", "size", "digits", "line", "while_zero", "due", "k", "at"]) (sc := defScope s_law) (by decide +kernel)) (fun _ _ _ _ _ => pg_name (i := 9) sc_law.nd rfl (Or.inl rfl)) (fun _ _ _ _ _ => LTs.nil) (fun _ _ _ _ _ => (PL.LE.tup (LA.cons (PL.LE.mul (PL.LE.mod (PL.LE.ix (PL.LE.var 5) (PL.LE.var 9)) (PL.LE.var 4)) (PL.LE.intOf rfl T.b_int (LA.cons (PL.LE.eq hr.units (PL.LE.mod (PL.LE.div (PL.LE.ix (PL.LE.var 5) (PL.LE.var 9)) PL.LE.int) PL.LE.int) PL.LE.int) LA.nil))) (LA.cons (PL.LE.mod (PL.LE.div (PL.LE.ix (PL.LE.var 5) (PL.LE.var 9)) PL.LE.int) (PL.LE.fld T.cTape.cl T.cTape.n_marks (PL.LE.var 1))) (LA.cons PL.LE.int LA.nil))))))) (LSs.cons (LS.set 6 sc_law.nd (PL.LE.add (PL.LE.tupOf rfl T.b_tuple (LA.cons (PL.LE.var 6) LA.nil)) (PL.LE.call G_law_line (hr.mono (by decide)) rfl (LA.cons (PL.LE.var 1) (LA.cons (PL.LE.var 3) LA.nil))))) (LSs.cons (LS.setLc 7 rfl sc_law.nd rfl rfl (sw_true rfl rfl rfl (by decide +kernel)) (LI.rng1 rfl T.b_range (PL.LE.len rfl T.b_len (LA.cons (PL.LE.var 6) LA.nil))) (blkOk_by (N := ["script", "machine", "stair", "upper", "size", "digits", "line", "while_zero", "due", "k", "at"]) (sc := defScope s_law) (by decide +kernel)) (fun _ _ _ _ _ => pg_name (i := 10) sc_law.nd rfl (Or.inl rfl)) (fun _ _ _ _ _ => (LTs.one (PL.LT.ne hr.units (PL.LE.ix (PL.LE.var 6) (PL.LE.var 10)) (PL.LE.tup (LA.cons PL.LE.int (LA.cons PL.LE.int (LA.cons PL.LE.int LA.nil))))))) (fun _ _ _ _ _ => (PL.LE.var 10))) (LSs.cons (LS.ite (PL.LT.gt (PL.LE.len rfl T.b_len (LA.cons (PL.LE.var 7) LA.nil)) PL.LE.int) (LSs.one (LS.set 6 sc_law.nd (PL.LE.slice (PL.LE.var 6) (LO.some (PL.LE.ix (PL.LE.var 7) PL.LE.int)) (LO.some (PL.LE.add (PL.LE.ix (PL.LE.var 7) (PL.LE.neg PL.LE.int)) PL.LE.int))))) LSs.nil) (LSs.cons (LS.ite (PL.LT.eq hr.units (PL.LE.mod (PL.LE.ix (PL.LE.var 5) PL.LE.int) PL.LE.int) PL.LE.int) (LSs.one (LS.set 6 sc_law.nd (PL.LE.meth G_Parts_run T.cParts.cl (hr.mono (by decide)) (PL.LE.fld T.cFlyStair.cl T.cFlyStair.n_lower (PL.LE.var 2)) (LA.cons (PL.LE.var 6) (LA.cons (PL.LE.add PL.LE.int (PL.LE.mod (PL.LE.ix (PL.LE.var 5) PL.LE.int) PL.LE.int)) LA.nil))))) LSs.nil) (LSs.cons (LS.ite (PL.LT.eq hr.units (PL.LE.mod (PL.LE.ix (PL.LE.var 5) PL.LE.int) PL.LE.int) PL.LE.int) (LSs.one (LS.set 6 sc_law.nd (PL.LE.add (PL.LE.var 6) (PL.LE.call G_law_line (hr.mono (by decide)) rfl (LA.cons (PL.LE.var 1) (LA.cons (PL.LE.var 3) LA.nil)))))) LSs.nil) (LSs.cons (LS.setLc 7 rfl sc_law.nd rfl rfl (sw_true rfl rfl rfl (by decide +kernel)) (LI.rng1 rfl T.b_range (PL.LE.len rfl T.b_len (LA.cons (PL.LE.var 6) LA.nil))) (blkOk_by (N := ["script", "machine", "stair", "upper", "size", "digits", "line", "while_zero", "due", "k", "at"]) (sc := defScope s_law) (by decide +kernel)) (fun _ _ _ _ _ => pg_name (i := 10) sc_law.nd rfl (Or.inl rfl)) (fun _ _ _ _ _ => (LTs.one (PL.LT.ne hr.units (PL.LE.ix (PL.LE.var 6) (PL.LE.var 10)) (PL.LE.tup (LA.cons PL.LE.int (LA.cons PL.LE.int (LA.cons PL.LE.int LA.nil))))))) (fun _ _ _ _ _ => (PL.LE.var 10))) (LSs.cons (LS.ite (PL.LT.gt (PL.LE.len rfl T.b_len (LA.cons (PL.LE.var 7) LA.nil)) PL.LE.int) (LSs.one (LS.set 6 sc_law.nd (PL.LE.slice (PL.LE.var 6) (LO.some (PL.LE.ix (PL.LE.var 7) PL.LE.int)) (LO.some (PL.LE.add (PL.LE.ix (PL.LE.var 7) (PL.LE.neg PL.LE.int)) PL.LE.int))))) LSs.nil) (LSs.cons (LS.set 8 sc_law.nd (PL.LE.call G_law_past (hr.mono (by decide)) rfl (LA.cons (PL.LE.var 2) (LA.cons (PL.LE.var 6) LA.nil)))) (LSs.cons (LS.ite (PL.LT.inL (Room.units65 hr) PL.LE.non (PL.LE.var 8)) (LSs.one (LS.ret (PL.LE.eq hr.units (PL.LE.call G_law_asked (hr.mono (by decide)) rfl (LA.cons (PL.LE.var 2) (LA.cons (PL.LE.var 6) LA.nil))) PL.LE.str))) LSs.nil) (LSs.one (LS.ret (PL.LE.eq hr.units (PL.LE.call G_law_asked (hr.mono (by decide)) rfl (LA.cons (PL.LE.var 2) (LA.cons (PL.LE.var 6) LA.nil))) (PL.LE.var 8)))))))))))))))))))
end My
set_option Elab.async false
set_option linter.all false
set_option maxRecDepth 100000
namespace My
open PySem PL PD
/-! ### triples -/
theorem mem_trL {z : Sz} {t : T3} : t ∈ trL z ↔ inZ z t := by
  unfold trL inZ
  constructor
  · intro h
    obtain ⟨l, hl, h⟩ := List.mem_flatten.mp h
    obtain ⟨i, hi, rfl⟩ := List.mem_map.mp hl
    obtain ⟨l2, hl2, h⟩ := List.mem_flatten.mp h
    obtain ⟨j, hj, rfl⟩ := List.mem_map.mp hl2
    obtain ⟨k, hk, rfl⟩ := List.mem_map.mp h
    have := List.mem_range.mp hi
    have := List.mem_range.mp hj
    have := List.mem_range.mp hk
    exact ⟨⟨by show (0 : Int) ≤ (i : Int); omega, by show (i : Int) < z.a; omega⟩, ⟨by show (0 : Int) ≤ (j : Int); omega, by show (j : Int) < z.b; omega⟩, by show (0 : Int) ≤ (k : Int); omega, by show (k : Int) < z.c; omega⟩
  · rintro ⟨⟨h1, h2⟩, ⟨h3, h4⟩, h5, h6⟩
    obtain ⟨x, y, u⟩ := t
    dsimp only at h1 h2 h3 h4 h5 h6
    refine List.mem_flatten.mpr ⟨_, List.mem_map.mpr ⟨x.toNat, List.mem_range.mpr (by omega), rfl⟩, List.mem_flatten.mpr ⟨_, List.mem_map.mpr ⟨y.toNat, List.mem_range.mpr (by omega), rfl⟩, List.mem_map.mpr ⟨u.toNat, List.mem_range.mpr (by omega), ?_⟩⟩⟩
    rw [Int.toNat_of_nonneg h1, Int.toNat_of_nonneg h3, Int.toNat_of_nonneg h5]
theorem trL_nodup (z : Sz) : (trL z).Nodup := by
  unfold trL List.Nodup
  rw [List.pairwise_flatten]
  constructor
  · intro l hl
    obtain ⟨i, _, rfl⟩ := List.mem_map.mp hl
    rw [List.pairwise_flatten]
    constructor
    · intro l hl
      obtain ⟨j, _, rfl⟩ := List.mem_map.mp hl
      rw [List.pairwise_map]
      exact List.Pairwise.imp (fun h e => h (by injection e with _ e; injection e with _ e; omega)) List.nodup_range
    · rw [List.pairwise_map]
      refine List.Pairwise.imp (fun {a b} h x hx y hy e => ?_) List.nodup_range
      obtain ⟨_, _, rfl⟩ := List.mem_map.mp hx
      obtain ⟨_, _, rfl⟩ := List.mem_map.mp hy
      exact h (by injection e with _ e; injection e with e _; omega)
  · rw [List.pairwise_map]
    refine List.Pairwise.imp (fun {a b} h x hx y hy e => ?_) List.nodup_range
    obtain ⟨l, hl, hx⟩ := List.mem_flatten.mp hx
    obtain ⟨_, _, rfl⟩ := List.mem_map.mp hl
    obtain ⟨_, _, rfl⟩ := List.mem_map.mp hx
    obtain ⟨l, hl, hy⟩ := List.mem_flatten.mp hy
    obtain ⟨_, _, rfl⟩ := List.mem_map.mp hl
    obtain ⟨_, _, rfl⟩ := List.mem_map.mp hy
    exact h (by injection e with e _; omega)
theorem len_flat {α β : Type} (f : α → List β) (n : Nat) : ∀ xs : List α, (∀ x ∈ xs, (f x).length = n) → ((xs.map f).flatten).length = xs.length * n
  | [], _ => by simp
  | x :: xs, h => by
    rw [List.map_cons, List.flatten_cons, List.length_append, h x List.mem_cons_self, len_flat f n xs fun y hy => h y (List.mem_cons_of_mem _ hy), List.length_cons, Nat.succ_mul, Nat.add_comm]
theorem trL_len (z : Sz) : (trL z).length = z.a * (z.b * z.c) := by
  unfold trL
  rw [len_flat _ (z.b * z.c) _ fun x _ => ?_, List.length_range]
  rw [len_flat _ z.c _ fun x _ => ?_, List.length_range]
  rw [List.length_map, List.length_range]
theorem trL_rev (z : Sz) : (trL z.rev).length = (trL z).length := by
  rw [trL_len, trL_len]
  show z.c * (z.b * z.a) = _
  rw [← Nat.mul_assoc, Nat.mul_comm (z.c * z.b), Nat.mul_comm z.c]
theorem miss_len {L K : List T3} (hL : L.Nodup) (hK : K.Nodup) (h : ∀ k ∈ K, k ∈ L) : (L.filter fun t => decide (t ∉ K)).length + K.length = L.length := by
  induction L generalizing K with
  | nil =>
    have : K = [] := List.eq_nil_iff_forall_not_mem.mpr fun k hk => absurd (h k hk) List.not_mem_nil
    rw [this]; rfl
  | cons x L ih =>
    rw [List.nodup_cons] at hL
    by_cases hx : x ∈ K
    · rw [List.filter_cons, if_neg (by simp [hx])]
      have e : (L.filter fun t => decide (t ∉ K)) = L.filter fun t => decide (t ∉ K.erase x) := by
        apply List.filter_congr
        intro t ht
        have ne : t ≠ x := fun e => hL.1 (e ▸ ht)
        exact decide_eq_decide.mpr (not_congr (List.mem_erase_of_ne ne).symm)
      have := ih hL.2 (hK.erase x) fun k hk => by
        rcases List.mem_cons.mp (h k (List.mem_of_mem_erase hk)) with e | e
        · subst e; exact absurd hk (List.Nodup.not_mem_erase hK)
        · exact e
      rw [e, List.length_cons]
      have l1 := List.length_erase_of_mem hx
      have l2 := List.length_pos_of_mem hx
      omega
    · rw [List.filter_cons, if_pos (by simp [hx]), List.length_cons, List.length_cons]
      have := ih hL.2 hK fun k hk => by
        rcases List.mem_cons.mp (h k hk) with e | e
        · subst e; exact absurd hk hx
        · exact e
      omega
theorem miss_eq {z : Sz} {R : Tb} (h : ChOk z R) : (missK z R).length = (missV z R).length := by
  have a := miss_len (trL_nodup z.rev) h.k fun k hk => by
    obtain ⟨p, hp, rfl⟩ := List.mem_map.mp hk
    exact mem_trL.mpr (h.dom p hp).1
  have b := miss_len (trL_nodup z) h.v fun k hk => by
    obtain ⟨p, hp, rfl⟩ := List.mem_map.mp hk
    exact mem_trL.mpr (h.dom p hp).2
  have c := trL_rev z
  rw [List.length_map] at a b
  unfold missK missV
  omega
theorem full_k {z : Sz} {R : Tb} (h : ChOk z R) : (full z R).map (·.1) = R.map (·.1) ++ missK z R := by
  unfold full
  rw [List.map_append, List.map_fst_zip (by rw [miss_eq h]; exact Nat.le_refl _)]
theorem full_v {z : Sz} {R : Tb} (h : ChOk z R) : (full z R).map (·.2) = R.map (·.2) ++ missV z R := by
  unfold full
  rw [List.map_append, List.map_snd_zip (by rw [miss_eq h]; exact Nat.le_refl _)]
theorem nodup_miss {L K : List T3} (hL : L.Nodup) (hK : K.Nodup) : (K ++ L.filter fun t => decide (t ∉ K)).Nodup := by
  rw [List.nodup_append]
  refine ⟨hK, hL.filter _, fun a ha b hb e => ?_⟩
  have := (List.mem_filter.mp hb).2
  rw [← e] at this
  exact (of_decide_eq_true this) ha
theorem full_ok {z : Sz} {R : Tb} (h : ChOk z R) : FOk z (full z R) where
  dom := fun p hp => by
    rcases List.mem_append.mp hp with hp | hp
    · exact h.dom p hp
    · have := List.of_mem_zip hp
      exact ⟨mem_trL.mp (List.mem_filter.mp this.1).1, mem_trL.mp (List.mem_filter.mp this.2).1⟩
  k := by rw [full_k h]; exact nodup_miss (trL_nodup _) h.k
  v := by rw [full_v h]; exact nodup_miss (trL_nodup _) h.v
  q := List.mem_append_left _ h.q
  ak := fun t ht => by
    rw [full_k h]
    by_cases hm : t ∈ R.map (·.1)
    · exact List.mem_append_left _ hm
    · exact List.mem_append_right _ (List.mem_filter.mpr ⟨mem_trL.mpr ht, decide_eq_true hm⟩)
  av := fun t ht => by
    rw [full_v h]
    by_cases hm : t ∈ R.map (·.2)
    · exact List.mem_append_left _ hm
    · exact List.mem_append_right _ (List.mem_filter.mpr ⟨mem_trL.mpr ht, decide_eq_true hm⟩)
/-! ### looking up -/
theorem look_mem : ∀ {R : Tb} {p : T3 × T3}, (R.map (·.1)).Nodup → p ∈ R → look R p.1 = some p.2
  | x :: R, p, h, hp => by
    rw [List.map_cons, List.nodup_cons] at h
    unfold look
    rcases List.mem_cons.mp hp with e | e
    · subst e
      rw [List.find?_cons_of_pos (by simp)]; rfl
    · have ne : x.1 ≠ p.1 := fun z => h.1 (z ▸ List.mem_map_of_mem e)
      rw [List.find?_cons_of_neg (by simpa using ne)]
      exact look_mem h.2 e
theorem swp_k (R : Tb) : (swp R).map (·.1) = R.map (·.2) := by unfold swp; rw [List.map_map]; rfl
theorem mem_swp {R : Tb} {p : T3 × T3} (h : p ∈ R) : (p.2, p.1) ∈ swp R := List.mem_map.mpr ⟨p, h, rfl⟩
theorem rl_mem {R : Tb} {p : T3 × T3} (h : (R.map (·.1)).Nodup) (hp : p ∈ R) : rl R p.1 = p.2 := by
  unfold rl
  rw [look_mem h hp]; rfl
section
variable {z : Sz} {R : Tb}
theorem FOk.at_k (h : FOk z R) {t : T3} (ht : inZ z.rev t) : ∃ p ∈ R, p.1 = t := by
  obtain ⟨p, hp, e⟩ := List.mem_map.mp (h.ak t ht)
  exact ⟨p, hp, e⟩
theorem FOk.at_v (h : FOk z R) {t : T3} (ht : inZ z t) : ∃ p ∈ R, p.2 = t := by
  obtain ⟨p, hp, e⟩ := List.mem_map.mp (h.av t ht)
  exact ⟨p, hp, e⟩
theorem FOk.rl_in (h : FOk z R) {t : T3} (ht : inZ z.rev t) : inZ z (rl R t) ∧ rl (swp R) (rl R t) = t ∧ look R t = some (rl R t) := by
  obtain ⟨p, hp, rfl⟩ := h.at_k ht
  rw [rl_mem h.k hp]
  exact ⟨(h.dom p hp).2, rl_mem (R := swp R) (p := (p.2, p.1)) (by rw [swp_k]; exact h.v) (mem_swp hp), look_mem h.k hp⟩
theorem FOk.sr_in (h : FOk z R) {t : T3} (ht : inZ z t) : inZ z.rev (rl (swp R) t) ∧ rl R (rl (swp R) t) = t ∧ look (swp R) t = some (rl (swp R) t) := by
  obtain ⟨p, hp, rfl⟩ := h.at_v ht
  have e : rl (swp R) p.2 = p.1 := rl_mem (R := swp R) (p := (p.2, p.1)) (by rw [swp_k]; exact h.v) (mem_swp hp)
  rw [e]
  exact ⟨(h.dom p hp).1, rl_mem h.k hp, look_mem (R := swp R) (p := (p.2, p.1)) (by rw [swp_k]; exact h.v) (mem_swp hp)⟩
theorem FOk.q1 (h : FOk z R) : rl R q0 = q0 := rl_mem h.k h.q
theorem FOk.q2 (h : FOk z R) : rl (swp R) q0 = q0 := rl_mem (R := swp R) (p := (q0, q0)) (by rw [swp_k]; exact h.v) (mem_swp h.q)
end
theorem inZ_q {z : Sz} (h : BxOk z) : inZ z q0 := ⟨⟨by decide, by show (0 : Int) < z.a; have := h.a1; omega⟩, ⟨by decide, by show (0 : Int) < z.b; have := h.b1; omega⟩, by decide, by show (0 : Int) < z.c; have := h.c1; omega⟩
/-! ### lines -/
def g3 : List T3 → List T3
  | x :: y :: u :: r => (x.2.2, y.2.1, u.1) :: g3 (y :: u :: r)
  | _ => []
theorem g3_eq : ∀ w : List T3, (w.zip (w.tail.zip w.tail.tail)).map (fun p => ((p.1.2.2, p.2.1.2.1, p.2.2.1) : T3)) = g3 w
  | [] => rfl
  | [_] => rfl
  | [_, _] => rfl
  | x :: y :: u :: r => by
    show (x.2.2, y.2.1, u.1) :: ((y :: u :: r).zip ((u :: r).zip r)).map _ = (x.2.2, y.2.1, u.1) :: g3 (y :: u :: r)
    rw [← g3_eq (y :: u :: r)]
    rfl
theorem gat_g3 (L : List T3) : gat L = g3 (q0 :: q0 :: (L ++ [q0, q0])) := by
  unfold gat
  rw [g3_eq]
  rfl
theorem g3_len : ∀ w : List T3, (g3 w).length = w.length - 2
  | [] => rfl
  | [_] => rfl
  | [_, _] => rfl
  | x :: y :: u :: r => by
    show (g3 (y :: u :: r)).length + 1 = _
    rw [g3_len (y :: u :: r)]
    simp
theorem gat_len (L : List T3) : (gat L).length = L.length + 2 := by
  rw [gat_g3, g3_len]
  simp
def pad2 (a b : Nat) (L : List T3) : List T3 := List.replicate a q0 ++ L ++ List.replicate b q0
/-! ### stripping -/
theorem dw_rep (L : List T3) : ∀ a : Nat, (List.replicate a q0 ++ L).dropWhile isQ = L.dropWhile isQ
  | 0 => rfl
  | a + 1 => by
    rw [List.replicate_succ, List.cons_append, List.dropWhile_cons, if_pos (show isQ q0 = true by decide), dw_rep L a]
theorem dw_all (L : List T3) (b : Nat) : (L ++ List.replicate b q0).dropWhile isQ = if L.dropWhile isQ = [] then [] else L.dropWhile isQ ++ List.replicate b q0 := by
  induction L with
  | nil =>
    have := dw_rep [] b
    rw [List.append_nil] at this
    rw [List.nil_append, this]; rfl
  | cons x L ih =>
    rw [List.cons_append, List.dropWhile_cons, List.dropWhile_cons]
    by_cases h : isQ x = true
    · rw [if_pos h, if_pos h, ih]
    · rw [if_neg h, if_neg h, if_neg (by simp)]; rfl
theorem strip_pad (a b : Nat) (L : List T3) : strip (pad2 a b L) = strip L := by
  unfold strip pad2
  rw [List.append_assoc, dw_rep, dw_all]
  by_cases h : L.dropWhile isQ = []
  · rw [if_pos h, h]
  · rw [if_neg h, List.reverse_append, List.reverse_replicate, dw_rep]
theorem dw_dec (L : List T3) : ∃ a, L = List.replicate a q0 ++ L.dropWhile isQ := by
  induction L with
  | nil => exact ⟨0, rfl⟩
  | cons x L ih =>
    rw [List.dropWhile_cons]
    by_cases h : isQ x = true
    · obtain ⟨a, e⟩ := ih
      have : x = q0 := of_decide_eq_true h
      subst this
      refine ⟨a + 1, ?_⟩
      rw [if_pos h, List.replicate_succ, List.cons_append, ← e]
    · exact ⟨0, by rw [if_neg h]; rfl⟩
theorem strip_dec (L : List T3) : ∃ a b, L = pad2 a b (strip L) := by
  obtain ⟨a, e1⟩ := dw_dec L
  obtain ⟨b, e2⟩ := dw_dec (L.dropWhile isQ).reverse
  refine ⟨a, b, ?_⟩
  unfold pad2 strip
  have e3 := congrArg List.reverse e2
  rw [List.reverse_reverse, List.reverse_append, List.reverse_replicate] at e3
  rw [List.append_assoc, ← e3, ← e1]
theorem strip_len (L : List T3) : (strip L).length ≤ L.length := by
  obtain ⟨a, b, e⟩ := strip_dec L
  have := congrArg List.length e
  unfold pad2 at this
  rw [List.length_append, List.length_append] at this
  omega
theorem strip_mem {L : List T3} {t : T3} (h : t ∈ strip L) : t ∈ L := by
  obtain ⟨a, b, e⟩ := strip_dec L
  rw [e]
  exact List.mem_append_left _ (List.mem_append_right _ h)
/-! ### steps -/
def growB (R : Tb) (L : List T3) : List T3 := gat (L.map (rl (swp R)))
theorem iter_succ (f : List T3 → List T3) : ∀ (n : Nat) (L : List T3), iterN f (n + 1) L = f (iterN f n L)
  | 0, _ => rfl
  | n + 1, L => by
    show iterN f (n + 1) (f L) = f (iterN f n (f L))
    exact iter_succ f n (f L)
/-! what lies in the sizes -/
theorem g3_mem : ∀ {w : List T3} {t : T3}, t ∈ g3 w → ∃ x y u, x ∈ w ∧ y ∈ w ∧ u ∈ w ∧ t = (x.2.2, y.2.1, u.1)
  | x :: y :: u :: r, t, h => by
    rcases List.mem_cons.mp h with e | e
    · exact ⟨x, y, u, by simp, by simp, by simp, e⟩
    · obtain ⟨x', y', u', h1, h2, h3, e⟩ := g3_mem e
      exact ⟨x', y', u', List.mem_cons_of_mem _ h1, List.mem_cons_of_mem _ h2, List.mem_cons_of_mem _ h3, e⟩
  | [], _, h => absurd h List.not_mem_nil
  | [_], _, h => absurd h List.not_mem_nil
  | [_, _], _, h => absurd h List.not_mem_nil
theorem BxOk.rev {z : Sz} (h : BxOk z) : BxOk z.rev := ⟨h.c1, h.b1, h.a1, h.c2, h.b2, h.a2, by
  show z.c * z.b * z.a ≤ 40000
  have := h.m
  rw [Nat.mul_comm z.c, Nat.mul_assoc, Nat.mul_comm z.c, ← Nat.mul_assoc, Nat.mul_comm z.b]
  exact this⟩
theorem inZ_gat {z : Sz} (h : BxOk z) {L : List T3} (hL : inL z L) : inL z.rev (gat L) := by
  intro t ht
  rw [gat_g3] at ht
  obtain ⟨x, y, u, hx, hy, hu, rfl⟩ := g3_mem ht
  have all : ∀ t ∈ q0 :: q0 :: (L ++ [q0, q0]), inZ z t := fun t ht => by
    rcases List.mem_cons.mp ht with e | ht
    · rw [e]; exact inZ_q h
    rcases List.mem_cons.mp ht with e | ht
    · rw [e]; exact inZ_q h
    rcases List.mem_append.mp ht with ht | ht
    · exact hL t ht
    · rcases List.mem_cons.mp ht with e | ht
      · rw [e]; exact inZ_q h
      · rw [List.mem_singleton.mp ht]; exact inZ_q h
  exact ⟨(all x hx).2.2, (all y hy).2.1, (all u hu).1⟩
theorem inL_map {z z' : Sz} {f : T3 → T3} (h : ∀ t, inZ z t → inZ z' (f t)) {L : List T3} (hL : inL z L) : inL z' (L.map f) := fun t ht => by
  obtain ⟨x, hx, rfl⟩ := List.mem_map.mp ht
  exact h x (hL x hx)
theorem inL_grow {z : Sz} {R : Tb} (s : BxOk z) (h : FOk z R) {L : List T3} (hL : inL z L) : inL z (growL R L) := inL_map (fun t ht => (h.rl_in ht).1) (inZ_gat s hL)
theorem inL_growB {z : Sz} {R : Tb} (s : BxOk z) (h : FOk z R) {L : List T3} (hL : inL z L) : inL z (growB R L) := inZ_gat s.rev (inL_map (fun t ht => (h.sr_in ht).1) hL)
theorem inL_strip {z : Sz} {L : List T3} (hL : inL z L) : inL z (strip L) := fun t ht => hL t (strip_mem ht)
theorem inL_iter {z : Sz} {f : List T3 → List T3} (hf : ∀ L, inL z L → inL z (f L)) : ∀ (n : Nat) {L : List T3}, inL z L → inL z (iterN f n L)
  | 0, _, h => h
  | n + 1, L, h => inL_iter hf n (hf L h)
theorem len_iter {f : List T3 → List T3} (hf : ∀ L, (f L).length ≤ L.length + 2) : ∀ (n : Nat) (L : List T3), (iterN f n L).length ≤ L.length + 2 * n
  | 0, _ => Nat.le_refl _
  | n + 1, L => by
    have := len_iter hf n (f L)
    have := hf L
    show (iterN f n (f L)).length ≤ _
    omega
theorem len_grow (R : Tb) (L : List T3) : (growL R L).length = L.length + 2 := by unfold growL; rw [List.length_map, gat_len]
theorem len_growB (R : Tb) (L : List T3) : (growB R L).length = L.length + 2 := by unfold growB; rw [gat_len, List.length_map]
/-! there and back -/
/-! rows of one length -/
end My
set_option Elab.async false
set_option linter.all false
set_option maxRecDepth 100000
namespace My
open PySem PL TM
section
variable {M : Mem} {Q : PQ}
theorem len_lI {ns : List Int} {M : Mem} {Q : PQ} : kLen (lI ns) M Q = Q (.int ns.length) M := by
  unfold lI
  rw [PL.len_lst, List.length_map]
theorem tupF_tI {l : List Int} : tupF (tI l) = some (l.map PV.int) := rfl
theorem tI_rev {l : List Int} : PV.tup (List.map PV.int l).reverse = tI l.reverse := by unfold tI; rw [List.map_reverse]
theorem addR_tI {l : List Int} {w : Int} : oAdd (tI l) (.tup [.int w]) M Q = (l.length + 1 ≤ sizeLine ∧ Q (tI (l ++ [w])) M) := add_tI (r := [w])
theorem addL_tI {l : List Int} {w : Int} : oAdd (.tup [.int w]) (tI l) M Q = (1 + l.length ≤ sizeLine ∧ Q (tI (w :: l)) M) := add_tI (l := [w])
end
local macro_rules | `(tactic| walk_at "pl") => `(tactic| try simp only [pSeq, pNext, pSet, pRet, pRetN, pIfS, pVar, pC, pTest, pBin, pAnd, pOr, pNot, pAndV, pOrV, pNotV, pIsN, pNotN, pTIsN, pTNotN, pCons, pNil, pTup, pLst, pLstM, pCall, pCallB, pDrop, pAsg, gpName, kB_bl, need_some, need_none, pIf, pSl, pNoPart,
  piL, piT, pFor, pLc, pAug, pFldS, pForM, pMeth, pFld, fldOf_obj, objOf_obj, pApp, gpSub, pRetF, pRetFD, pRetD, dropSlots, pTupRev, pBreak, pCont, pRaise, pTryAs, pMake, kIsE, r_isB, r_notB,
  pstart, List.map_cons, List.map_nil, List.cons_append, List.nil_append, List.length_cons, List.length_nil, List.replicate, List.getElem?_cons_zero, List.getElem?_cons_succ, List.set_cons_zero, List.set_cons_succ, Nat.reduceSub, Nat.reduceAdd, Nat.zero_add, Nat.add_zero, Nat.sub_self,
  Bool.false_eq_true, if_false, if_true, ite_true, ite_false, reduceIte, Bool.not_true, Bool.not_false, Bool.true_eq_false, decide_eq_true_eq, Bool.not_eq_true', List.length_append, true_and, and_true, List.length_map,
  isi_int, isi_bl, isi_str, isi_non, isi_tup, isi_lst, kit_ib, kit_ii, kit_it, kit_il, kit_is, kit_bb, kit_bi, kit_bt, kit_bl, kit_bs, kit_tb, kit_ti, kit_tt, kit_tl, kit_ts, kit_lb, kit_li, kit_lt, kit_ll, kit_ls, kit_sb, kit_si, kit_st, kit_sl, kit_ss, kit_nb, kit_ni, kit_nt, kit_nl, kit_ns,
  PL.ix_tup, PL.ix_lst, ix_scr, at_0, at_1, at_2, at_3, at_4, at_5, len_tup, len_lst, len_scr, eq_int', ne_int', eq_bl', ne_bl', eq_str', ne_str', sl_tup, sl_lst, sl_scr, cutA_map, cutA_from1,
  r_add_int, r_add_str, r_add_tup, r_add_lst, r_mulA_int, r_mulA_tup, r_I0, r_I, r_neg, r_neg_int, r_chain, r_ch1, r_ch2, r_abs, r_int, r_min2, r_max2, r_list_lst, r_list_tup, r_list_scr, r_tup_lst, r_tup_tup, r_listM_lst, r_listM_tup, r_on1, r_on2, r_gtup, r_gcons, r_gnil,
  r_non_non, r_non_int, r_non_tup, r_non_lst, r_non_str, r_non_bl, r_non_ptr, r_non_obj, r_part, r_part_int, r_R1, r_R1_int, r_R2, r_R2_int, r_lstF, r_lstF_scr, r_tupF, cdiv_eq, Int.reduceLT, Int.reduceLE, Int.reduceNeg, Int.reduceAdd, Int.reduceSub, Int.reduceMul, Int.reduceEq, Int.reducePow, Nat.reducePow,
  eq_tI, eq_tI_nil, len_lI, tupF_tI, tI_rev, addR_tI, addL_tI, sl_tI_tail, len_tI, tup_tI, add_tI])
theorem tyOf_ptr_list {M : Mem} {a : Addr} {n : String} (ht : tyOf M (.ptr a) = some n) : n = "list" := by
  have h' : (match M a with | some (.lst _) => some "list" | _ => none) = some n := ht
  cases hm : M a with
  | none => rw [hm] at h'; cases h'
  | some m =>
    rw [hm] at h'
    cases m with
    | lst xs => cases h'; rfl
    | obj C fs => cases h'
    | dct _ _ => cases h'
theorem k_is_whole (Γ : Ctx) : Keeps (t_is_whole Γ) 1 1 (sp_is_whole Γ) := by
  rintro xs M Q E hl ⟨v, rfl, hk, q⟩
  unfold t_is_whole
  walk_at "pl"
  cases v with
  | int i => walk_at "pl"; exact q
  | bl b => walk_at "pl"; exact q
  | str b => walk_at "pl"; exact q
  | non => walk_at "pl"; exact q
  | tup b => walk_at "pl"; exact q
  | lst b => walk_at "pl"; exact q
  | ptr a =>
    cases ht : tyOf M (.ptr a) with
    | none => exact absurd ht hk
    | some n =>
      have hn := tyOf_ptr_list ht
      subst hn
      simp only [isi_of ht]
      walk_at "pl"
      exact q
  | ty n => exact absurd rfl hk
  | scr xs => exact absurd rfl hk
  | obj C fs => exact absurd rfl hk
  | dct _ => exact absurd rfl hk
  | exc _ _ _ => exact absurd rfl hk
  | rng _ _ => exact absurd rfl hk
  | tpd _ => exact absurd rfl hk
theorem k_is_number (Γ : Ctx) : Keeps (t_is_number Γ) 3 3 (sp_is_number Γ) := by
  rintro xs M Q E hl ⟨v, lo, hi, rfl, hk, q⟩
  unfold t_is_number
  walk_at "pl"
  refine ⟨_, rfl, hk, ?_⟩
  cases v with
  | int i =>
    walk_at "pl"
    by_cases h : lo ≤ i
    · rw [if_pos h]
      have e : isNum lo hi (.int i) = decide (i ≤ hi) := by unfold isNum; simp [h]
      rw [e] at q
      exact q
    · rw [if_neg h]
      have e : isNum lo hi (.int i) = false := by unfold isNum; simp [h]
      rw [e] at q
      exact q
  | bl b => exact q
  | str b => exact q
  | non => exact q
  | tup b => exact q
  | lst b => exact q
  | ptr a => exact q
  | ty n => exact absurd rfl hk
  | scr xs => exact absurd rfl hk
  | obj C fs => exact absurd rfl hk
  | dct _ => exact absurd rfl hk
  | exc _ _ _ => exact absurd rfl hk
  | rng _ _ => exact absurd rfl hk
  | tpd _ => exact absurd rfl hk
end My
set_option Elab.async false
set_option linter.all false
set_option maxRecDepth 100000
namespace My
open PySem PL TM PD
local macro_rules | `(tactic| walk_at "hd") => `(tactic| repeat (first | (with_reducible refine w_cons ?_) | ((with_reducible refine' w_var ?_ ?_); rotate_left; exact rfl) | (with_reducible refine w_seq ?_) | (with_reducible refine w_C ?_) | (with_reducible refine w_nil ?_) | (with_reducible refine w_bin ?_) | (with_reducible refine w_tup ?_) | ((with_reducible refine' w_pset ?_ ?_); rotate_left; (intro x; first | with_reducible exact set_h0 | with_reducible exact set_h1 | with_reducible exact set_h2 | with_reducible exact set_h3 | with_reducible exact set_h4 | with_reducible exact set_h5 | with_reducible exact set_h6 | with_reducible exact set_h7 | with_reducible exact set_h8 | with_reducible exact set_h9 | with_reducible exact set_h10 | with_reducible exact set_h11 | with_reducible exact set_h12 | with_reducible exact set_h13 | with_reducible exact set_h14 | with_reducible exact set_h15 | with_reducible exact set_h16 | with_reducible exact set_h17 | with_reducible exact set_h18 | with_reducible exact set_h19 | with_reducible exact set_h20 | with_reducible exact set_h21 | with_reducible exact set_h22 | with_reducible exact set_h23 | with_reducible exact set_h24 | with_reducible exact set_h25)) | (with_reducible refine w_add ?_) | (with_reducible refine w_test ?_) | (with_reducible refine w_kB ?_) | (with_reducible refine w_call ?_) | (with_reducible refine w_ifs ?_) | (with_reducible refine w_next ?_) | ((with_reducible refine' w_gname ?_ ?_); rotate_left; (first | with_reducible exact set_h0 | with_reducible exact set_h1 | with_reducible exact set_h2 | with_reducible exact set_h3 | with_reducible exact set_h4 | with_reducible exact set_h5 | with_reducible exact set_h6 | with_reducible exact set_h7 | with_reducible exact set_h8 | with_reducible exact set_h9 | with_reducible exact set_h10 | with_reducible exact set_h11 | with_reducible exact set_h12 | with_reducible exact set_h13 | with_reducible exact set_h14 | with_reducible exact set_h15 | with_reducible exact set_h16 | with_reducible exact set_h17 | with_reducible exact set_h18 | with_reducible exact set_h19 | with_reducible exact set_h20 | with_reducible exact set_h21 | with_reducible exact set_h22 | with_reducible exact set_h23 | with_reducible exact set_h24 | with_reducible exact set_h25)) | (with_reducible refine w_ret ?_) | (with_reducible refine w_fld ?_) | (with_reducible refine w_ifd ?_) | ((with_reducible refine' w_fldO ?_ ?_); rotate_left; exact rfl) | (with_reducible refine w_gcons ?_) | (with_reducible refine w_callB ?_) | (with_reducible refine w_on1 ?_) | ((with_reducible refine w_mod ?_ ?_); (first | decide | omega)) | (with_reducible refine w_int ?_) | (with_reducible refine w_drop ?_) | (with_reducible refine w_for ?_) | (with_reducible refine w_I0 ?_) | (with_reducible refine w_ifF ?_) | (with_reducible refine w_part ?_) | (with_reducible refine w_partI ?_) | (with_reducible refine w_sl ?_) | (with_reducible refine w_nop ?_) | (with_reducible refine w_ifT ?_) | (with_reducible refine w_R1 ?_) | ((with_reducible refine w_R1I ?_ ?_); (first | decide | omega)) | (with_reducible refine w_gnil ?_) | (with_reducible refine w_ixtup0 ?_) | (with_reducible refine w_ifn ?_) | (with_reducible refine w_asg ?_) | ((with_reducible refine w_gtup ?_ ?_); exact rfl) | (with_reducible refine w_eqInt ?_) | (with_reducible refine w_ixtup1 ?_) | (with_reducible refine w_or ?_) | (with_reducible refine w_not ?_) | (with_reducible refine w_in_non ?_) | (with_reducible refine w_lc ?_) | ((with_reducible refine w_div ?_ ?_); (first | decide | omega)) | (with_reducible refine w_neg ?_) | (with_reducible refine w_negI ?_) | (with_reducible refine w_eqStr ?_) | (with_reducible refine w_slT ?_) | (with_reducible refine w_lentup ?_) | (with_reducible refine w_tupL ?_) | (with_reducible refine w_lstF ?_) | (with_reducible refine w_app ?_) | (with_reducible refine w_tisN ?_) | (with_reducible refine w_meth ?_) | ((with_reducible refine w_objO ?_ ?_); exact rfl) | (with_reducible refine w_lstM ?_) | (with_reducible refine w_ixtup2 ?_) | (with_reducible refine w_retF ?_) | (with_reducible refine w_iL ?_) | (with_reducible refine w_make ?_) | (with_reducible refine w_fldS ?_) | (with_reducible refine w_rg1 ?_) | (with_reducible refine w_dnew ?_) | (with_reducible refine w_piD ?_) | (with_reducible refine w_dctF ?_) | (with_reducible refine w_dc ?_) | (with_reducible refine w_dcF ?_) | (with_reducible refine w_piZ3 ?_) | (with_reducible refine w_piET ?_) | (with_reducible refine w_pIsD ?_) | (with_reducible refine w_dct1 ?_) | (with_reducible refine w_gsubD ?_) | (with_reducible refine w_lst ?_) | (with_reducible refine w_ixtup3 ?_) | (with_reducible refine w_lenlst ?_) | (with_reducible refine w_and ?_) | (with_reducible refine w_in_tup ?_) | ((with_reducible refine' w_aug ?_ ?_ ?_); rotate_left 2; exact rfl; (intro x; first | with_reducible exact set_h0 | with_reducible exact set_h1 | with_reducible exact set_h2 | with_reducible exact set_h3 | with_reducible exact set_h4 | with_reducible exact set_h5 | with_reducible exact set_h6 | with_reducible exact set_h7 | with_reducible exact set_h8 | with_reducible exact set_h9 | with_reducible exact set_h10 | with_reducible exact set_h11 | with_reducible exact set_h12 | with_reducible exact set_h13 | with_reducible exact set_h14 | with_reducible exact set_h15 | with_reducible exact set_h16 | with_reducible exact set_h17 | with_reducible exact set_h18 | with_reducible exact set_h19 | with_reducible exact set_h20 | with_reducible exact set_h21 | with_reducible exact set_h22 | with_reducible exact set_h23 | with_reducible exact set_h24 | with_reducible exact set_h25)) | (with_reducible refine w_lc2 ?_) | (with_reducible refine w_lcT ?_) | (with_reducible refine w_on2 ?_) | (with_reducible refine w_neInt ?_) | (with_reducible refine w_slL ?_) | (with_reducible refine w_tnotN ?_) | (with_reducible refine w_iT ?_) | (with_reducible refine w_tupF ?_) | (with_reducible refine w_par ?_) | ((with_reducible refine' w_kpar ?_ ?_ ?_); rotate_left 2; (first | with_reducible exact set_h0 | with_reducible exact set_h1 | with_reducible exact set_h2 | with_reducible exact set_h3 | with_reducible exact set_h4 | with_reducible exact set_h5 | with_reducible exact set_h6 | with_reducible exact set_h7 | with_reducible exact set_h8 | with_reducible exact set_h9 | with_reducible exact set_h10 | with_reducible exact set_h11 | with_reducible exact set_h12 | with_reducible exact set_h13 | with_reducible exact set_h14 | with_reducible exact set_h15 | with_reducible exact set_h16 | with_reducible exact set_h17 | with_reducible exact set_h18 | with_reducible exact set_h19 | with_reducible exact set_h20 | with_reducible exact set_h21 | with_reducible exact set_h22 | with_reducible exact set_h23 | with_reducible exact set_h24 | with_reducible exact set_h25); (first | with_reducible exact set_h0 | with_reducible exact set_h1 | with_reducible exact set_h2 | with_reducible exact set_h3 | with_reducible exact set_h4 | with_reducible exact set_h5 | with_reducible exact set_h6 | with_reducible exact set_h7 | with_reducible exact set_h8 | with_reducible exact set_h9 | with_reducible exact set_h10 | with_reducible exact set_h11 | with_reducible exact set_h12 | with_reducible exact set_h13 | with_reducible exact set_h14 | with_reducible exact set_h15 | with_reducible exact set_h16 | with_reducible exact set_h17 | with_reducible exact set_h18 | with_reducible exact set_h19 | with_reducible exact set_h20 | with_reducible exact set_h21 | with_reducible exact set_h22 | with_reducible exact set_h23 | with_reducible exact set_h24 | with_reducible exact set_h25)) | (with_reducible refine w_par3 ?_) | ((with_reducible refine' w_kpar3 ?_ ?_ ?_ ?_); rotate_left 3; (first | with_reducible exact set_h0 | with_reducible exact set_h1 | with_reducible exact set_h2 | with_reducible exact set_h3 | with_reducible exact set_h4 | with_reducible exact set_h5 | with_reducible exact set_h6 | with_reducible exact set_h7 | with_reducible exact set_h8 | with_reducible exact set_h9 | with_reducible exact set_h10 | with_reducible exact set_h11 | with_reducible exact set_h12 | with_reducible exact set_h13 | with_reducible exact set_h14 | with_reducible exact set_h15 | with_reducible exact set_h16 | with_reducible exact set_h17 | with_reducible exact set_h18 | with_reducible exact set_h19 | with_reducible exact set_h20 | with_reducible exact set_h21 | with_reducible exact set_h22 | with_reducible exact set_h23 | with_reducible exact set_h24 | with_reducible exact set_h25); (first | with_reducible exact set_h0 | with_reducible exact set_h1 | with_reducible exact set_h2 | with_reducible exact set_h3 | with_reducible exact set_h4 | with_reducible exact set_h5 | with_reducible exact set_h6 | with_reducible exact set_h7 | with_reducible exact set_h8 | with_reducible exact set_h9 | with_reducible exact set_h10 | with_reducible exact set_h11 | with_reducible exact set_h12 | with_reducible exact set_h13 | with_reducible exact set_h14 | with_reducible exact set_h15 | with_reducible exact set_h16 | with_reducible exact set_h17 | with_reducible exact set_h18 | with_reducible exact set_h19 | with_reducible exact set_h20 | with_reducible exact set_h21 | with_reducible exact set_h22 | with_reducible exact set_h23 | with_reducible exact set_h24 | with_reducible exact set_h25); (first | with_reducible exact set_h0 | with_reducible exact set_h1 | with_reducible exact set_h2 | with_reducible exact set_h3 | with_reducible exact set_h4 | with_reducible exact set_h5 | with_reducible exact set_h6 | with_reducible exact set_h7 | with_reducible exact set_h8 | with_reducible exact set_h9 | with_reducible exact set_h10 | with_reducible exact set_h11 | with_reducible exact set_h12 | with_reducible exact set_h13 | with_reducible exact set_h14 | with_reducible exact set_h15 | with_reducible exact set_h16 | with_reducible exact set_h17 | with_reducible exact set_h18 | with_reducible exact set_h19 | with_reducible exact set_h20 | with_reducible exact set_h21 | with_reducible exact set_h22 | with_reducible exact set_h23 | with_reducible exact set_h24 | with_reducible exact set_h25)) | (with_reducible refine w_rg2 ?_) | (with_reducible refine w_asT ?_) | (with_reducible refine w_kTp ?_) | (with_reducible refine w_pdget2 ?_) | (with_reducible refine w_zT ?_) | (with_reducible refine w_dct ?_) | (with_reducible refine w_listL ?_) | (with_reducible refine w_andV ?_) | (with_reducible refine w_isN ?_) | (with_reducible refine w_cnt ?_) | (with_reducible refine w_retD ?_) | ((with_reducible refine' w_isi_i ?_ ?_); rotate_left; (first | with_reducible exact kit_ib | with_reducible exact kit_ii | with_reducible exact kit_it | with_reducible exact kit_il | with_reducible exact kit_is)) | ((with_reducible refine' w_isi_t ?_ ?_); rotate_left; (first | with_reducible exact kit_tb | with_reducible exact kit_ti | with_reducible exact kit_tt | with_reducible exact kit_tl | with_reducible exact kit_ts)) | (with_reducible refine w_lc2M ?_) | (with_reducible refine w_lcM ?_) | (with_reducible refine w_catN ?_) | (with_reducible refine w_tcnt ?_) | (with_reducible refine w_kTCnt ?_) | (with_reducible refine w_catR ?_) | (with_reducible refine w_tidx ?_) | (with_reducible refine w_pdget1 ?_) | (with_reducible refine w_rv ?_) | (with_reducible refine w_z ?_) | (with_reducible refine w_gsub ?_) | (with_reducible refine w_ixlst0 ?_) | (with_reducible refine w_ixlst1 ?_) | (with_reducible refine w_slS ?_) | (with_reducible refine w_abs ?_) | (with_reducible refine w_listML ?_) | (with_reducible refine w_notB ?_) | (with_reducible refine w_brk ?_) | (with_reducible refine w_fzE ?_) | ((with_reducible refine' w_isi_l ?_ ?_); rotate_left; (first | with_reducible exact kit_lb | with_reducible exact kit_li | with_reducible exact kit_lt | with_reducible exact kit_ll | with_reducible exact kit_ls)) | (with_reducible refine w_join ?_) | (with_reducible refine w_kStr ?_) | (with_reducible refine w_zL ?_) | (with_reducible refine w_tupRg ?_) | ((with_reducible refine w_shr ?_ ?_); (first | decide | omega)) | (with_reducible refine w_retN ?_) | (with_reducible refine w_dnx ?_) | (with_reducible refine w_drt ?_) | (with_reducible refine w_dbk ?_) | (with_reducible refine w_eqBl ?_) | (with_reducible refine w_neBl ?_) | (with_reducible refine w_neStr ?_) | (with_reducible refine w_ixlst2 ?_) | (with_reducible refine w_ixlst3 ?_) | (with_reducible refine w_ixtup4 ?_) | (with_reducible refine w_ixlst4 ?_) | (with_reducible refine w_ixtup5 ?_) | (with_reducible refine w_ixlst5 ?_) | (with_reducible refine w_need ?_) | (with_reducible refine w_lenscr ?_) | (with_reducible refine w_listT ?_) | (with_reducible refine w_listS ?_) | (with_reducible refine w_tupT ?_) | (with_reducible refine w_listMT ?_) | (with_reducible refine w_orV ?_) | (with_reducible refine w_notV ?_) | (with_reducible refine w_if ?_) | (with_reducible refine w_notN ?_) | (with_reducible refine w_in_int ?_) | (with_reducible refine w_in_lst ?_) | (with_reducible refine w_in_ptr ?_) | (with_reducible refine w_in_str ?_) | (with_reducible refine w_in_bl ?_) | (with_reducible refine w_isB ?_) | (with_reducible refine w_lstFs ?_) | (with_reducible refine w_R2 ?_) | (with_reducible refine w_forM ?_) | (with_reducible refine w_lcnil ?_) | (with_reducible refine w_lccons ?_) | (with_reducible refine w_retFD ?_) | (with_reducible refine w_raise ?_) | (with_reducible refine w_raiseF ?_) | (with_reducible refine w_tryF ?_) | (with_reducible refine w_isFp ?_) | (with_reducible refine w_isFx ?_) | ((with_reducible refine' w_xf ?_ ?_); rotate_left; exact rfl) | (with_reducible refine w_try ?_) | (with_reducible refine w_lstRg ?_) | (with_reducible refine w_pop ?_) | (with_reducible refine w_rev ?_) | (with_reducible refine w_revL ?_) | (with_reducible refine w_forE ?_) | ((with_reducible refine' w_isi_b ?_ ?_); rotate_left; (first | with_reducible exact kit_bb | with_reducible exact kit_bi | with_reducible exact kit_bt | with_reducible exact kit_bl | with_reducible exact kit_bs)) | ((with_reducible refine' w_isi_s ?_ ?_); rotate_left; (first | with_reducible exact kit_sb | with_reducible exact kit_si | with_reducible exact kit_st | with_reducible exact kit_sl | with_reducible exact kit_ss)) | ((with_reducible refine' w_isi_n ?_ ?_); rotate_left; (first | with_reducible exact kit_nb | with_reducible exact kit_ni | with_reducible exact kit_nt | with_reducible exact kit_nl | with_reducible exact kit_ns))))
local macro_rules | `(tactic| walk_at "st") => `(tactic| simp only [pstart, List.map_cons, List.map_nil, List.cons_append, List.nil_append, List.length_cons, List.length_nil, List.replicate, Nat.reduceSub, Nat.reduceAdd, Nat.zero_add])
local macro_rules | `(tactic| walk_at "pl") => `(tactic| try simp only [pSeq, pNext, pSet, pRet, pRetN, pIfS, pVar, pC, pTest, pBin, pAnd, pOr, pNot, pAndV, pOrV, pNotV, pIsN, pNotN, pTIsN, pTNotN, pCons, pNil, pTup, pLst, pLstM, pCall, pCallB, pDrop, pAsg, gpName, kB_bl, need_some, need_none, pIf, pSl, pNoPart,
  piL, piT, pFor, pLc, pAug, pFldS, pForM, pMeth, pFld, fldOf_obj, objOf_obj, pApp, gpSub, pRetF, pRetFD, pRetD, dropSlots, pTupRev, pBreak, pCont,
  pstart, List.map_cons, List.map_nil, List.cons_append, List.nil_append, List.length_cons, List.length_nil, List.replicate, List.getElem?_cons_zero, List.getElem?_cons_succ, List.set_cons_zero, List.set_cons_succ, Nat.reduceSub, Nat.reduceAdd, Nat.zero_add, Nat.add_zero, Nat.sub_self,
  Bool.false_eq_true, if_false, if_true, ite_true, ite_false, reduceIte, Bool.not_true, Bool.not_false, Bool.true_eq_false, decide_eq_true_eq, Bool.not_eq_true', List.length_append, true_and, and_true, List.length_map,
  isi_int, isi_bl, isi_str, isi_non, isi_tup, isi_lst, kit_ib, kit_ii, kit_it, kit_il, kit_is, kit_bb, kit_bi, kit_bt, kit_bl, kit_bs, kit_tb, kit_ti, kit_tt, kit_tl, kit_ts, kit_lb, kit_li, kit_lt, kit_ll, kit_ls, kit_sb, kit_si, kit_st, kit_sl, kit_ss, kit_nb, kit_ni, kit_nt, kit_nl, kit_ns,
  PL.ix_tup, PL.ix_lst, ix_scr, at_0, at_1, at_2, at_3, at_4, at_5, len_tup, len_lst, len_scr, eq_int', ne_int', eq_bl', ne_bl', eq_str', ne_str', sl_tup, sl_lst, sl_scr, cutA_map, cutA_from1,
  r_add_int, r_add_str, r_add_tup, r_add_lst, r_mulA_int, r_mulA_tup, r_I0, r_I, r_neg, r_neg_int, r_chain, r_ch1, r_ch2, r_abs, r_int, r_min2, r_max2, r_list_lst, r_list_tup, r_list_scr, r_tup_lst, r_tup_tup, r_listM_lst, r_listM_tup, r_on1, r_on2, r_gtup, r_gcons, r_gnil,
  r_non_non, r_non_int, r_non_tup, r_non_lst, r_non_str, r_non_bl, r_non_ptr, r_non_obj, r_part, r_part_int, r_R1, r_R1_int, r_R2, r_R2_int, r_lstF, r_lstF_scr, r_tupF,
  eq_tI, eq_tI_nil, sl_tI_tail, len_tI, tup_tI, add_tI, lk_marks, lk_states, lk_rows, lk_row, lk_table, lk_begin, lk_step, lk_stopped, lk_run])
theorem c_is_number {Γ : Ctx} {i lo hi : Int} {M : Mem} {Q : PQ} {E : PXK} : sp_is_number Γ [.int i, .int lo, .int hi] M Q E = Q (.bl (decide (lo ≤ i) && decide (i ≤ hi))) M := by
  refine propext ⟨?_, fun q => ⟨_, _, _, rfl, (fun h => nomatch h), q⟩⟩
  rintro ⟨v, lo', hi', e, _, q⟩
  cases e
  exact q
theorem k_is_row (Γ : Ctx) : Keeps (t_is_row Γ) 3 6 (sp_is_row Γ) := by
  rintro xs M Q E hl ⟨r, m, s, rfl, hr, q⟩
  unfold t_is_row
  walk_at "pl"
  cases r with
  | none =>
    unfold rowP
    walk_at "pl"
    exact q
  | some r =>
    obtain ⟨w, mv, t⟩ := r
    obtain ⟨hw, hm, ht⟩ := hr
    unfold rowP
    walk_at "pl"
    simp only [c_is_number]
    walk_at "pl"
    rw [if_neg (by decide), if_neg (by rcases hm with e | e <;> subst e <;> decide), if_neg (by rcases hm with e | e <;> subst e <;> decide)]
    have e1 : (decide (0 ≤ w) && decide (w ≤ m - 1)) = true := by simp; omega
    have e2 : (decide (0 ≤ t) && decide (t ≤ s - 1)) = true := by simp; omega
    rw [if_pos e1, e2]
    exact q
theorem c_is_number' {Γ : Ctx} {v : PV} {lo hi : Int} {M : Mem} {Q : PQ} {E : PXK} (h : known M v) (q : Q (.bl (isNum lo hi v)) M) : sp_is_number Γ [v, .int lo, .int hi] M Q E := ⟨_, _, _, rfl, h, q⟩
theorem k_are_numbers (Γ : Ctx) : Keeps (t_are_numbers Γ) 3 4 (sp_are_numbers Γ) := by
  rintro xs M Q E hl ⟨v, lo, hi, rfl, hk, hys, q⟩
  unfold t_are_numbers
  walk_at "pl"
  cases v with
  | tup ys =>
    walk_at "pl"
    obtain ⟨hz, hys⟩ := hys ys rfl
    refine ⟨hz, lc_map (fun y => .bl (isNum lo hi y)) (fun y hy R hR => ?_) ?_⟩
    · walk_at "pl"
      exact c_is_number' (hys y hy) hR
    · have e : ys.map (fun y => PV.bl (isNum lo hi y)) = (ys.map (isNum lo hi)).map PV.bl := by rw [List.map_map]; rfl
      unfold kAll
      rw [e]
      show need (blsOf _) _
      rw [blsOf_map]
      show Q (.bl ((ys.map (isNum lo hi)).all id)) M
      rw [List.all_map]
      exact q
  | int i => walk_at "pl"; exact q
  | bl b => walk_at "pl"; exact q
  | str b => walk_at "pl"; exact q
  | non => walk_at "pl"; exact q
  | lst b => walk_at "pl"; exact q
  | ptr a =>
    cases ht : tyOf M (.ptr a) with
    | none => exact absurd ht hk
    | some n =>
      have hn := tyOf_ptr_list ht
      subst hn
      simp only [isi_of ht]
      walk_at "pl"
      exact q
  | ty n => exact absurd rfl hk
  | scr xs => exact absurd rfl hk
  | obj C fs => exact absurd rfl hk
  | dct _ => exact absurd rfl hk
  | exc _ _ _ => exact absurd rfl hk
  | rng _ _ => exact absurd rfl hk
  | tpd _ => exact absurd rfl hk
theorem k_Tape_init (Γ : Ctx) : Keeps (t_Tape_init Γ) 4 5 (sp_Tape_init Γ) := by
  rintro xs M Q E hl ⟨p, m, s, rv, rows, rfl, hM, hl1, ht, hp, q⟩
  obtain ⟨m2, m8, s1, s40, hlen, hok⟩ := hM
  unfold t_Tape_init
  walk_at "pl"
  simp only [c_is_number, isi_of ht, len_of hl1, hl1]
  walk_at "pl"
  have e1 : (decide (2 ≤ m) && decide (m ≤ 8)) = true := by simp; omega
  have e2 : (decide (1 ≤ s) && decide (s ≤ 40)) = true := by simp; omega
  rw [e1, e2, if_neg (by decide), if_neg (by decide)]
  refine ⟨.inl ⟨by omega, by omega⟩, ?_⟩
  rw [if_neg (by rw [hlen]; simp), hl1, need_some]
  refine for_inG (fun i σ M' => M' = M ∧ ∃ r, σ = [some (.ptr p), some (.int m), some (.int s), some rv, r]) ⟨rfl, _, rfl⟩ ?_ ?_
  · rintro i x σ M' K hx ⟨rfl, r, rfl⟩ hK
    rw [List.getElem?_map] at hx
    cases hr : rows[i]? with
    | none => rw [hr] at hx; cases hx
    | some r0 =>
      rw [hr] at hx
      cases hx
      unfold b_Tape_init_1
      walk_at "pl"
      refine ⟨r0, m, s, rfl, hok r0 (List.mem_of_getElem? hr), ?_⟩
      walk_at "pl"
      exact hK _ _ hl1 ⟨rfl, _, rfl⟩
  · rintro σ M' ⟨rfl, r, rfl⟩
    walk_at "pl"
    have h1 := lstOf_put (p := p) (o := .obj Γ.Tape (putP (Str.ofString "marks") (.int m) [])) hl1 (fun ys z => by rw [hp] at z; cases z)
    have h2 := lstOf_put (p := p) (o := .obj Γ.Tape (putP (Str.ofString "states") (.int s) (putP (Str.ofString "marks") (.int m) []))) h1 (fun ys z => by rw [put_same] at z; cases z)
    rw [putF_ptr hp]
    refine ⟨(by show 0 < 1000; decide), ?_⟩
    walk_at "pl"
    rw [putF_ptr put_same]
    refine ⟨(by show 1 < 1000; decide), ?_⟩
    walk_at "pl"
    rw [list_of h2, putF_ptr put_same]
    refine ⟨(by show 2 < 1000; decide), ?_⟩
    rw [put_put, put_put]
    exact q
theorem k_Tape_row (Γ : Ctx) : Keeps (t_Tape_row Γ) 3 3 (sp_Tape_row Γ) := by
  rintro xs M Q E hl ⟨m, s, rows, a, b, rfl, hM, ha, hb, q⟩
  unfold t_Tape_row tapeP
  walk_at "pl"
  simp only [c_is_number]
  walk_at "pl"
  have e1 : (decide (0 ≤ a) && decide (a ≤ s - 1)) = true := by simp; omega
  have e2 : (decide (0 ≤ b) && decide (b ≤ m - 1)) = true := by simp; omega
  rw [e1, e2, if_neg (by decide), if_neg (by decide), at_rows hM ha.1 ha.2 hb.1 hb.2, need_some]
  exact ⟨cmul_ok hM ha.1 ha.2, q⟩
end My
set_option Elab.async false
set_option linter.all false
set_option maxRecDepth 100000
namespace My
open PySem PL TM PD
local macro_rules | `(tactic| walk_at "hd") => `(tactic| repeat (first | (with_reducible refine w_cons ?_) | ((with_reducible refine' w_var ?_ ?_); rotate_left; exact rfl) | (with_reducible refine w_seq ?_) | (with_reducible refine w_C ?_) | (with_reducible refine w_nil ?_) | (with_reducible refine w_bin ?_) | (with_reducible refine w_tup ?_) | ((with_reducible refine' w_pset ?_ ?_); rotate_left; (intro x; first | with_reducible exact set_h0 | with_reducible exact set_h1 | with_reducible exact set_h2 | with_reducible exact set_h3 | with_reducible exact set_h4 | with_reducible exact set_h5 | with_reducible exact set_h6 | with_reducible exact set_h7 | with_reducible exact set_h8 | with_reducible exact set_h9 | with_reducible exact set_h10 | with_reducible exact set_h11 | with_reducible exact set_h12 | with_reducible exact set_h13 | with_reducible exact set_h14 | with_reducible exact set_h15 | with_reducible exact set_h16 | with_reducible exact set_h17 | with_reducible exact set_h18 | with_reducible exact set_h19 | with_reducible exact set_h20 | with_reducible exact set_h21 | with_reducible exact set_h22 | with_reducible exact set_h23 | with_reducible exact set_h24 | with_reducible exact set_h25)) | (with_reducible refine w_add ?_) | (with_reducible refine w_test ?_) | (with_reducible refine w_kB ?_) | (with_reducible refine w_call ?_) | (with_reducible refine w_ifs ?_) | (with_reducible refine w_next ?_) | ((with_reducible refine' w_gname ?_ ?_); rotate_left; (first | with_reducible exact set_h0 | with_reducible exact set_h1 | with_reducible exact set_h2 | with_reducible exact set_h3 | with_reducible exact set_h4 | with_reducible exact set_h5 | with_reducible exact set_h6 | with_reducible exact set_h7 | with_reducible exact set_h8 | with_reducible exact set_h9 | with_reducible exact set_h10 | with_reducible exact set_h11 | with_reducible exact set_h12 | with_reducible exact set_h13 | with_reducible exact set_h14 | with_reducible exact set_h15 | with_reducible exact set_h16 | with_reducible exact set_h17 | with_reducible exact set_h18 | with_reducible exact set_h19 | with_reducible exact set_h20 | with_reducible exact set_h21 | with_reducible exact set_h22 | with_reducible exact set_h23 | with_reducible exact set_h24 | with_reducible exact set_h25)) | (with_reducible refine w_ret ?_) | (with_reducible refine w_fld ?_) | (with_reducible refine w_ifd ?_) | ((with_reducible refine' w_fldO ?_ ?_); rotate_left; exact rfl) | (with_reducible refine w_gcons ?_) | (with_reducible refine w_callB ?_) | (with_reducible refine w_on1 ?_) | ((with_reducible refine w_mod ?_ ?_); (first | decide | omega)) | (with_reducible refine w_int ?_) | (with_reducible refine w_drop ?_) | (with_reducible refine w_for ?_) | (with_reducible refine w_I0 ?_) | (with_reducible refine w_ifF ?_) | (with_reducible refine w_part ?_) | (with_reducible refine w_partI ?_) | (with_reducible refine w_sl ?_) | (with_reducible refine w_nop ?_) | (with_reducible refine w_ifT ?_) | (with_reducible refine w_R1 ?_) | ((with_reducible refine w_R1I ?_ ?_); (first | decide | omega)) | (with_reducible refine w_gnil ?_) | (with_reducible refine w_ixtup0 ?_) | (with_reducible refine w_ifn ?_) | (with_reducible refine w_asg ?_) | ((with_reducible refine w_gtup ?_ ?_); exact rfl) | (with_reducible refine w_eqInt ?_) | (with_reducible refine w_ixtup1 ?_) | (with_reducible refine w_or ?_) | (with_reducible refine w_not ?_) | (with_reducible refine w_in_non ?_) | (with_reducible refine w_lc ?_) | ((with_reducible refine w_div ?_ ?_); (first | decide | omega)) | (with_reducible refine w_neg ?_) | (with_reducible refine w_negI ?_) | (with_reducible refine w_eqStr ?_) | (with_reducible refine w_slT ?_) | (with_reducible refine w_lentup ?_) | (with_reducible refine w_tupL ?_) | (with_reducible refine w_lstF ?_) | (with_reducible refine w_app ?_) | (with_reducible refine w_tisN ?_) | (with_reducible refine w_meth ?_) | ((with_reducible refine w_objO ?_ ?_); exact rfl) | (with_reducible refine w_lstM ?_) | (with_reducible refine w_ixtup2 ?_) | (with_reducible refine w_retF ?_) | (with_reducible refine w_iL ?_) | (with_reducible refine w_make ?_) | (with_reducible refine w_fldS ?_) | (with_reducible refine w_rg1 ?_) | (with_reducible refine w_dnew ?_) | (with_reducible refine w_piD ?_) | (with_reducible refine w_dctF ?_) | (with_reducible refine w_dc ?_) | (with_reducible refine w_dcF ?_) | (with_reducible refine w_piZ3 ?_) | (with_reducible refine w_piET ?_) | (with_reducible refine w_pIsD ?_) | (with_reducible refine w_dct1 ?_) | (with_reducible refine w_gsubD ?_) | (with_reducible refine w_lst ?_) | (with_reducible refine w_ixtup3 ?_) | (with_reducible refine w_lenlst ?_) | (with_reducible refine w_and ?_) | (with_reducible refine w_in_tup ?_) | ((with_reducible refine' w_aug ?_ ?_ ?_); rotate_left 2; exact rfl; (intro x; first | with_reducible exact set_h0 | with_reducible exact set_h1 | with_reducible exact set_h2 | with_reducible exact set_h3 | with_reducible exact set_h4 | with_reducible exact set_h5 | with_reducible exact set_h6 | with_reducible exact set_h7 | with_reducible exact set_h8 | with_reducible exact set_h9 | with_reducible exact set_h10 | with_reducible exact set_h11 | with_reducible exact set_h12 | with_reducible exact set_h13 | with_reducible exact set_h14 | with_reducible exact set_h15 | with_reducible exact set_h16 | with_reducible exact set_h17 | with_reducible exact set_h18 | with_reducible exact set_h19 | with_reducible exact set_h20 | with_reducible exact set_h21 | with_reducible exact set_h22 | with_reducible exact set_h23 | with_reducible exact set_h24 | with_reducible exact set_h25)) | (with_reducible refine w_lc2 ?_) | (with_reducible refine w_lcT ?_) | (with_reducible refine w_on2 ?_) | (with_reducible refine w_neInt ?_) | (with_reducible refine w_slL ?_) | (with_reducible refine w_tnotN ?_) | (with_reducible refine w_iT ?_) | (with_reducible refine w_tupF ?_) | (with_reducible refine w_par ?_) | ((with_reducible refine' w_kpar ?_ ?_ ?_); rotate_left 2; (first | with_reducible exact set_h0 | with_reducible exact set_h1 | with_reducible exact set_h2 | with_reducible exact set_h3 | with_reducible exact set_h4 | with_reducible exact set_h5 | with_reducible exact set_h6 | with_reducible exact set_h7 | with_reducible exact set_h8 | with_reducible exact set_h9 | with_reducible exact set_h10 | with_reducible exact set_h11 | with_reducible exact set_h12 | with_reducible exact set_h13 | with_reducible exact set_h14 | with_reducible exact set_h15 | with_reducible exact set_h16 | with_reducible exact set_h17 | with_reducible exact set_h18 | with_reducible exact set_h19 | with_reducible exact set_h20 | with_reducible exact set_h21 | with_reducible exact set_h22 | with_reducible exact set_h23 | with_reducible exact set_h24 | with_reducible exact set_h25); (first | with_reducible exact set_h0 | with_reducible exact set_h1 | with_reducible exact set_h2 | with_reducible exact set_h3 | with_reducible exact set_h4 | with_reducible exact set_h5 | with_reducible exact set_h6 | with_reducible exact set_h7 | with_reducible exact set_h8 | with_reducible exact set_h9 | with_reducible exact set_h10 | with_reducible exact set_h11 | with_reducible exact set_h12 | with_reducible exact set_h13 | with_reducible exact set_h14 | with_reducible exact set_h15 | with_reducible exact set_h16 | with_reducible exact set_h17 | with_reducible exact set_h18 | with_reducible exact set_h19 | with_reducible exact set_h20 | with_reducible exact set_h21 | with_reducible exact set_h22 | with_reducible exact set_h23 | with_reducible exact set_h24 | with_reducible exact set_h25)) | (with_reducible refine w_par3 ?_) | ((with_reducible refine' w_kpar3 ?_ ?_ ?_ ?_); rotate_left 3; (first | with_reducible exact set_h0 | with_reducible exact set_h1 | with_reducible exact set_h2 | with_reducible exact set_h3 | with_reducible exact set_h4 | with_reducible exact set_h5 | with_reducible exact set_h6 | with_reducible exact set_h7 | with_reducible exact set_h8 | with_reducible exact set_h9 | with_reducible exact set_h10 | with_reducible exact set_h11 | with_reducible exact set_h12 | with_reducible exact set_h13 | with_reducible exact set_h14 | with_reducible exact set_h15 | with_reducible exact set_h16 | with_reducible exact set_h17 | with_reducible exact set_h18 | with_reducible exact set_h19 | with_reducible exact set_h20 | with_reducible exact set_h21 | with_reducible exact set_h22 | with_reducible exact set_h23 | with_reducible exact set_h24 | with_reducible exact set_h25); (first | with_reducible exact set_h0 | with_reducible exact set_h1 | with_reducible exact set_h2 | with_reducible exact set_h3 | with_reducible exact set_h4 | with_reducible exact set_h5 | with_reducible exact set_h6 | with_reducible exact set_h7 | with_reducible exact set_h8 | with_reducible exact set_h9 | with_reducible exact set_h10 | with_reducible exact set_h11 | with_reducible exact set_h12 | with_reducible exact set_h13 | with_reducible exact set_h14 | with_reducible exact set_h15 | with_reducible exact set_h16 | with_reducible exact set_h17 | with_reducible exact set_h18 | with_reducible exact set_h19 | with_reducible exact set_h20 | with_reducible exact set_h21 | with_reducible exact set_h22 | with_reducible exact set_h23 | with_reducible exact set_h24 | with_reducible exact set_h25); (first | with_reducible exact set_h0 | with_reducible exact set_h1 | with_reducible exact set_h2 | with_reducible exact set_h3 | with_reducible exact set_h4 | with_reducible exact set_h5 | with_reducible exact set_h6 | with_reducible exact set_h7 | with_reducible exact set_h8 | with_reducible exact set_h9 | with_reducible exact set_h10 | with_reducible exact set_h11 | with_reducible exact set_h12 | with_reducible exact set_h13 | with_reducible exact set_h14 | with_reducible exact set_h15 | with_reducible exact set_h16 | with_reducible exact set_h17 | with_reducible exact set_h18 | with_reducible exact set_h19 | with_reducible exact set_h20 | with_reducible exact set_h21 | with_reducible exact set_h22 | with_reducible exact set_h23 | with_reducible exact set_h24 | with_reducible exact set_h25)) | (with_reducible refine w_rg2 ?_) | (with_reducible refine w_asT ?_) | (with_reducible refine w_kTp ?_) | (with_reducible refine w_pdget2 ?_) | (with_reducible refine w_zT ?_) | (with_reducible refine w_dct ?_) | (with_reducible refine w_listL ?_) | (with_reducible refine w_andV ?_) | (with_reducible refine w_isN ?_) | (with_reducible refine w_cnt ?_) | (with_reducible refine w_retD ?_) | ((with_reducible refine' w_isi_i ?_ ?_); rotate_left; (first | with_reducible exact kit_ib | with_reducible exact kit_ii | with_reducible exact kit_it | with_reducible exact kit_il | with_reducible exact kit_is)) | ((with_reducible refine' w_isi_t ?_ ?_); rotate_left; (first | with_reducible exact kit_tb | with_reducible exact kit_ti | with_reducible exact kit_tt | with_reducible exact kit_tl | with_reducible exact kit_ts)) | (with_reducible refine w_lc2M ?_) | (with_reducible refine w_lcM ?_) | (with_reducible refine w_catN ?_) | (with_reducible refine w_tcnt ?_) | (with_reducible refine w_kTCnt ?_) | (with_reducible refine w_catR ?_) | (with_reducible refine w_tidx ?_) | (with_reducible refine w_pdget1 ?_) | (with_reducible refine w_rv ?_) | (with_reducible refine w_z ?_) | (with_reducible refine w_gsub ?_) | (with_reducible refine w_ixlst0 ?_) | (with_reducible refine w_ixlst1 ?_) | (with_reducible refine w_slS ?_) | (with_reducible refine w_abs ?_) | (with_reducible refine w_listML ?_) | (with_reducible refine w_notB ?_) | (with_reducible refine w_brk ?_) | (with_reducible refine w_fzE ?_) | ((with_reducible refine' w_isi_l ?_ ?_); rotate_left; (first | with_reducible exact kit_lb | with_reducible exact kit_li | with_reducible exact kit_lt | with_reducible exact kit_ll | with_reducible exact kit_ls)) | (with_reducible refine w_join ?_) | (with_reducible refine w_kStr ?_) | (with_reducible refine w_zL ?_) | (with_reducible refine w_tupRg ?_) | ((with_reducible refine w_shr ?_ ?_); (first | decide | omega)) | (with_reducible refine w_retN ?_) | (with_reducible refine w_dnx ?_) | (with_reducible refine w_drt ?_) | (with_reducible refine w_dbk ?_) | (with_reducible refine w_eqBl ?_) | (with_reducible refine w_neBl ?_) | (with_reducible refine w_neStr ?_) | (with_reducible refine w_ixlst2 ?_) | (with_reducible refine w_ixlst3 ?_) | (with_reducible refine w_ixtup4 ?_) | (with_reducible refine w_ixlst4 ?_) | (with_reducible refine w_ixtup5 ?_) | (with_reducible refine w_ixlst5 ?_) | (with_reducible refine w_need ?_) | (with_reducible refine w_lenscr ?_) | (with_reducible refine w_listT ?_) | (with_reducible refine w_listS ?_) | (with_reducible refine w_tupT ?_) | (with_reducible refine w_listMT ?_) | (with_reducible refine w_orV ?_) | (with_reducible refine w_notV ?_) | (with_reducible refine w_if ?_) | (with_reducible refine w_notN ?_) | (with_reducible refine w_in_int ?_) | (with_reducible refine w_in_lst ?_) | (with_reducible refine w_in_ptr ?_) | (with_reducible refine w_in_str ?_) | (with_reducible refine w_in_bl ?_) | (with_reducible refine w_isB ?_) | (with_reducible refine w_lstFs ?_) | (with_reducible refine w_R2 ?_) | (with_reducible refine w_forM ?_) | (with_reducible refine w_lcnil ?_) | (with_reducible refine w_lccons ?_) | (with_reducible refine w_retFD ?_) | (with_reducible refine w_raise ?_) | (with_reducible refine w_raiseF ?_) | (with_reducible refine w_tryF ?_) | (with_reducible refine w_isFp ?_) | (with_reducible refine w_isFx ?_) | ((with_reducible refine' w_xf ?_ ?_); rotate_left; exact rfl) | (with_reducible refine w_try ?_) | (with_reducible refine w_lstRg ?_) | (with_reducible refine w_pop ?_) | (with_reducible refine w_rev ?_) | (with_reducible refine w_revL ?_) | (with_reducible refine w_forE ?_) | ((with_reducible refine' w_isi_b ?_ ?_); rotate_left; (first | with_reducible exact kit_bb | with_reducible exact kit_bi | with_reducible exact kit_bt | with_reducible exact kit_bl | with_reducible exact kit_bs)) | ((with_reducible refine' w_isi_s ?_ ?_); rotate_left; (first | with_reducible exact kit_sb | with_reducible exact kit_si | with_reducible exact kit_st | with_reducible exact kit_sl | with_reducible exact kit_ss)) | ((with_reducible refine' w_isi_n ?_ ?_); rotate_left; (first | with_reducible exact kit_nb | with_reducible exact kit_ni | with_reducible exact kit_nt | with_reducible exact kit_nl | with_reducible exact kit_ns))))
local macro_rules | `(tactic| walk_at "st") => `(tactic| simp only [pstart, List.map_cons, List.map_nil, List.cons_append, List.nil_append, List.length_cons, List.length_nil, List.replicate, Nat.reduceSub, Nat.reduceAdd, Nat.zero_add])
theorem at_I {ds : List Int} {i : Nat} (h : i < ds.length) : L2.atI (ds.map PV.int) (i : Int) = some (.int ds[i]) := by
  rw [at_pos _ (by omega), List.getElem?_map, Int.toNat_natCast, List.getElem?_eq_getElem h]
  rfl
theorem take_succ' {ns : List Int} {e : Nat} (h : e < ns.length) : ns.take (e + 1) = ns.take e ++ [ns[e]] := by
  rw [List.take_succ, List.getElem?_eq_getElem h]
  rfl
theorem w_appI {p : Addr} {ds : List Int} {v : Int} {M : Mem} {Q : PQ} (hl : ds.length < 1000000) (h : Q .non (M.put p (.lst ((ds ++ [v]).map .int)))) : kApp (.ptr p) (.int v) (M.put p (.lst (ds.map .int))) Q := by
  rw [app_ptr put_same (by rw [List.length_map]; exact line_lt' (by omega)), put_put]
  rw [List.map_append] at h
  exact h
theorem lst_nn {p : Addr} {xs : List PV} {M : Mem} : lstOf (M.put p (.lst xs)) (.ptr p) ≠ none := by
  rw [lstOf_ptr put_same]
  exact fun z => nomatch z
theorem at_Ik {ds : List Int} {i : Int} {n : Nat} (e : i = n) (h : n < ds.length) : L2.atI (ds.map PV.int) i = some (.int ds[n]) := by
  rw [e]
  exact at_I h
theorem k_law_cell (Γ : Ctx) : Keeps (t_law_cell Γ) 2 2 (sp_law_cell Γ) := by
  rintro xs M Q E hl ⟨zs, k, rfl, hz, q⟩
  walk_at "st"
  unfold t_law_cell
  walk_at "hd"
  rw [List.length_map]
  by_cases h : k < zs.length
  · rw [if_pos (by omega)]
    walk_at "hd"
    have e : L2.atI (zs.map PV.int) (k : Int) = some (.int zs[k]) := by
      rw [at_pos _ (by omega), List.getElem?_map, Int.toNat_natCast, List.getElem?_eq_getElem h]; rfl
    show need (L2.atI (zs.map PV.int) (k : Int)) _
    exact need_by e (q _)
  · rw [if_neg (by omega)]
    walk_at "hd"
    exact q _
theorem k_law_mixed (Γ : Ctx) : Keeps (t_law_mixed Γ) 2 4 (sp_law_mixed Γ) := by
  rintro xs M Q E hl ⟨c, k, rfl, hk, q⟩
  walk_at "st"
  unfold t_law_mixed
  walk_at "hd"
  refine w_I (.inr ⟨by decide, by decide⟩) ?_
  walk_at "hd"
  refine w_I (.inr ⟨by decide, by decide⟩) ?_
  walk_at "hd"
  refine w_I (.inr ⟨by decide, by decide⟩) ?_
  walk_at "hd"
  refine w_I (.inr ⟨by decide, by decide⟩) ?_
  walk_at "hd"
  exact q _ (by omega)
theorem k_law_digits (Γ : Ctx) : Keeps (t_law_digits Γ) 3 5 (sp_law_digits Γ) := by
  rintro xs M Q E hl ⟨c, n, many, rfl, hn, hm, q⟩
  walk_at "st"
  unfold t_law_digits
  walk_at "hd"
  intro p hp
  walk_at "hd"
  refine w_I ⟨by decide, by decide, by decide⟩ ?_
  walk_at "hd"
  split
  · walk_at "hd"
    rw [Int.toNat_natCast]
    refine for_rng (fun i σ M' => ∃ x4 ds, σ = [some (.int c), some (.int n), some (.int many), some (.ptr p), x4] ∧ M' = M.put p (.lst (ds.map .int)) ∧ ds.length = i ∧ ∀ d ∈ ds, 0 ≤ d ∧ d < many) ⟨_, [], rfl, rfl, rfl, fun _ h => absurd h List.not_mem_nil⟩ ?_ ?_
    · rintro i σ M' K hi ⟨x4, ds, rfl, rfl, hl, hd⟩ hK
      unfold b_law_digits_1
      walk_at "hd"
      refine ⟨lst_nn, ?_⟩
      walk_at "hd"
      refine ⟨c, i, by rw [Int.zero_add], by omega, fun v hv => ?_⟩
      walk_at "hd"
      refine w_appI (by omega) ?_
      refine hK _ _ ⟨_, ds ++ [v % many], rfl, rfl, by rw [List.length_append, hl]; rfl, fun d hd2 => ?_⟩
      rcases List.mem_append.mp hd2 with h | h
      · exact hd d h
      · rw [List.mem_singleton.mp h]
        exact ⟨Int.emod_nonneg _ (by omega), Int.emod_lt_of_pos _ (by omega)⟩
    · rintro σ M' ⟨x4, ds, rfl, rfl, hl, hd⟩
      walk_at "hd"
      exact w_fzP put_same (by rw [put_drop hp]; exact q ds hl hd)
  · walk_at "hd"
    rw [Int.toNat_natCast]
    refine for_rng (fun i σ M' => ∃ c' x4 ds, σ = [some (.int c'), some (.int n), some (.int many), some (.ptr p), x4] ∧ M' = M.put p (.lst (ds.map .int)) ∧ ds.length = i ∧ ∀ d ∈ ds, 0 ≤ d ∧ d < many) ⟨c, _, [], rfl, rfl, rfl, fun _ h => absurd h List.not_mem_nil⟩ ?_ ?_
    · rintro i σ M' K hi ⟨c', x4, ds, rfl, rfl, hl, hd⟩ hK
      unfold b_law_digits_2
      walk_at "hd"
      refine ⟨lst_nn, ?_⟩
      walk_at "hd"
      refine w_appI (by omega) ?_
      walk_at "hd"
      refine hK _ _ ⟨_, _, ds ++ [c' % many], rfl, rfl, by rw [List.length_append, hl]; rfl, fun d hd2 => ?_⟩
      rcases List.mem_append.mp hd2 with h | h
      · exact hd d h
      · rw [List.mem_singleton.mp h]
        exact ⟨Int.emod_nonneg _ (by omega), Int.emod_lt_of_pos _ (by omega)⟩
    · rintro σ M' ⟨c', x4, ds, rfl, rfl, hl, hd⟩
      walk_at "hd"
      exact w_fzP put_same (by rw [put_drop hp]; exact q ds hl hd)
theorem trim_step {ns : List Int} {e i : Nat} (he : e < ns.length) (ht : trimL (ns.take (e + 1)) = trimL ns) (hh : e + 1 + i = ns.length ∨ trimL (ns.take (e + 1)) = ns.take (e + 1)) :
    (ns[e] = 0 → trimL (ns.take e) = trimL ns ∧ e + (i + 1) = ns.length) ∧ (ns[e] ≠ 0 → trimL (ns.take (e + 1)) = ns.take (e + 1)) := by
  rw [take_succ' he] at ht hh ⊢
  refine ⟨fun h => ?_, fun h => trimL_snoc _ h⟩
  rw [h, trimL_snoc0] at ht hh
  refine ⟨ht, ?_⟩
  rcases hh with hh | hh
  · omega
  · have h1 := congrArg List.length hh
    have h2 := trimL_len (ns.take e)
    rw [List.length_append, List.length_singleton] at h1
    omega
theorem trim_end {ns : List Int} {e : Nat} (ht : trimL (ns.take e) = trimL ns) (hh : e + ns.length = ns.length ∨ trimL (ns.take e) = ns.take e) : ns.take e = trimL ns := by
  rcases hh with hh | hh
  · have : e = 0 := by omega
    rw [this] at ht ⊢
    exact ht
  · rw [← hh]; exact ht
theorem k_law_trim (Γ : Ctx) : Keeps (t_law_trim Γ) 1 3 (sp_law_trim Γ) := by
  rintro xs M Q E hl ⟨ns, hx, hn, q⟩
  rcases hx with rfl | rfl
  · walk_at "st"
    unfold t_law_trim tI
    walk_at "hd"
    rw [List.length_map]
    walk_at "hd"
    rw [Int.toNat_natCast]
    refine for_rng (fun i σ M' => M' = M ∧ ∃ (e : Nat) (x2 : Option PV), σ = [some (.tup (ns.map .int)), some (.int e), x2] ∧ e ≤ ns.length ∧ trimL (ns.take e) = trimL ns ∧ (e + i = ns.length ∨ trimL (ns.take e) = ns.take e)) ⟨rfl, _, _, rfl, Nat.le_refl _, by rw [List.take_length], .inl rfl⟩ ?_ ?_
    · rintro i σ M' K hi ⟨rfl, e, x2, rfl, he, ht, hh⟩ hK
      unfold b_law_trim_1
      walk_at "hd"
      cases e with
      | zero =>
        rw [if_neg (show ¬ (0 < ((0 : Nat) : Int)) by decide)]
        walk_at "hd"
        exact hK _ _ ⟨rfl, 0, _, rfl, he, ht, .inr rfl⟩
      | succ e =>
        rw [if_pos (show (0 < ((e + 1 : Nat) : Int)) by omega)]
        walk_at "hd"
        refine w_ixT (at_Ik (n := e) (by omega) (by omega)) ?_
        walk_at "hd"
        have st := trim_step (by omega) ht hh
        split
        · rename_i h
          walk_at "hd"
          rw [show ((e + 1 : Nat) : Int) - 1 = (e : Nat) by omega]
          exact hK _ _ ⟨rfl, e, _, rfl, by omega, (st.1 h).1, .inl (st.1 h).2⟩
        · rename_i h
          walk_at "hd"
          exact hK _ _ ⟨rfl, e + 1, _, rfl, he, ht, .inr (st.2 h)⟩
    · rintro σ M' ⟨rfl, e, x2, rfl, he, ht, hh⟩
      walk_at "hd"
      rw [cutA_to _ (by omega), Int.toNat_natCast, ← List.map_take, trim_end ht hh]
      exact q
  · walk_at "st"
    unfold t_law_trim lI
    walk_at "hd"
    rw [List.length_map]
    walk_at "hd"
    rw [Int.toNat_natCast]
    refine for_rng (fun i σ M' => M' = M ∧ ∃ (e : Nat) (x2 : Option PV), σ = [some (.lst (ns.map .int)), some (.int e), x2] ∧ e ≤ ns.length ∧ trimL (ns.take e) = trimL ns ∧ (e + i = ns.length ∨ trimL (ns.take e) = ns.take e)) ⟨rfl, _, _, rfl, Nat.le_refl _, by rw [List.take_length], .inl rfl⟩ ?_ ?_
    · rintro i σ M' K hi ⟨rfl, e, x2, rfl, he, ht, hh⟩ hK
      unfold b_law_trim_1
      walk_at "hd"
      cases e with
      | zero =>
        rw [if_neg (show ¬ (0 < ((0 : Nat) : Int)) by decide)]
        walk_at "hd"
        exact hK _ _ ⟨rfl, 0, _, rfl, he, ht, .inr rfl⟩
      | succ e =>
        rw [if_pos (show (0 < ((e + 1 : Nat) : Int)) by omega)]
        walk_at "hd"
        refine w_ixL (at_Ik (n := e) (by omega) (by omega)) ?_
        walk_at "hd"
        have st := trim_step (by omega) ht hh
        split
        · rename_i h
          walk_at "hd"
          rw [show ((e + 1 : Nat) : Int) - 1 = (e : Nat) by omega]
          exact hK _ _ ⟨rfl, e, _, rfl, by omega, (st.1 h).1, .inl (st.1 h).2⟩
        · rename_i h
          walk_at "hd"
          exact hK _ _ ⟨rfl, e + 1, _, rfl, he, ht, .inr (st.2 h)⟩
    · rintro σ M' ⟨rfl, e, x2, rfl, he, ht, hh⟩
      walk_at "hd"
      rw [cutA_to _ (by omega), Int.toNat_natCast, ← List.map_take, trim_end ht hh]
      exact q
/-! ### dicts of triples -/
theorem keyP_tP (t : T3) : keyP (tP t) = some (kT t) := by
  obtain ⟨x, y, u⟩ := t
  simp [tP, kT, keyP, keyPs]
theorem kT_inj {s t : T3} (h : kT s = kT t) : s = t := by
  obtain ⟨x, y, u⟩ := s
  obtain ⟨x', y', u'⟩ := t
  simp [kT] at h
  obtain ⟨h1, h2, h3⟩ := h
  subst h1 h2 h3
  rfl
theorem kT_depth (t : T3) : (kT t).depth ≤ 8 := by
  simp [kT, NestedKey.depth, NestedKey.depthAll]
theorem pvK_kT (t : T3) : pvK (kT t) = tP t := by
  simp [kT, tP, pvK, pvKs]
theorem w_kKey {t : T3} {f : NestedKey → Prop} (h : f (kT t)) : kKey (tP t) f := need_by (keyP_tP t) ⟨kT_depth t, h⟩
theorem atP_dP (t : T3) : ∀ R : Tb, atP (dP R) (kT t) = (look R t).map tP
  | [] => rfl
  | p :: R => by
    have ih := atP_dP t R
    unfold atP dP look at ih ⊢
    rw [List.map_cons]
    by_cases h : p.1 = t
    · rw [List.find?_cons_of_pos (by simp [h]), List.find?_cons_of_pos (by simp [h])]; rfl
    · rw [List.find?_cons_of_neg (by simpa using fun z => h (kT_inj z)), List.find?_cons_of_neg (by simpa using h)]
      exact ih
theorem look_some {R : Tb} {t : T3} : (look R t).isSome = decide (t ∈ R.map (·.1)) := by
  induction R with
  | nil => rfl
  | cons p R ih =>
    unfold look at ih ⊢
    by_cases h : p.1 = t
    · rw [List.find?_cons_of_pos (by simp [h])]
      simp [h]
    · rw [List.find?_cons_of_neg (by simpa using h), ih]
      have : (t ∈ (p :: R).map (·.1)) ↔ t ∈ R.map (·.1) := by
        rw [List.map_cons, List.mem_cons]
        exact ⟨fun z => z.elim (fun e => absurd e.symm h) id, .inr⟩
      exact decide_eq_decide.mpr this.symm
section
variable {R : Tb} {t c : T3} {M : Mem} {Q : PQ}
theorem w_ixDP (h : look R t = some c) (q : Q (tP c) M) : oIxD (.dct (dP R)) (tP t) M Q := by
  refine need_by (show dctOf M (.dct (dP R)) = some (dP R) from rfl) (w_kKey (need_by (show atP (dP R) (kT t) = some (tP c) by rw [atP_dP, h]; rfl) q))
theorem w_ninDP (q : Q (.bl (decide (t ∉ R.map (·.1)))) M) : oNinD (tP t) (.dct (dP R)) M Q := by
  refine need_by (show dctOf M (.dct (dP R)) = some (dP R) from rfl) (w_kKey ?_)
  rw [atP_dP, Option.isSome_map, look_some, ← decide_not]
  exact q
end
theorem keys_dP (R : Tb) : (dP R).map (fun e => pvK e.1) = (R.map (·.1)).map tP := by
  unfold dP
  rw [List.map_map, List.map_map]
  exact List.map_congr_left fun p _ => pvK_kT p.1
theorem putD_new {kvs : List (NestedKey × PV)} {k : NestedKey} {x : PV} (h : k ∉ kvs.map (·.1)) : putD kvs k x = kvs ++ [(k, x)] := by
  unfold putD
  have : atP kvs k = none := by
    unfold atP
    rw [List.find?_eq_none.mpr fun e he => by
      have : e.1 ≠ k := fun z => h (z ▸ List.mem_map_of_mem he)
      simpa using this]
    rfl
  rw [this, if_neg (by simp)]
/-- a dict comprehension whose keys are new each time -/
theorem dcl_map {α : Type} {st : Stp} {tk tv : PTE} {σ : PSt} {M : Mem} {Q : List (NestedKey × PV) → Mem → Prop} (h : α → PV) (k : α → T3) (v : α → PV) : ∀ (xs : List α) (acc : List (NestedKey × PV)), (acc.map (·.1) ++ xs.map fun a => kT (k a)).Nodup → acc.length + xs.length ≤ 1000000 →
    (∀ a ∈ xs, ∃ σ1, st (h a) σ = some σ1 ∧ (∀ R : PQ, R (tP (k a)) M → tk noX σ1 M R) ∧ ∀ R : PQ, R (v a) M → tv noX σ1 M R) → Q (acc ++ xs.map fun a => (kT (k a), v a)) M → pDcL st pYes tk tv (xs.map h) acc σ M Q
  | [], acc, _, _, _, q => by
    rw [List.map_nil, List.append_nil] at q
    exact q
  | a :: xs, acc, nd, hl, he, q => by
    obtain ⟨σ1, e, h1, h2⟩ := he a List.mem_cons_self
    rw [List.length_cons] at hl
    show need (st (h a) σ) _
    refine need_by e ?_
    show ite (true = true) (tk noX σ1 M fun y M2 => tv noX σ1 M2 fun z M3 => kKey y fun k => acc.length < sizeLine ∧ pDcL st pYes tk tv (xs.map h) (putD acc k z) σ M3 Q) (pDcL st pYes tk tv (xs.map h) acc σ M Q)
    rw [if_pos rfl]
    refine h1 _ (h2 _ (w_kKey ⟨line_lt' (by omega), ?_⟩))
    have nk : kT (k a) ∉ acc.map (·.1) := fun hm => by
      rw [List.nodup_append] at nd
      exact nd.2.2 _ hm _ List.mem_cons_self rfl
    rw [putD_new nk]
    refine dcl_map h k v xs (acc ++ [(kT (k a), v a)]) ?_ (by rw [List.length_append, List.length_singleton]; omega) (fun b hb => he b (List.mem_cons_of_mem _ hb)) ?_
    · rw [List.map_append, List.append_assoc]
      exact nd
    · rw [List.append_assoc]
      exact q
/-! ### the program's own -/
theorem tP_tI (t : T3) : tP t = tI [t.1, t.2.1, t.2.2] := rfl
theorem t3_eq {s t : T3} : ([s.1, s.2.1, s.2.2] = [t.1, t.2.1, t.2.2]) ↔ s = t := by
  obtain ⟨x, y, u⟩ := s
  obtain ⟨x', y', u'⟩ := t
  constructor
  · intro h
    injection h with h1 h
    injection h with h2 h
    injection h with h3 h
    dsimp only at h1 h2 h3
    rw [h1, h2, h3]
  · intro h
    cases h
    rfl
theorem w_eqT {s t : T3} {M : Mem} {Q : PQ} (h : Q (.bl (decide (s = t))) M) : oEq (tP s) (tP t) M Q := by
  rw [tP_tI, tP_tI, eq_tI, show decide ([s.1, s.2.1, s.2.2] = [t.1, t.2.1, t.2.2]) = decide (s = t) from decide_eq_decide.mpr t3_eq]
  exact h
/-- one clause's walk, whose turns give f -/
theorem w1_map {α : Type} {i : Nat} {ws : List Nat} {body : PSt → Mem → List PV → (List PV → Mem → Prop) → Prop} {σ : PSt} {M : Mem} {Q : List PV → Mem → Prop} (h : α → PV) (f : α → List PV) : ∀ (xs : List α) (acc : List PV), acc.length + ((xs.map f).flatten).length ≤ 100000 →
    (∀ x ∈ xs, ∀ (acc : List PV) (R : List PV → Mem → Prop), acc.length + (f x).length ≤ 100000 → R (acc ++ f x) M → body ((ws.foldr (fun i σ => σ.set i none) σ).set i (some (h x))) M acc R) → Q (acc ++ (xs.map f).flatten) M → pW1 i ws body (xs.map h) acc σ M Q
  | [], acc, _, _, q => by
    rw [List.map_nil, List.flatten_nil, List.append_nil] at q
    exact q
  | x :: xs, acc, hl, he, q => by
    rw [List.map_cons, List.flatten_cons, List.length_append] at hl
    refine he x List.mem_cons_self acc _ (by omega) (w1_map h f xs (acc ++ f x) (by rw [List.length_append]; omega) (fun y hy => he y (List.mem_cons_of_mem _ hy)) ?_)
    rw [List.append_assoc]
    exact q
theorem bls_map : ∀ bs : List Bool, blsOf (bs.map PV.bl) = some bs
  | [] => rfl
  | b :: bs => by
    show (blsOf (bs.map PV.bl)).map (b :: ·) = _
    rw [bls_map bs]
    rfl
theorem w_allB {α : Type} {xs : List α} {f : α → Bool} {M : Mem} {Q : PQ} (h : Q (.bl (xs.all f)) M) : kAll (.lst (xs.map fun x => PV.bl (f x))) M Q := by
  refine need_by (show lstOf M (.lst (xs.map fun x => PV.bl (f x))) = some (xs.map fun x => PV.bl (f x)) from rfl) (need_by (a := xs.map f) ?_ ?_)
  · rw [show (xs.map fun x => PV.bl (f x)) = (xs.map f).map PV.bl by rw [List.map_map]; rfl, bls_map]
  · rw [List.all_map]
    exact h
theorem k_is_triple (Γ : Ctx) : Keeps (t_is_triple Γ) 2 4 (sp_is_triple Γ) := by
  rintro xs M Q E hl ⟨z, t, rfl, q⟩
  obtain ⟨x, y, u⟩ := t
  walk_at "st"
  unfold t_is_triple szP tP
  walk_at "hd"
  rw [if_pos (show ((([PV.int x, PV.int y, PV.int u] : List PV).length : Nat) : Int) = 3 from rfl)]
  walk_at "hd"
  have ez : zipP [PV.int x, PV.int y, PV.int u] [PV.int (z.a : Int), PV.int (z.b : Int), PV.int (z.c : Int)] = ([(x, (z.a : Int)), (y, (z.b : Int)), (u, (z.c : Int))] : List (Int × Int)).map fun p => .tup [.int p.1, .int p.2] := rfl
  rw [ez]
  refine ⟨line_lt (by rw [List.length_map]; simp), lcT_map (fun p : Int × Int => [.int p.1, .int p.2]) (fun p => .bl (decide (0 ≤ p.1) && decide (p.1 ≤ p.2 - 1))) _ [] (fun p _ => ⟨_, rfl, fun R hR => ?_⟩) ?_⟩
  · walk_at "hd"
    rw [c_is_number]
    exact hR
  · rw [List.nil_append]
    walk_at "hd"
    refine w_allB ?_
    have : (([(x, (z.a : Int)), (y, (z.b : Int)), (u, (z.c : Int))] : List (Int × Int)).all fun p => decide (0 ≤ p.1) && decide (p.1 ≤ p.2 - 1)) = decide (inZ z (x, y, u)) := by
      simp only [List.all_cons, List.all_nil, Bool.and_true, ← Bool.decide_and]
      refine decide_eq_decide.mpr ?_
      unfold inZ
      dsimp only
      omega
    rw [this]
    exact q
theorem k_all_triples (Γ : Ctx) : Keeps (t_all_triples Γ) 1 7 (sp_all_triples Γ) := by
  rintro xs M Q E hl ⟨z, rfl, hz, q⟩
  have a2 := hz.a2; have b2 := hz.b2; have c2 := hz.c2; have hm := hz.m
  have hln := trL_len z
  walk_at "st"
  unfold t_all_triples szP
  walk_at "hd"
  unfold pLc3
  walk_at "hd"
  rw [Int.toNat_natCast]
  unfold rngP
  have e3 : ∀ i j : Nat, ((List.range z.c).map fun (k : Nat) => [tP (((i : Int), (j : Int), (k : Int)) : T3)]).flatten = ((List.range z.c).map fun (k : Nat) => (((i : Int), (j : Int), (k : Int)) : T3)).map tP := fun i j => by
    rw [List.map_map]
    generalize List.range z.c = l
    induction l with
    | nil => rfl
    | cons k l ih => rw [List.map_cons, List.flatten_cons, List.map_cons, ih]; rfl
  have e2 : ∀ i : Nat, ((List.range z.b).map fun (j : Nat) => ((List.range z.c).map fun (k : Nat) => (((i : Int), (j : Int), (k : Int)) : T3)).map tP).flatten = (((List.range z.b).map fun (j : Nat) => (List.range z.c).map fun (k : Nat) => (((i : Int), (j : Int), (k : Int)) : T3)).flatten).map tP := fun i => by
    rw [List.map_flatten, List.map_map]; rfl
  have e1 : ((List.range z.a).map fun (i : Nat) => (((List.range z.b).map fun (j : Nat) => (List.range z.c).map fun (k : Nat) => (((i : Int), (j : Int), (k : Int)) : T3)).flatten).map tP).flatten = (trL z).map tP := by
    unfold trL
    rw [List.map_flatten, List.map_map]; rfl
  refine w1_map (fun (i : Nat) => PV.int ((0 : Int) + (i : Int))) (fun (i : Nat) => (((List.range z.b).map fun (j : Nat) => (List.range z.c).map fun (k : Nat) => (((i : Int), (j : Int), (k : Int)) : T3)).flatten).map tP) _ [] ?_ ?_ ?_
  · rw [e1, List.length_map, hln, ← Nat.mul_assoc]
    simp
    omega
  · intro i hi acc R hacc hR
    simp only [List.foldr_cons, List.foldr_nil, List.set_cons_zero, List.set_cons_succ]
    walk_at "hd"
    rw [Int.toNat_natCast]
    unfold rngP
    refine w1_map (fun (j : Nat) => PV.int ((0 : Int) + (j : Int))) (fun (j : Nat) => ((List.range z.c).map fun (k : Nat) => (((i : Int), (j : Int), (k : Int)) : T3)).map tP) _ acc ?_ ?_ ?_
    · rw [e2]; exact hacc
    · intro j hj acc2 R2 hacc2 hR2
      simp only [List.foldr_cons, List.foldr_nil, List.set_cons_zero, List.set_cons_succ]
      walk_at "hd"
      rw [Int.toNat_natCast]
      unfold rngP
      refine w1_map (fun (k : Nat) => PV.int ((0 : Int) + (k : Int))) (fun (k : Nat) => [tP (((i : Int), (j : Int), (k : Int)) : T3)]) _ acc2 ?_ ?_ ?_
      · rw [e3]; exact hacc2
      · intro k hk acc3 R3 hacc3 hR3
        simp only [List.foldr_nil, List.set_cons_zero, List.set_cons_succ]
        walk_at "hd"
        rw [Int.zero_add, Int.zero_add, Int.zero_add]
        exact ⟨line_lt' (by rw [List.length_singleton] at hacc3; omega), hR3⟩
      · rw [e3]; exact hR2
    · rw [e2]; exact hR
  · rw [e1]; exact q
theorem at_keys {α : Type} {k : α → T3} {v : α → PV} {t : T3} (xs : List α) : (atP (xs.map fun a => (kT (k a), v a)) (kT t)).isSome = decide (t ∈ xs.map k) := by
  induction xs with
  | nil => rfl
  | cons a xs ih =>
    unfold atP at ih ⊢
    rw [List.map_cons]
    by_cases h : k a = t
    · rw [List.find?_cons_of_pos (by simp [h])]
      simp [h]
    · rw [List.find?_cons_of_neg (by simpa using fun z => h (kT_inj z)), ih]
      have : (t ∈ (a :: xs).map k) ↔ t ∈ xs.map k := by
        rw [List.map_cons, List.mem_cons]
        exact ⟨fun z => z.elim (fun e => absurd e.symm h) id, .inr⟩
      exact decide_eq_decide.mpr this.symm
theorem w_ninK {α : Type} {k : α → T3} {v : α → PV} {t : T3} {xs : List α} {M : Mem} {Q : PQ} (q : Q (.bl (decide (t ∉ xs.map k))) M) : oNinD (tP t) (.dct (xs.map fun a => (kT (k a), v a))) M Q := by
  refine need_by (show dctOf M (.dct (xs.map fun a => (kT (k a), v a))) = some (xs.map fun a => (kT (k a), v a)) from rfl) (w_kKey ?_)
  rw [at_keys, ← decide_not]
  exact q
theorem nodup_kT {l : List T3} (h : l.Nodup) : (l.map kT).Nodup := by
  unfold List.Nodup at *
  rw [List.pairwise_map]
  exact h.imp fun ne e => ne (kT_inj e)
theorem w_lenDP {kvs : List (NestedKey × PV)} {M : Mem} {Q : PQ} (ht : ∀ e ∈ kvs, isTupK e.1) (h : Q (.int kvs.length) M) : kLenD (.dct kvs) M Q := need_by (show dctOf M (.dct kvs) = some kvs from rfl) ⟨ht, h⟩
theorem tup_dP (R : Tb) : ∀ e ∈ dP R, isTupK e.1 := fun e he => by
  obtain ⟨p, _, rfl⟩ := List.mem_map.mp he
  exact trivial
theorem len_dP (R : Tb) : (dP R).length = R.length := List.length_map _
theorem ch_len {z : Sz} {R : Tb} (s : BxOk z) (h : ChOk z R) : R.length ≤ 40000 := by
  have := miss_len (trL_nodup z) h.v fun k hk => by
    obtain ⟨p, hp, rfl⟩ := List.mem_map.mp hk
    exact mem_trL.mpr (h.dom p hp).2
  rw [List.length_map, trL_len, ← Nat.mul_assoc] at this
  have := s.m
  omega
theorem fz_dct3 {p : Addr} {kvs : List (NestedKey × PV)} {M : Mem} {Q : PQ} (e : M p = some (.dct p kvs)) (h : Q (.dct kvs) (M.drop p)) : kFz (.ptr p) M Q := by
  show (match M p with | some (.lst xs) => Q (.lst xs) (M.drop p) | some (.obj C fs) => Q (.obj C fs) (M.drop p) | some (.dct a kvs) => a = p ∧ Q (.dct kvs) (M.drop p) | none => False)
  rw [e]
  exact ⟨rfl, h⟩
/-- a list comprehension with a test -/
theorem lcf_map {α : Type} {i : Nat} {tt : PTT} {te : PTE} {σ : PSt} {M : Mem} {Q : PQ} (h : α → PV) (p : α → Bool) (f : α → PV) : ∀ (xs : List α) (acc : List PV),
    (∀ a ∈ xs, (∀ R : Bool → Mem → Prop, R (p a) M → tt noX (σ.set i (some (h a))) M R) ∧ (p a = true → ∀ R : PQ, R (f a) M → te noX (σ.set i (some (h a))) M R)) → Q (.lst (acc ++ (xs.filter p).map f)) M → pLcL i tt te (xs.map h) acc σ M Q
  | [], acc, _, q => by
    rw [List.filter_nil, List.map_nil, List.append_nil] at q
    exact q
  | a :: xs, acc, he, q => by
    obtain ⟨h1, h2⟩ := he a List.mem_cons_self
    refine h1 _ ?_
    by_cases hp : p a = true
    · rw [if_pos hp]
      refine h2 hp _ (lcf_map h p f xs _ (fun b hb => he b (List.mem_cons_of_mem _ hb)) ?_)
      rw [List.filter_cons, if_pos hp] at q
      rw [List.append_assoc]
      exact q
    · rw [if_neg hp]
      refine lcf_map h p f xs _ (fun b hb => he b (List.mem_cons_of_mem _ hb)) ?_
      rw [List.filter_cons, if_neg hp] at q
      exact q
/-- p[k] = v of a dict that may change, the key new -/
theorem w_setT {p : Addr} {kvs : List (NestedKey × PV)} {t : T3} {x : PV} {M : Mem} {Q : Mem → Prop} (hl : kvs.length < 1000000) (hn : kT t ∉ kvs.map (·.1)) (h : Q (M.put p (.dct p (kvs ++ [(kT t, x)])))) : kSetD (.ptr p) (tP t) x (M.put p (.dct p kvs)) Q := by
  show (match (M.put p (.dct p kvs)) p with | some (.dct q kvs') => q = p ∧ kKey (tP t) (fun k => kvs'.length < sizeLine ∧ Q ((M.put p (.dct p kvs)).put p (.dct p (putD kvs' k x)))) | _ => False)
  rw [put_same]
  refine ⟨rfl, w_kKey ⟨line_lt' (by omega), ?_⟩⟩
  rw [putD_new hn, put_put]
  exact h
theorem k_whole_rule (Γ : Ctx) : Keeps (t_whole_rule Γ) 2 8 (sp_whole_rule Γ) := by
  rintro xs M Q E hl ⟨z, R, rfl, hz, hR, q⟩
  have lR := ch_len hz hR
  walk_at "st"
  unfold t_whole_rule
  walk_at "hd"
  rw [keys_dP, List.map_map]
  refine dcl_map (fun p : T3 × T3 => tP p.1) (fun p => p.2) (fun _ => PV.bl true) R [] ?_ (by show 0 + _ ≤ _; omega) (fun p hp => ⟨_, rfl, fun S hS => ?_, fun S hS => ?_⟩) ?_
  · rw [List.map_nil, List.nil_append, show (R.map fun p => kT p.2) = (R.map (·.2)).map kT by rw [List.map_map]; rfl]
    exact nodup_kT hR.v
  · walk_at "hd"
    exact w_ixDP (look_mem hR.k hp) hS
  · walk_at "hd"
    exact hS
  rw [List.nil_append]
  have tv : ∀ e ∈ R.map (fun p => (kT p.2, PV.bl true)), isTupK e.1 := fun e he => by
    obtain ⟨p, _, rfl⟩ := List.mem_map.mp he
    exact trivial
  walk_at "hd"
  refine w_lenDP tv ?_
  walk_at "hd"
  refine w_lenDP (tup_dP R) ?_
  rw [List.length_map, len_dP]
  walk_at "hd"
  rw [if_neg (by omega)]
  walk_at "hd"
  rw [keys_dP, List.map_map]
  refine dcl_map (fun p : T3 × T3 => tP p.1) (fun p => p.1) (fun p => tP p.2) R [] ?_ (by show 0 + _ ≤ _; omega) (fun p hp => ⟨_, rfl, fun S hS => ?_, fun S hS => ?_⟩) ?_
  · rw [List.map_nil, List.nil_append, show (R.map fun p => kT p.1) = (R.map (·.1)).map kT by rw [List.map_map]; rfl]
    exact nodup_kT hR.k
  · walk_at "hd"
    exact hS
  · walk_at "hd"
    exact w_ixDP (look_mem hR.k hp) hS
  rw [List.nil_append]
  intro d hd
  unfold szP
  walk_at "hd"
  unfold pRevT
  walk_at "hd"
  refine need_by (show tupF (.tup [PV.int (z.a : Int), PV.int (z.b : Int), PV.int (z.c : Int)]) = some _ from rfl) ?_
  walk_at "hd"
  show sp_all_triples Γ [szP z.rev] _ _ _
  refine ⟨z.rev, rfl, hz.rev, ?_⟩
  walk_at "hd"
  refine ⟨by rw [List.length_map, trL_len, ← Nat.mul_assoc]; exact line_lt (by have := hz.rev.m; omega), lcf_map tP (fun t => decide (t ∉ R.map (·.1))) tP _ [] (fun t ht => ⟨fun S hS => ?_, fun _ S hS => ?_⟩) ?_⟩
  · walk_at "hd"
    exact w_ninDP hS
  · walk_at "hd"
    exact hS
  rw [List.nil_append]
  walk_at "hd"
  refine ⟨z, rfl, hz, ?_⟩
  walk_at "hd"
  refine ⟨by rw [List.length_map, trL_len, ← Nat.mul_assoc]; exact line_lt (by have := hz.m; omega), lcf_map tP (fun t => decide (t ∉ R.map (·.2))) tP _ [] (fun t ht => ⟨fun S hS => ?_, fun _ S hS => ?_⟩) ?_⟩
  · walk_at "hd"
    exact w_ninK (k := fun p : T3 × T3 => p.2) hS
  · walk_at "hd"
    exact hS
  rw [List.nil_append]
  walk_at "hd"
  have ez : zipP ((missK z R).map tP) ((missV z R).map tP) = ((missK z R).zip (missV z R)).map fun p => .tup [tP p.1, tP p.2] := by
    unfold zipP
    rw [List.zip_map, List.map_map]
    rfl
  show pForL _ _ (zipP ((missK z R).map tP) ((missV z R).map tP)) _ _ _
  rw [ez]
  have fo := full_ok hR
  have lF : (full z R).length ≤ 40000 := ch_len hz fo.toChOk
  refine for_in (fun i σ M' => ∃ x6 x7, σ = [some (.tup [.int (z.a : Int), .int (z.b : Int), .int (z.c : Int)]), some (.dct (dP R)), some (.dct (R.map fun a => (kT a.2, PV.bl true))), some (.ptr d), some (.lst ((missK z R).map tP)), some (.lst ((missV z R).map tP)), x6, x7] ∧
    M' = M.put d (.dct d (dP (R ++ ((missK z R).zip (missV z R)).take i)))) ⟨_, _, rfl, by rw [List.take_zero, List.append_nil]; rfl⟩ ?_ ?_
  · rintro i x σ M' K hx ⟨x6, x7, rfl, rfl⟩ hK
    rw [List.getElem?_map] at hx
    obtain ⟨p, hp, rfl⟩ := Option.map_eq_some_iff.mp hx
    have hi : i < ((missK z R).zip (missV z R)).length := (List.getElem?_eq_some_iff.mp hp).1
    have tk : ((missK z R).zip (missV z R)).take (i + 1) = ((missK z R).zip (missV z R)).take i ++ [p] := by
      rw [List.take_add_one, hp]; rfl
    have lT : (R ++ ((missK z R).zip (missV z R)).take i).length ≤ 40000 := by
      unfold full at lF
      rw [List.length_append] at lF ⊢
      rw [List.length_take]
      omega
    have fresh : kT p.1 ∉ (dP (R ++ ((missK z R).zip (missV z R)).take i)).map (·.1) := fun hm => by
      have nd := fo.k
      have : full z R = (R ++ ((missK z R).zip (missV z R)).take i) ++ ((missK z R).zip (missV z R)).drop i := by
        unfold full
        rw [List.append_assoc, List.take_append_drop]
      rw [this, List.drop_eq_getElem_cons hi, List.map_append, List.map_cons, List.nodup_append] at nd
      unfold dP at hm
      rw [List.map_map] at hm
      obtain ⟨r, hr, er⟩ := List.mem_map.mp hm
      have er2 : r.1 = p.1 := kT_inj er
      have ep : ((missK z R).zip (missV z R))[i] = p := by
        have := hp
        rw [List.getElem?_eq_getElem hi] at this
        exact Option.some.inj this
      exact nd.2.2 r.1 (List.mem_map_of_mem hr) r.1 (by rw [ep, ← er2]; exact List.mem_cons_self) rfl
    unfold b_whole_rule_1
    walk_at "hd"
    refine w_setT (by rw [len_dP]; omega) fresh ?_
    walk_at "hd"
    refine hK _ _ ⟨_, _, rfl, ?_⟩
    rw [tk, ← List.append_assoc]
    unfold dP
    rw [List.map_append (l₁ := R ++ _)]
    rfl
  · rintro σ M' ⟨x6, x7, rfl, rfl⟩
    walk_at "hd"
    refine fz_dct3 put_same ?_
    rw [put_drop hd, List.length_map, List.take_length]
    exact q
end My
set_option Elab.async false
set_option linter.all false
set_option maxRecDepth 100000
namespace My
open PySem PL TM PD
local macro_rules | `(tactic| walk_at "hd") => `(tactic| repeat (first | (with_reducible refine w_cons ?_) | ((with_reducible refine' w_var ?_ ?_); rotate_left; exact rfl) | (with_reducible refine w_seq ?_) | (with_reducible refine w_C ?_) | (with_reducible refine w_nil ?_) | (with_reducible refine w_bin ?_) | (with_reducible refine w_tup ?_) | ((with_reducible refine' w_pset ?_ ?_); rotate_left; (intro x; first | with_reducible exact set_h0 | with_reducible exact set_h1 | with_reducible exact set_h2 | with_reducible exact set_h3 | with_reducible exact set_h4 | with_reducible exact set_h5 | with_reducible exact set_h6 | with_reducible exact set_h7 | with_reducible exact set_h8 | with_reducible exact set_h9 | with_reducible exact set_h10 | with_reducible exact set_h11 | with_reducible exact set_h12 | with_reducible exact set_h13 | with_reducible exact set_h14 | with_reducible exact set_h15 | with_reducible exact set_h16 | with_reducible exact set_h17 | with_reducible exact set_h18 | with_reducible exact set_h19 | with_reducible exact set_h20 | with_reducible exact set_h21 | with_reducible exact set_h22 | with_reducible exact set_h23 | with_reducible exact set_h24 | with_reducible exact set_h25)) | (with_reducible refine w_add ?_) | (with_reducible refine w_test ?_) | (with_reducible refine w_kB ?_) | (with_reducible refine w_call ?_) | (with_reducible refine w_ifs ?_) | (with_reducible refine w_next ?_) | ((with_reducible refine' w_gname ?_ ?_); rotate_left; (first | with_reducible exact set_h0 | with_reducible exact set_h1 | with_reducible exact set_h2 | with_reducible exact set_h3 | with_reducible exact set_h4 | with_reducible exact set_h5 | with_reducible exact set_h6 | with_reducible exact set_h7 | with_reducible exact set_h8 | with_reducible exact set_h9 | with_reducible exact set_h10 | with_reducible exact set_h11 | with_reducible exact set_h12 | with_reducible exact set_h13 | with_reducible exact set_h14 | with_reducible exact set_h15 | with_reducible exact set_h16 | with_reducible exact set_h17 | with_reducible exact set_h18 | with_reducible exact set_h19 | with_reducible exact set_h20 | with_reducible exact set_h21 | with_reducible exact set_h22 | with_reducible exact set_h23 | with_reducible exact set_h24 | with_reducible exact set_h25)) | (with_reducible refine w_ret ?_) | (with_reducible refine w_fld ?_) | (with_reducible refine w_ifd ?_) | ((with_reducible refine' w_fldO ?_ ?_); rotate_left; exact rfl) | (with_reducible refine w_gcons ?_) | (with_reducible refine w_callB ?_) | (with_reducible refine w_on1 ?_) | ((with_reducible refine w_mod ?_ ?_); (first | decide | omega)) | (with_reducible refine w_int ?_) | (with_reducible refine w_drop ?_) | (with_reducible refine w_for ?_) | (with_reducible refine w_I0 ?_) | (with_reducible refine w_ifF ?_) | (with_reducible refine w_part ?_) | (with_reducible refine w_partI ?_) | (with_reducible refine w_sl ?_) | (with_reducible refine w_nop ?_) | (with_reducible refine w_ifT ?_) | (with_reducible refine w_R1 ?_) | ((with_reducible refine w_R1I ?_ ?_); (first | decide | omega)) | (with_reducible refine w_gnil ?_) | (with_reducible refine w_ixtup0 ?_) | (with_reducible refine w_ifn ?_) | (with_reducible refine w_asg ?_) | ((with_reducible refine w_gtup ?_ ?_); exact rfl) | (with_reducible refine w_eqInt ?_) | (with_reducible refine w_ixtup1 ?_) | (with_reducible refine w_or ?_) | (with_reducible refine w_not ?_) | (with_reducible refine w_in_non ?_) | (with_reducible refine w_lc ?_) | ((with_reducible refine w_div ?_ ?_); (first | decide | omega)) | (with_reducible refine w_neg ?_) | (with_reducible refine w_negI ?_) | (with_reducible refine w_eqStr ?_) | (with_reducible refine w_slT ?_) | (with_reducible refine w_lentup ?_) | (with_reducible refine w_tupL ?_) | (with_reducible refine w_lstF ?_) | (with_reducible refine w_app ?_) | (with_reducible refine w_tisN ?_) | (with_reducible refine w_meth ?_) | ((with_reducible refine w_objO ?_ ?_); exact rfl) | (with_reducible refine w_lstM ?_) | (with_reducible refine w_ixtup2 ?_) | (with_reducible refine w_retF ?_) | (with_reducible refine w_iL ?_) | (with_reducible refine w_make ?_) | (with_reducible refine w_fldS ?_) | (with_reducible refine w_rg1 ?_) | (with_reducible refine w_dnew ?_) | (with_reducible refine w_piD ?_) | (with_reducible refine w_dctF ?_) | (with_reducible refine w_dc ?_) | (with_reducible refine w_dcF ?_) | (with_reducible refine w_piZ3 ?_) | (with_reducible refine w_piET ?_) | (with_reducible refine w_pIsD ?_) | (with_reducible refine w_dct1 ?_) | (with_reducible refine w_gsubD ?_) | (with_reducible refine w_lst ?_) | (with_reducible refine w_ixtup3 ?_) | (with_reducible refine w_lenlst ?_) | (with_reducible refine w_and ?_) | (with_reducible refine w_in_tup ?_) | ((with_reducible refine' w_aug ?_ ?_ ?_); rotate_left 2; exact rfl; (intro x; first | with_reducible exact set_h0 | with_reducible exact set_h1 | with_reducible exact set_h2 | with_reducible exact set_h3 | with_reducible exact set_h4 | with_reducible exact set_h5 | with_reducible exact set_h6 | with_reducible exact set_h7 | with_reducible exact set_h8 | with_reducible exact set_h9 | with_reducible exact set_h10 | with_reducible exact set_h11 | with_reducible exact set_h12 | with_reducible exact set_h13 | with_reducible exact set_h14 | with_reducible exact set_h15 | with_reducible exact set_h16 | with_reducible exact set_h17 | with_reducible exact set_h18 | with_reducible exact set_h19 | with_reducible exact set_h20 | with_reducible exact set_h21 | with_reducible exact set_h22 | with_reducible exact set_h23 | with_reducible exact set_h24 | with_reducible exact set_h25)) | (with_reducible refine w_lc2 ?_) | (with_reducible refine w_lcT ?_) | (with_reducible refine w_on2 ?_) | (with_reducible refine w_neInt ?_) | (with_reducible refine w_slL ?_) | (with_reducible refine w_tnotN ?_) | (with_reducible refine w_iT ?_) | (with_reducible refine w_tupF ?_) | (with_reducible refine w_par ?_) | ((with_reducible refine' w_kpar ?_ ?_ ?_); rotate_left 2; (first | with_reducible exact set_h0 | with_reducible exact set_h1 | with_reducible exact set_h2 | with_reducible exact set_h3 | with_reducible exact set_h4 | with_reducible exact set_h5 | with_reducible exact set_h6 | with_reducible exact set_h7 | with_reducible exact set_h8 | with_reducible exact set_h9 | with_reducible exact set_h10 | with_reducible exact set_h11 | with_reducible exact set_h12 | with_reducible exact set_h13 | with_reducible exact set_h14 | with_reducible exact set_h15 | with_reducible exact set_h16 | with_reducible exact set_h17 | with_reducible exact set_h18 | with_reducible exact set_h19 | with_reducible exact set_h20 | with_reducible exact set_h21 | with_reducible exact set_h22 | with_reducible exact set_h23 | with_reducible exact set_h24 | with_reducible exact set_h25); (first | with_reducible exact set_h0 | with_reducible exact set_h1 | with_reducible exact set_h2 | with_reducible exact set_h3 | with_reducible exact set_h4 | with_reducible exact set_h5 | with_reducible exact set_h6 | with_reducible exact set_h7 | with_reducible exact set_h8 | with_reducible exact set_h9 | with_reducible exact set_h10 | with_reducible exact set_h11 | with_reducible exact set_h12 | with_reducible exact set_h13 | with_reducible exact set_h14 | with_reducible exact set_h15 | with_reducible exact set_h16 | with_reducible exact set_h17 | with_reducible exact set_h18 | with_reducible exact set_h19 | with_reducible exact set_h20 | with_reducible exact set_h21 | with_reducible exact set_h22 | with_reducible exact set_h23 | with_reducible exact set_h24 | with_reducible exact set_h25)) | (with_reducible refine w_par3 ?_) | ((with_reducible refine' w_kpar3 ?_ ?_ ?_ ?_); rotate_left 3; (first | with_reducible exact set_h0 | with_reducible exact set_h1 | with_reducible exact set_h2 | with_reducible exact set_h3 | with_reducible exact set_h4 | with_reducible exact set_h5 | with_reducible exact set_h6 | with_reducible exact set_h7 | with_reducible exact set_h8 | with_reducible exact set_h9 | with_reducible exact set_h10 | with_reducible exact set_h11 | with_reducible exact set_h12 | with_reducible exact set_h13 | with_reducible exact set_h14 | with_reducible exact set_h15 | with_reducible exact set_h16 | with_reducible exact set_h17 | with_reducible exact set_h18 | with_reducible exact set_h19 | with_reducible exact set_h20 | with_reducible exact set_h21 | with_reducible exact set_h22 | with_reducible exact set_h23 | with_reducible exact set_h24 | with_reducible exact set_h25); (first | with_reducible exact set_h0 | with_reducible exact set_h1 | with_reducible exact set_h2 | with_reducible exact set_h3 | with_reducible exact set_h4 | with_reducible exact set_h5 | with_reducible exact set_h6 | with_reducible exact set_h7 | with_reducible exact set_h8 | with_reducible exact set_h9 | with_reducible exact set_h10 | with_reducible exact set_h11 | with_reducible exact set_h12 | with_reducible exact set_h13 | with_reducible exact set_h14 | with_reducible exact set_h15 | with_reducible exact set_h16 | with_reducible exact set_h17 | with_reducible exact set_h18 | with_reducible exact set_h19 | with_reducible exact set_h20 | with_reducible exact set_h21 | with_reducible exact set_h22 | with_reducible exact set_h23 | with_reducible exact set_h24 | with_reducible exact set_h25); (first | with_reducible exact set_h0 | with_reducible exact set_h1 | with_reducible exact set_h2 | with_reducible exact set_h3 | with_reducible exact set_h4 | with_reducible exact set_h5 | with_reducible exact set_h6 | with_reducible exact set_h7 | with_reducible exact set_h8 | with_reducible exact set_h9 | with_reducible exact set_h10 | with_reducible exact set_h11 | with_reducible exact set_h12 | with_reducible exact set_h13 | with_reducible exact set_h14 | with_reducible exact set_h15 | with_reducible exact set_h16 | with_reducible exact set_h17 | with_reducible exact set_h18 | with_reducible exact set_h19 | with_reducible exact set_h20 | with_reducible exact set_h21 | with_reducible exact set_h22 | with_reducible exact set_h23 | with_reducible exact set_h24 | with_reducible exact set_h25)) | (with_reducible refine w_rg2 ?_) | (with_reducible refine w_asT ?_) | (with_reducible refine w_kTp ?_) | (with_reducible refine w_pdget2 ?_) | (with_reducible refine w_zT ?_) | (with_reducible refine w_dct ?_) | (with_reducible refine w_listL ?_) | (with_reducible refine w_andV ?_) | (with_reducible refine w_isN ?_) | (with_reducible refine w_cnt ?_) | (with_reducible refine w_retD ?_) | ((with_reducible refine' w_isi_i ?_ ?_); rotate_left; (first | with_reducible exact kit_ib | with_reducible exact kit_ii | with_reducible exact kit_it | with_reducible exact kit_il | with_reducible exact kit_is)) | ((with_reducible refine' w_isi_t ?_ ?_); rotate_left; (first | with_reducible exact kit_tb | with_reducible exact kit_ti | with_reducible exact kit_tt | with_reducible exact kit_tl | with_reducible exact kit_ts)) | (with_reducible refine w_lc2M ?_) | (with_reducible refine w_lcM ?_) | (with_reducible refine w_catN ?_) | (with_reducible refine w_tcnt ?_) | (with_reducible refine w_kTCnt ?_) | (with_reducible refine w_catR ?_) | (with_reducible refine w_tidx ?_) | (with_reducible refine w_pdget1 ?_) | (with_reducible refine w_rv ?_) | (with_reducible refine w_z ?_) | (with_reducible refine w_gsub ?_) | (with_reducible refine w_ixlst0 ?_) | (with_reducible refine w_ixlst1 ?_) | (with_reducible refine w_slS ?_) | (with_reducible refine w_abs ?_) | (with_reducible refine w_listML ?_) | (with_reducible refine w_notB ?_) | (with_reducible refine w_brk ?_) | (with_reducible refine w_fzE ?_) | ((with_reducible refine' w_isi_l ?_ ?_); rotate_left; (first | with_reducible exact kit_lb | with_reducible exact kit_li | with_reducible exact kit_lt | with_reducible exact kit_ll | with_reducible exact kit_ls)) | (with_reducible refine w_join ?_) | (with_reducible refine w_kStr ?_) | (with_reducible refine w_zL ?_) | (with_reducible refine w_tupRg ?_) | ((with_reducible refine w_shr ?_ ?_); (first | decide | omega)) | (with_reducible refine w_retN ?_) | (with_reducible refine w_dnx ?_) | (with_reducible refine w_drt ?_) | (with_reducible refine w_dbk ?_) | (with_reducible refine w_eqBl ?_) | (with_reducible refine w_neBl ?_) | (with_reducible refine w_neStr ?_) | (with_reducible refine w_ixlst2 ?_) | (with_reducible refine w_ixlst3 ?_) | (with_reducible refine w_ixtup4 ?_) | (with_reducible refine w_ixlst4 ?_) | (with_reducible refine w_ixtup5 ?_) | (with_reducible refine w_ixlst5 ?_) | (with_reducible refine w_need ?_) | (with_reducible refine w_lenscr ?_) | (with_reducible refine w_listT ?_) | (with_reducible refine w_listS ?_) | (with_reducible refine w_tupT ?_) | (with_reducible refine w_listMT ?_) | (with_reducible refine w_orV ?_) | (with_reducible refine w_notV ?_) | (with_reducible refine w_if ?_) | (with_reducible refine w_notN ?_) | (with_reducible refine w_in_int ?_) | (with_reducible refine w_in_lst ?_) | (with_reducible refine w_in_ptr ?_) | (with_reducible refine w_in_str ?_) | (with_reducible refine w_in_bl ?_) | (with_reducible refine w_isB ?_) | (with_reducible refine w_lstFs ?_) | (with_reducible refine w_R2 ?_) | (with_reducible refine w_forM ?_) | (with_reducible refine w_lcnil ?_) | (with_reducible refine w_lccons ?_) | (with_reducible refine w_retFD ?_) | (with_reducible refine w_raise ?_) | (with_reducible refine w_raiseF ?_) | (with_reducible refine w_tryF ?_) | (with_reducible refine w_isFp ?_) | (with_reducible refine w_isFx ?_) | ((with_reducible refine' w_xf ?_ ?_); rotate_left; exact rfl) | (with_reducible refine w_try ?_) | (with_reducible refine w_lstRg ?_) | (with_reducible refine w_pop ?_) | (with_reducible refine w_rev ?_) | (with_reducible refine w_revL ?_) | (with_reducible refine w_forE ?_) | ((with_reducible refine' w_isi_b ?_ ?_); rotate_left; (first | with_reducible exact kit_bb | with_reducible exact kit_bi | with_reducible exact kit_bt | with_reducible exact kit_bl | with_reducible exact kit_bs)) | ((with_reducible refine' w_isi_s ?_ ?_); rotate_left; (first | with_reducible exact kit_sb | with_reducible exact kit_si | with_reducible exact kit_st | with_reducible exact kit_sl | with_reducible exact kit_ss)) | ((with_reducible refine' w_isi_n ?_ ?_); rotate_left; (first | with_reducible exact kit_nb | with_reducible exact kit_ni | with_reducible exact kit_nt | with_reducible exact kit_nl | with_reducible exact kit_ns))))
local macro_rules | `(tactic| walk_at "st") => `(tactic| simp only [pstart, List.map_cons, List.map_nil, List.cons_append, List.nil_append, List.length_cons, List.length_nil, List.replicate, Nat.reduceSub, Nat.reduceAdd, Nat.zero_add])
theorem w_addT {A B : List T3} {M : Mem} {Q : PQ} (hl : A.length + B.length < 1000000) (h : Q (lP (A ++ B)) M) : oAdd (lP A) (lP B) M Q := by
  unfold lP at *
  rw [List.map_append] at h
  exact ⟨line_lt (by rw [List.length_map, List.length_map]; omega), h⟩
theorem lP_cut1 (L : List T3) (k : Nat) : cutA (L.map tP) (some (k : Int)) none = (L.drop k).map tP := by
  rw [cutA_map, cutA_from _ (by omega), Int.toNat_natCast]
theorem zip3_map (w : List T3) : zip3P (w.map tP) (w.tail.map tP) (w.tail.tail.map tP) = (w.zip (w.tail.zip w.tail.tail)).map fun p => .tup [tP p.1, tP p.2.1, tP p.2.2] := by
  unfold zip3P
  rw [List.zip_map, List.zip_map, List.map_map]
  rfl
theorem k_gathered (Γ : Ctx) : Keeps (t_gathered Γ) 1 5 (sp_gathered Γ) := by
  rintro xs M Q E hl ⟨L, rfl, hz, q⟩
  walk_at "st"
  unfold t_gathered
  walk_at "hd"
  rw [show PV.tup [gv_QUIET, gv_QUIET] = lP [q0, q0] from rfl]
  refine w_addT (by show 2 + _ < _; omega) ?_
  walk_at "hd"
  rw [show PV.tup [gv_QUIET, gv_QUIET] = lP [q0, q0] from rfl]
  refine w_addT (by rw [List.length_append]; show 2 + _ + 2 < _; omega) ?_
  unfold lP
  walk_at "hd"
  have e1 := lP_cut1 ([q0, q0] ++ L ++ [q0, q0]) 1
  have e2 := lP_cut1 ([q0, q0] ++ L ++ [q0, q0]) 2
  rw [show ((1 : Nat) : Int) = 1 from rfl] at e1
  rw [show ((2 : Nat) : Int) = 2 from rfl] at e2
  rw [e1, e2]
  have e3 := zip3_map ([q0, q0] ++ L ++ [q0, q0])
  rw [show ([q0, q0] ++ L ++ [q0, q0] : List T3).drop 1 = ([q0, q0] ++ L ++ [q0, q0] : List T3).tail from rfl, show ([q0, q0] ++ L ++ [q0, q0] : List T3).drop 2 = ([q0, q0] ++ L ++ [q0, q0] : List T3).tail.tail from rfl, e3]
  refine ⟨line_lt (by rw [List.length_map, List.length_zip, List.length_append, List.length_append]; show min (2 + L.length + 2) _ < _; omega), lcT_map (fun p : T3 × T3 × T3 => [tP p.1, tP p.2.1, tP p.2.2]) (fun p => tP (p.1.2.2, p.2.1.2.1, p.2.2.1)) _ [] (fun p _ => ⟨_, rfl, fun S hS => ?_⟩) ?_⟩
  · unfold tP
    walk_at "hd"
    exact hS
  · rw [List.nil_append]
    have : ((([q0, q0] ++ L ++ [q0, q0]).zip ((([q0, q0] ++ L ++ [q0, q0]).tail).zip (([q0, q0] ++ L ++ [q0, q0]).tail.tail))).map fun p => tP (p.1.2.2, p.2.1.2.1, p.2.2.1)) = (gat L).map tP := by
      unfold gat
      rw [List.map_map]
      rfl
    rw [this]
    exact q
theorem strip_cq (r : List T3) : strip (q0 :: r) = strip r := by
  have := strip_pad 1 0 r
  unfold pad2 at this
  rw [List.replicate_zero, List.append_nil] at this
  exact this
theorem strip_sq (r : List T3) : strip (r ++ [q0]) = strip r := by
  have := strip_pad 0 1 r
  unfold pad2 at this
  exact this
theorem dw_id {X : List T3} (h : X.head? ≠ some q0) : X.dropWhile isQ = X := by
  cases X with
  | nil => rfl
  | cons x X =>
    rw [List.dropWhile_cons, if_neg]
    intro z
    exact h (by rw [List.head?_cons, of_decide_eq_true z])
theorem strip_id {X : List T3} (h1 : X.head? ≠ some q0) (h2 : X.getLast? ≠ some q0) : strip X = X := by
  unfold strip
  rw [dw_id h1, dw_id (by rw [List.head?_reverse]; exact h2), List.reverse_reverse]
theorem atT {L : List T3} {i : Nat} {x : T3} (h : L[i]? = some x) : L2.atI (L.map tP) (i : Int) = some (tP x) := by
  rw [at_pos _ (by omega), Int.toNat_natCast, List.getElem?_map, h]; rfl
def seg (L : List T3) (i j : Nat) : List T3 := (L.drop i).take (j - i)
theorem seg_head {L : List T3} {i j : Nat} (h : i < j) : (seg L i j).head? = L[i]? := by
  unfold seg
  rw [List.head?_take, if_neg (by omega), List.head?_drop]
theorem seg_snoc {L : List T3} {i j : Nat} {x : T3} (h : i ≤ j) (e : L[j]? = some x) : seg L i (j + 1) = seg L i j ++ [x] := by
  unfold seg
  rw [show j + 1 - i = j - i + 1 by omega, List.take_add_one, List.getElem?_drop, show i + (j - i) = j by omega, e]
  rfl
theorem w_tupL {xs : List PV} {M : Mem} {Q : PQ} (h : Q (.tup xs) M) : PL.kTup (.lst xs) M Q := h
theorem k_stripped (Γ : Ctx) : Keeps (t_stripped Γ) 1 3 (sp_stripped Γ) := by
  rintro xs M Q E hl ⟨L, rfl, hz, q⟩
  walk_at "st"
  unfold t_stripped
  walk_at "hd"
  rw [List.length_map]
  refine while_in (fun m σ M' => M' = M ∧ ∃ i : Nat, i ≤ L.length ∧ m = L.length - i ∧ σ = [some (.lst (L.map tP)), some (.int (i : Int)), some (.int ((L.length : Nat) : Int))] ∧ strip (L.drop i) = strip L) (m := L.length) ⟨rfl, 0, Nat.zero_le _, rfl, rfl, rfl⟩ ?_
  rintro m σ M' K ⟨rfl, i, hi, rfl, rfl, hs⟩ hK
  have fin : (∀ x, L[i]? = some x → x ≠ q0) → ∀ {db dc db' dc' dn : PNx}, pWhile (c_stripped_2 Γ) (b_stripped_2 Γ) (PEnds.mk (pRet (pCallB (on1 kTup) (pCons (pSl (pVar 0) (pPart (pVar 1)) (pPart (pVar 2))) pNil)) (PEnds.mk dn Q E db' dc')) Q E db dc) [some (.lst (L.map tP)), some (.int (i : Int)), some (.int ((L.length : Nat) : Int))] M' := by
    intro hne db dc db' dc' dn
    refine while_in (fun m σ M2 => M2 = M' ∧ ∃ j : Nat, i ≤ j ∧ j ≤ L.length ∧ m = j - i ∧ σ = [some (.lst (L.map tP)), some (.int (i : Int)), some (.int (j : Int))] ∧ strip (seg L i j) = strip L) (m := L.length - i) ⟨rfl, L.length, hi, Nat.le_refl _, rfl, rfl, ?_⟩ ?_
    · rw [← hs]
      unfold seg
      rw [List.take_of_length_le (by rw [List.length_drop]; exact Nat.le_refl _)]
    rintro m σ M2 K2 ⟨rfl, j, hij, hj, rfl, rfl, hs2⟩ hK2
    have out : strip (seg L i j) = seg L i j → pRet (pCallB (on1 kTup) (pCons (pSl (pVar 0) (pPart (pVar 1)) (pPart (pVar 2))) pNil)) (PEnds.mk dn Q E db' dc') [some (.lst (L.map tP)), some (.int (i : Int)), some (.int (j : Int))] M2 := fun hse => by
      walk_at "hd"
      rw [cutA_map, show cutA L (some (i : Int)) (some (j : Int)) = seg L i j by
        unfold cutA seg
        rw [sIx_nn (by omega), sIx_nn (by omega), Int.toNat_natCast, Int.toNat_natCast, Nat.min_eq_left hi, Nat.min_eq_left hj], ← hse, hs2]
      exact q
    unfold c_stripped_2
    walk_at "hd"
    by_cases h1 : i < j
    · rw [if_pos (show (i : Int) < (j : Int) by omega)]
      obtain ⟨k, rfl⟩ : ∃ k, j = k + 1 := ⟨j - 1, by omega⟩
      walk_at "hd"
      obtain ⟨x, ex⟩ : ∃ x, L[k]? = some x := ⟨_, List.getElem?_eq_getElem (by omega)⟩
      have ek : ((k + 1 : Nat) : Int) - 1 = (k : Int) := by omega
      rw [ek]
      refine w_ixL (atT ex) ?_
      walk_at "hd"
      rw [show gv_QUIET = tP q0 from rfl]
      refine w_eqT ?_
      walk_at "hd"
      have sn := seg_snoc (i := i) (by omega) ex
      by_cases hx : x = q0
      · rw [if_pos hx]
        unfold b_stripped_2
        walk_at "hd"
        rw [ek]
        exact hK2 _ _ _ (show k - i < k + 1 - i by omega) ⟨rfl, k, by omega, by omega, rfl, rfl, by rw [← hs2, sn, hx, strip_sq]⟩
      · rw [if_neg hx]
        refine out (strip_id ?_ ?_)
        · rw [seg_head h1]
          intro z
          exact hne _ z rfl
        · rw [sn, List.getLast?_concat]
          intro z
          exact hx (Option.some.inj z)
    · rw [if_neg (show ¬ (i : Int) < (j : Int) by omega)]
      have : j = i := by omega
      subst this
      refine out ?_
      unfold seg
      rw [Nat.sub_self, List.take_zero]
      rfl
  unfold c_stripped_1
  walk_at "hd"
  by_cases h1 : i < L.length
  · rw [if_pos (show (i : Int) < ((L.length : Nat) : Int) by omega)]
    walk_at "hd"
    obtain ⟨x, ex⟩ : ∃ x, L[i]? = some x := ⟨_, List.getElem?_eq_getElem h1⟩
    refine w_ixL (atT ex) ?_
    walk_at "hd"
    rw [show gv_QUIET = tP q0 from rfl]
    refine w_eqT ?_
    walk_at "hd"
    by_cases hx : x = q0
    · rw [if_pos hx]
      unfold b_stripped_1
      walk_at "hd"
      have hd' : L.drop i = x :: L.drop (i + 1) := by
        rw [List.drop_eq_getElem_cons h1]
        rw [List.getElem?_eq_getElem h1] at ex
        rw [Option.some.inj ex]
      exact hK _ _ _ (show L.length - (i + 1) < L.length - i by omega) ⟨rfl, i + 1, by omega, rfl, rfl, by rw [← hs, hd', hx, strip_cq]⟩
    · rw [if_neg hx]
      exact fin (fun y hy => by rw [ex] at hy; cases hy; exact hx)
  · rw [if_neg (show ¬ (i : Int) < ((L.length : Nat) : Int) by omega)]
    exact fin (fun y hy => by rw [List.getElem?_eq_none (by omega)] at hy; cases hy)
theorem lcm_map {α : Type} {i : Nat} {te : PTE} {σ : PSt} {M : Mem} {Q : PQ} (h f : α → PV) (xs : List α) (acc : List PV) (he : ∀ a ∈ xs, ∀ R : PQ, R (f a) M → te noX (σ.set i (some (h a))) M R) (q : Q (.lst (acc ++ xs.map f)) M) : pLcL i pYes te (xs.map h) acc σ M Q := by
  refine lcf_map h (fun _ => true) f xs acc (fun a ha => ⟨fun R hR => hR, fun _ R hR => he a ha R hR⟩) ?_
  rw [List.filter_eq_self.mpr fun _ _ => rfl]
  exact q
theorem k_Parts_step (Γ : Ctx) : Keeps (t_Parts_step Γ) 2 3 (sp_Parts_step Γ) := by
  rintro xs M Q E hl ⟨z, R, L, rfl, hF, hz, hL, hn, q⟩
  walk_at "st"
  unfold t_Parts_step
  walk_at "hd"
  refine ⟨L, rfl, by omega, ?_⟩
  unfold partsP partsF
  walk_at "hd"
  refine ⟨by rw [List.length_map, gat_len]; exact line_lt (by omega), lcm_map tP (fun t => tP (rl R t)) _ [] (fun t ht S hS => ?_) ?_⟩
  · walk_at "hd"
    exact w_ixDP (hF.rl_in (inZ_gat hz hL t ht)).2.2 hS
  · rw [List.nil_append]
    walk_at "hd"
    refine ⟨(gat L).map (rl R), by rw [List.map_map]; rfl, by rw [List.length_map, gat_len]; omega, ?_⟩
    exact q
theorem k_Parts_back (Γ : Ctx) : Keeps (t_Parts_back Γ) 2 3 (sp_Parts_back Γ) := by
  rintro xs M Q E hl ⟨z, R, L, rfl, hF, hz, hL, hn, q⟩
  walk_at "st"
  unfold t_Parts_back partsP partsF lP
  walk_at "hd"
  refine ⟨by rw [List.length_map]; exact line_lt (by omega), lcm_map tP (fun t => tP (rl (swp R) t)) _ [] (fun t ht S hS => ?_) ?_⟩
  · walk_at "hd"
    exact w_ixDP (hF.sr_in (hL t ht)).2.2 hS
  · rw [List.nil_append]
    walk_at "hd"
    refine ⟨L.map (rl (swp R)), by unfold lP; rw [List.map_map]; rfl, by rw [List.length_map]; omega, ?_⟩
    walk_at "hd"
    refine ⟨gat (L.map (rl (swp R))), rfl, by rw [gat_len, List.length_map]; omega, ?_⟩
    exact q
theorem inL_step {z : Sz} {R : Tb} (s : BxOk z) (h : FOk z R) {L : List T3} (hL : inL z L) : inL z (stepL R L) := inL_strip (inL_grow s h hL)
theorem inL_back {z : Sz} {R : Tb} (s : BxOk z) (h : FOk z R) {L : List T3} (hL : inL z L) : inL z (bakL R L) := inL_strip (inL_growB s h hL)
theorem len_step (R : Tb) (L : List T3) : (stepL R L).length ≤ L.length + 2 := Nat.le_trans (strip_len _) (Nat.le_of_eq (len_grow R L))
theorem len_back (R : Tb) (L : List T3) : (bakL R L).length ≤ L.length + 2 := Nat.le_trans (strip_len _) (Nat.le_of_eq (len_growB R L))
theorem k_Parts_run (Γ : Ctx) : Keeps (t_Parts_run Γ) 3 4 (sp_Parts_run Γ) := by
  rintro xs M Q E hl ⟨z, R, L, n, rfl, hF, hz, hL, hn, q⟩
  walk_at "st"
  unfold t_Parts_run
  walk_at "hd"
  rw [Int.toNat_natCast]
  refine for_rng (fun i σ M' => M' = M ∧ ∃ x3, σ = [some (partsP Γ z R), some (lP (iterN (stepL R) i L)), some (.int (n : Int)), x3]) ⟨rfl, _, rfl⟩ ?_ ?_
  · rintro i σ M' K hi ⟨rfl, x3, rfl⟩ hK
    have hlen := len_iter (len_step R) i L
    unfold b_Parts_run_1 partsP
    walk_at "hd"
    refine ⟨z, R, _, rfl, hF, hz, inL_iter (fun _ => inL_step hz hF) i hL, by omega, ?_⟩
    walk_at "hd"
    exact hK _ _ ⟨rfl, _, by rw [iter_succ]; rfl⟩
  · rintro σ M' ⟨rfl, x3, rfl⟩
    walk_at "hd"
    exact q
theorem k_Parts_run_back (Γ : Ctx) : Keeps (t_Parts_run_back Γ) 3 4 (sp_Parts_run_back Γ) := by
  rintro xs M Q E hl ⟨z, R, L, n, rfl, hF, hz, hL, hn, q⟩
  walk_at "st"
  unfold t_Parts_run_back
  walk_at "hd"
  rw [Int.toNat_natCast]
  refine for_rng (fun i σ M' => M' = M ∧ ∃ x3, σ = [some (partsP Γ z R), some (lP (iterN (bakL R) i L)), some (.int (n : Int)), x3]) ⟨rfl, _, rfl⟩ ?_ ?_
  · rintro i σ M' K hi ⟨rfl, x3, rfl⟩ hK
    have hlen := len_iter (len_back R) i L
    unfold b_Parts_run_back_1 partsP
    walk_at "hd"
    refine ⟨z, R, _, rfl, hF, hz, inL_iter (fun _ => inL_back hz hF) i hL, by omega, ?_⟩
    walk_at "hd"
    exact hK _ _ ⟨rfl, _, by rw [iter_succ]; rfl⟩
  · rintro σ M' ⟨rfl, x3, rfl⟩
    walk_at "hd"
    exact q
theorem w_put3 {p C : Addr} {f : Str} {x : PV} {M : Mem} {fs fs' : List (Str × PV)} {k : Mem → Prop} (e : putP f x fs = fs') (hl : fs.length < 1000) (h : k (M.put p (.obj C fs'))) : kPutF C f x (.ptr p) (M.put p (.obj C fs)) k := by
  rw [putF_ptr put_same, put_put, e]
  exact ⟨hl, h⟩
theorem w_fld3 {p C : Addr} {f : Str} {fs : List (Str × PV)} {v : PV} {M : Mem} {k : PV → Prop} (e : fs.lookup f = some v) (h : k v) : need (fldOf (M.put p (.obj C fs)) C f (.ptr p)) k := by
  refine need_by (a := v) ?_ h
  show (match (M.put p (.obj C fs)) p with | some (.obj D gs) => if D = C then gs.lookup f else none | _ => none) = some v
  rw [put_same]
  exact (if_pos rfl).trans e
theorem w_neT {s t : T3} {M : Mem} {Q : PQ} (h : Q (.bl (!decide (s = t))) M) : oNe (tP s) (tP t) M Q := by
  show oEq (tP s) (tP t) M (fun v M => match v with | .bl b => Q (.bl (!b)) M | _ => False)
  exact w_eqT h
theorem k_Parts_init (Γ : Ctx) : Keeps (t_Parts_init Γ) 3 4 (sp_Parts_init Γ) := by
  rintro xs M Q E hl ⟨p, z, R, rfl, hz, hR, hp, q⟩
  walk_at "st"
  unfold t_Parts_init
  walk_at "hd"
  have sz1 := hz.a1; have sz2 := hz.b1; have sz3 := hz.c1; have sz4 := hz.a2; have sz5 := hz.b2; have sz6 := hz.c2; have sz7 := hz.m
  have sze : ((z.a * z.b * z.c : Nat) : Int) = (z.a : Int) * z.b * z.c := by simp
  show sp_is_sizes Γ [szP z] _ _ _
  refine ⟨z.a, z.b, z.c, rfl, ⟨by omega, by omega⟩, ⟨by omega, by omega⟩, ⟨by omega, by omega⟩, ?_⟩
  rw [decide_eq_true (show ((z.a : Int) * z.b * z.c) ≤ 40000 by omega)]
  walk_at "hd"
  refine need_by (show dctOf M (.dct (dP R)) = some (dP R) from rfl) ?_
  walk_at "hd"
  rw [keys_dP, List.map_map]
  refine for_in (fun i σ M' => M' = M ∧ ∃ x3, σ = [some (.ptr p), some (szP z), some (.dct (dP R)), x3]) ⟨rfl, _, rfl⟩ ?_ ?_
  · rintro i x σ M' K hx ⟨rfl, x3, rfl⟩ hK
    rw [List.getElem?_map] at hx
    obtain ⟨r, hr, rfl⟩ := Option.map_eq_some_iff.mp hx
    have hm := List.mem_of_getElem? hr
    obtain ⟨d1, d2⟩ := hR.dom r hm
    unfold b_Parts_init_1 szP
    walk_at "hd"
    unfold pRevT
    walk_at "hd"
    refine need_by (show tupF (.tup [PV.int (z.a : Int), PV.int (z.b : Int), PV.int (z.c : Int)]) = some _ from rfl) ?_
    walk_at "hd"
    show sp_is_triple Γ [tP r.1, szP z.rev] _ _ _
    refine ⟨z.rev, r.1, rfl, ?_⟩
    rw [decide_eq_true d1]
    walk_at "hd"
    refine w_ixDP (look_mem hR.k hm) ?_
    walk_at "hd"
    show sp_is_triple Γ [tP r.2, szP z] _ _ _
    refine ⟨z, r.2, rfl, ?_⟩
    rw [decide_eq_true d2]
    walk_at "hd"
    exact hK _ _ ⟨rfl, _, rfl⟩
  · rintro σ M' ⟨rfl, x3, rfl⟩
    walk_at "hd"
    refine ⟨(fun z => nomatch z), ?_⟩
    walk_at "hd"
    refine need_by (show dctOf M' (.dct (dP R)) = some (dP R) from rfl) ?_
    rw [show gv_QUIET = tP q0 from rfl]
    refine w_kKey ?_
    rw [atP_dP, look_mem hR.k hR.q]
    walk_at "hd"
    show oNe (tP q0) (tP q0) _ _
    refine w_neT ?_
    rw [decide_eq_true rfl]
    walk_at "hd"
    rw [putF_ptr hp]
    refine ⟨by decide, ?_⟩
    walk_at "hd"
    refine ⟨z, R, rfl, hz, hR, ?_⟩
    have fo := full_ok hR
    have lF := ch_len hz fo.toChOk
    walk_at "hd"
    refine w_put3 rfl (by show 1 < 1000; decide) ?_
    walk_at "hd"
    refine w_fld3 rfl ?_
    walk_at "hd"
    rw [keys_dP, List.map_map]
    refine dcl_map (fun p : T3 × T3 => tP p.1) (fun p => p.2) (fun p => tP p.1) (full z R) [] ?_ (by show 0 + _ ≤ _; omega) (fun r hr => ⟨_, rfl, fun S hS => ?_, fun S hS => ?_⟩) ?_
    · rw [List.map_nil, List.nil_append, show ((full z R).map fun p => kT p.2) = ((full z R).map (·.2)).map kT by rw [List.map_map]; rfl]
      exact nodup_kT fo.v
    · walk_at "hd"
      refine w_fld3 rfl ?_
      walk_at "hd"
      exact w_ixDP (look_mem fo.k hr) hS
    · walk_at "hd"
      exact hS
    rw [List.nil_append]
    walk_at "hd"
    refine w_put3 rfl (by show 2 < 1000; decide) ?_
    walk_at "hd"
    have e : (full z R).map (fun a => (kT a.2, tP a.1)) = dP (swp (full z R)) := by
      unfold dP swp
      rw [List.map_map]; rfl
    rw [e]
    exact q
end My
set_option Elab.async false
set_option linter.all false
set_option maxRecDepth 100000
namespace My
open PySem PL TM PD
local macro_rules | `(tactic| walk_at "hd") => `(tactic| repeat (first | (with_reducible refine w_cons ?_) | ((with_reducible refine' w_var ?_ ?_); rotate_left; exact rfl) | (with_reducible refine w_seq ?_) | (with_reducible refine w_C ?_) | (with_reducible refine w_nil ?_) | (with_reducible refine w_bin ?_) | (with_reducible refine w_tup ?_) | ((with_reducible refine' w_pset ?_ ?_); rotate_left; (intro x; first | with_reducible exact set_h0 | with_reducible exact set_h1 | with_reducible exact set_h2 | with_reducible exact set_h3 | with_reducible exact set_h4 | with_reducible exact set_h5 | with_reducible exact set_h6 | with_reducible exact set_h7 | with_reducible exact set_h8 | with_reducible exact set_h9 | with_reducible exact set_h10 | with_reducible exact set_h11 | with_reducible exact set_h12 | with_reducible exact set_h13 | with_reducible exact set_h14 | with_reducible exact set_h15 | with_reducible exact set_h16 | with_reducible exact set_h17 | with_reducible exact set_h18 | with_reducible exact set_h19 | with_reducible exact set_h20 | with_reducible exact set_h21 | with_reducible exact set_h22 | with_reducible exact set_h23 | with_reducible exact set_h24 | with_reducible exact set_h25)) | (with_reducible refine w_add ?_) | (with_reducible refine w_test ?_) | (with_reducible refine w_kB ?_) | (with_reducible refine w_call ?_) | (with_reducible refine w_ifs ?_) | (with_reducible refine w_next ?_) | ((with_reducible refine' w_gname ?_ ?_); rotate_left; (first | with_reducible exact set_h0 | with_reducible exact set_h1 | with_reducible exact set_h2 | with_reducible exact set_h3 | with_reducible exact set_h4 | with_reducible exact set_h5 | with_reducible exact set_h6 | with_reducible exact set_h7 | with_reducible exact set_h8 | with_reducible exact set_h9 | with_reducible exact set_h10 | with_reducible exact set_h11 | with_reducible exact set_h12 | with_reducible exact set_h13 | with_reducible exact set_h14 | with_reducible exact set_h15 | with_reducible exact set_h16 | with_reducible exact set_h17 | with_reducible exact set_h18 | with_reducible exact set_h19 | with_reducible exact set_h20 | with_reducible exact set_h21 | with_reducible exact set_h22 | with_reducible exact set_h23 | with_reducible exact set_h24 | with_reducible exact set_h25)) | (with_reducible refine w_ret ?_) | (with_reducible refine w_fld ?_) | (with_reducible refine w_ifd ?_) | ((with_reducible refine' w_fldO ?_ ?_); rotate_left; exact rfl) | (with_reducible refine w_gcons ?_) | (with_reducible refine w_callB ?_) | (with_reducible refine w_on1 ?_) | ((with_reducible refine w_mod ?_ ?_); (first | decide | omega)) | (with_reducible refine w_int ?_) | (with_reducible refine w_drop ?_) | (with_reducible refine w_for ?_) | (with_reducible refine w_I0 ?_) | (with_reducible refine w_ifF ?_) | (with_reducible refine w_part ?_) | (with_reducible refine w_partI ?_) | (with_reducible refine w_sl ?_) | (with_reducible refine w_nop ?_) | (with_reducible refine w_ifT ?_) | (with_reducible refine w_R1 ?_) | ((with_reducible refine w_R1I ?_ ?_); (first | decide | omega)) | (with_reducible refine w_gnil ?_) | (with_reducible refine w_ixtup0 ?_) | (with_reducible refine w_ifn ?_) | (with_reducible refine w_asg ?_) | ((with_reducible refine w_gtup ?_ ?_); exact rfl) | (with_reducible refine w_eqInt ?_) | (with_reducible refine w_ixtup1 ?_) | (with_reducible refine w_or ?_) | (with_reducible refine w_not ?_) | (with_reducible refine w_in_non ?_) | (with_reducible refine w_lc ?_) | ((with_reducible refine w_div ?_ ?_); (first | decide | omega)) | (with_reducible refine w_neg ?_) | (with_reducible refine w_negI ?_) | (with_reducible refine w_eqStr ?_) | (with_reducible refine w_slT ?_) | (with_reducible refine w_lentup ?_) | (with_reducible refine w_tupL ?_) | (with_reducible refine w_lstF ?_) | (with_reducible refine w_app ?_) | (with_reducible refine w_tisN ?_) | (with_reducible refine w_meth ?_) | ((with_reducible refine w_objO ?_ ?_); exact rfl) | (with_reducible refine w_lstM ?_) | (with_reducible refine w_ixtup2 ?_) | (with_reducible refine w_retF ?_) | (with_reducible refine w_iL ?_) | (with_reducible refine w_make ?_) | (with_reducible refine w_fldS ?_) | (with_reducible refine w_rg1 ?_) | (with_reducible refine w_dnew ?_) | (with_reducible refine w_piD ?_) | (with_reducible refine w_dctF ?_) | (with_reducible refine w_dc ?_) | (with_reducible refine w_dcF ?_) | (with_reducible refine w_piZ3 ?_) | (with_reducible refine w_piET ?_) | (with_reducible refine w_pIsD ?_) | (with_reducible refine w_dct1 ?_) | (with_reducible refine w_gsubD ?_) | (with_reducible refine w_lst ?_) | (with_reducible refine w_ixtup3 ?_) | (with_reducible refine w_lenlst ?_) | (with_reducible refine w_and ?_) | (with_reducible refine w_in_tup ?_) | ((with_reducible refine' w_aug ?_ ?_ ?_); rotate_left 2; exact rfl; (intro x; first | with_reducible exact set_h0 | with_reducible exact set_h1 | with_reducible exact set_h2 | with_reducible exact set_h3 | with_reducible exact set_h4 | with_reducible exact set_h5 | with_reducible exact set_h6 | with_reducible exact set_h7 | with_reducible exact set_h8 | with_reducible exact set_h9 | with_reducible exact set_h10 | with_reducible exact set_h11 | with_reducible exact set_h12 | with_reducible exact set_h13 | with_reducible exact set_h14 | with_reducible exact set_h15 | with_reducible exact set_h16 | with_reducible exact set_h17 | with_reducible exact set_h18 | with_reducible exact set_h19 | with_reducible exact set_h20 | with_reducible exact set_h21 | with_reducible exact set_h22 | with_reducible exact set_h23 | with_reducible exact set_h24 | with_reducible exact set_h25)) | (with_reducible refine w_lc2 ?_) | (with_reducible refine w_lcT ?_) | (with_reducible refine w_on2 ?_) | (with_reducible refine w_neInt ?_) | (with_reducible refine w_slL ?_) | (with_reducible refine w_tnotN ?_) | (with_reducible refine w_iT ?_) | (with_reducible refine w_tupF ?_) | (with_reducible refine w_par ?_) | ((with_reducible refine' w_kpar ?_ ?_ ?_); rotate_left 2; (first | with_reducible exact set_h0 | with_reducible exact set_h1 | with_reducible exact set_h2 | with_reducible exact set_h3 | with_reducible exact set_h4 | with_reducible exact set_h5 | with_reducible exact set_h6 | with_reducible exact set_h7 | with_reducible exact set_h8 | with_reducible exact set_h9 | with_reducible exact set_h10 | with_reducible exact set_h11 | with_reducible exact set_h12 | with_reducible exact set_h13 | with_reducible exact set_h14 | with_reducible exact set_h15 | with_reducible exact set_h16 | with_reducible exact set_h17 | with_reducible exact set_h18 | with_reducible exact set_h19 | with_reducible exact set_h20 | with_reducible exact set_h21 | with_reducible exact set_h22 | with_reducible exact set_h23 | with_reducible exact set_h24 | with_reducible exact set_h25); (first | with_reducible exact set_h0 | with_reducible exact set_h1 | with_reducible exact set_h2 | with_reducible exact set_h3 | with_reducible exact set_h4 | with_reducible exact set_h5 | with_reducible exact set_h6 | with_reducible exact set_h7 | with_reducible exact set_h8 | with_reducible exact set_h9 | with_reducible exact set_h10 | with_reducible exact set_h11 | with_reducible exact set_h12 | with_reducible exact set_h13 | with_reducible exact set_h14 | with_reducible exact set_h15 | with_reducible exact set_h16 | with_reducible exact set_h17 | with_reducible exact set_h18 | with_reducible exact set_h19 | with_reducible exact set_h20 | with_reducible exact set_h21 | with_reducible exact set_h22 | with_reducible exact set_h23 | with_reducible exact set_h24 | with_reducible exact set_h25)) | (with_reducible refine w_par3 ?_) | ((with_reducible refine' w_kpar3 ?_ ?_ ?_ ?_); rotate_left 3; (first | with_reducible exact set_h0 | with_reducible exact set_h1 | with_reducible exact set_h2 | with_reducible exact set_h3 | with_reducible exact set_h4 | with_reducible exact set_h5 | with_reducible exact set_h6 | with_reducible exact set_h7 | with_reducible exact set_h8 | with_reducible exact set_h9 | with_reducible exact set_h10 | with_reducible exact set_h11 | with_reducible exact set_h12 | with_reducible exact set_h13 | with_reducible exact set_h14 | with_reducible exact set_h15 | with_reducible exact set_h16 | with_reducible exact set_h17 | with_reducible exact set_h18 | with_reducible exact set_h19 | with_reducible exact set_h20 | with_reducible exact set_h21 | with_reducible exact set_h22 | with_reducible exact set_h23 | with_reducible exact set_h24 | with_reducible exact set_h25); (first | with_reducible exact set_h0 | with_reducible exact set_h1 | with_reducible exact set_h2 | with_reducible exact set_h3 | with_reducible exact set_h4 | with_reducible exact set_h5 | with_reducible exact set_h6 | with_reducible exact set_h7 | with_reducible exact set_h8 | with_reducible exact set_h9 | with_reducible exact set_h10 | with_reducible exact set_h11 | with_reducible exact set_h12 | with_reducible exact set_h13 | with_reducible exact set_h14 | with_reducible exact set_h15 | with_reducible exact set_h16 | with_reducible exact set_h17 | with_reducible exact set_h18 | with_reducible exact set_h19 | with_reducible exact set_h20 | with_reducible exact set_h21 | with_reducible exact set_h22 | with_reducible exact set_h23 | with_reducible exact set_h24 | with_reducible exact set_h25); (first | with_reducible exact set_h0 | with_reducible exact set_h1 | with_reducible exact set_h2 | with_reducible exact set_h3 | with_reducible exact set_h4 | with_reducible exact set_h5 | with_reducible exact set_h6 | with_reducible exact set_h7 | with_reducible exact set_h8 | with_reducible exact set_h9 | with_reducible exact set_h10 | with_reducible exact set_h11 | with_reducible exact set_h12 | with_reducible exact set_h13 | with_reducible exact set_h14 | with_reducible exact set_h15 | with_reducible exact set_h16 | with_reducible exact set_h17 | with_reducible exact set_h18 | with_reducible exact set_h19 | with_reducible exact set_h20 | with_reducible exact set_h21 | with_reducible exact set_h22 | with_reducible exact set_h23 | with_reducible exact set_h24 | with_reducible exact set_h25)) | (with_reducible refine w_rg2 ?_) | (with_reducible refine w_asT ?_) | (with_reducible refine w_kTp ?_) | (with_reducible refine w_pdget2 ?_) | (with_reducible refine w_zT ?_) | (with_reducible refine w_dct ?_) | (with_reducible refine w_listL ?_) | (with_reducible refine w_andV ?_) | (with_reducible refine w_isN ?_) | (with_reducible refine w_cnt ?_) | (with_reducible refine w_retD ?_) | ((with_reducible refine' w_isi_i ?_ ?_); rotate_left; (first | with_reducible exact kit_ib | with_reducible exact kit_ii | with_reducible exact kit_it | with_reducible exact kit_il | with_reducible exact kit_is)) | ((with_reducible refine' w_isi_t ?_ ?_); rotate_left; (first | with_reducible exact kit_tb | with_reducible exact kit_ti | with_reducible exact kit_tt | with_reducible exact kit_tl | with_reducible exact kit_ts)) | (with_reducible refine w_lc2M ?_) | (with_reducible refine w_lcM ?_) | (with_reducible refine w_catN ?_) | (with_reducible refine w_tcnt ?_) | (with_reducible refine w_kTCnt ?_) | (with_reducible refine w_catR ?_) | (with_reducible refine w_tidx ?_) | (with_reducible refine w_pdget1 ?_) | (with_reducible refine w_rv ?_) | (with_reducible refine w_z ?_) | (with_reducible refine w_gsub ?_) | (with_reducible refine w_ixlst0 ?_) | (with_reducible refine w_ixlst1 ?_) | (with_reducible refine w_slS ?_) | (with_reducible refine w_abs ?_) | (with_reducible refine w_listML ?_) | (with_reducible refine w_notB ?_) | (with_reducible refine w_brk ?_) | (with_reducible refine w_fzE ?_) | ((with_reducible refine' w_isi_l ?_ ?_); rotate_left; (first | with_reducible exact kit_lb | with_reducible exact kit_li | with_reducible exact kit_lt | with_reducible exact kit_ll | with_reducible exact kit_ls)) | (with_reducible refine w_join ?_) | (with_reducible refine w_kStr ?_) | (with_reducible refine w_zL ?_) | (with_reducible refine w_tupRg ?_) | ((with_reducible refine w_shr ?_ ?_); (first | decide | omega)) | (with_reducible refine w_retN ?_) | (with_reducible refine w_dnx ?_) | (with_reducible refine w_drt ?_) | (with_reducible refine w_dbk ?_) | (with_reducible refine w_eqBl ?_) | (with_reducible refine w_neBl ?_) | (with_reducible refine w_neStr ?_) | (with_reducible refine w_ixlst2 ?_) | (with_reducible refine w_ixlst3 ?_) | (with_reducible refine w_ixtup4 ?_) | (with_reducible refine w_ixlst4 ?_) | (with_reducible refine w_ixtup5 ?_) | (with_reducible refine w_ixlst5 ?_) | (with_reducible refine w_need ?_) | (with_reducible refine w_lenscr ?_) | (with_reducible refine w_listT ?_) | (with_reducible refine w_listS ?_) | (with_reducible refine w_tupT ?_) | (with_reducible refine w_listMT ?_) | (with_reducible refine w_orV ?_) | (with_reducible refine w_notV ?_) | (with_reducible refine w_if ?_) | (with_reducible refine w_notN ?_) | (with_reducible refine w_in_int ?_) | (with_reducible refine w_in_lst ?_) | (with_reducible refine w_in_ptr ?_) | (with_reducible refine w_in_str ?_) | (with_reducible refine w_in_bl ?_) | (with_reducible refine w_isB ?_) | (with_reducible refine w_lstFs ?_) | (with_reducible refine w_R2 ?_) | (with_reducible refine w_forM ?_) | (with_reducible refine w_lcnil ?_) | (with_reducible refine w_lccons ?_) | (with_reducible refine w_retFD ?_) | (with_reducible refine w_raise ?_) | (with_reducible refine w_raiseF ?_) | (with_reducible refine w_tryF ?_) | (with_reducible refine w_isFp ?_) | (with_reducible refine w_isFx ?_) | ((with_reducible refine' w_xf ?_ ?_); rotate_left; exact rfl) | (with_reducible refine w_try ?_) | (with_reducible refine w_lstRg ?_) | (with_reducible refine w_pop ?_) | (with_reducible refine w_rev ?_) | (with_reducible refine w_revL ?_) | (with_reducible refine w_forE ?_) | ((with_reducible refine' w_isi_b ?_ ?_); rotate_left; (first | with_reducible exact kit_bb | with_reducible exact kit_bi | with_reducible exact kit_bt | with_reducible exact kit_bl | with_reducible exact kit_bs)) | ((with_reducible refine' w_isi_s ?_ ?_); rotate_left; (first | with_reducible exact kit_sb | with_reducible exact kit_si | with_reducible exact kit_st | with_reducible exact kit_sl | with_reducible exact kit_ss)) | ((with_reducible refine' w_isi_n ?_ ?_); rotate_left; (first | with_reducible exact kit_nb | with_reducible exact kit_ni | with_reducible exact kit_nt | with_reducible exact kit_nl | with_reducible exact kit_ns))))
local macro_rules | `(tactic| walk_at "st") => `(tactic| simp only [pstart, List.map_cons, List.map_nil, List.cons_append, List.nil_append, List.length_cons, List.length_nil, List.replicate, Nat.reduceSub, Nat.reduceAdd, Nat.zero_add])
theorem hd_inj {m s k s' k' : Int} (h1 : 0 ≤ k ∧ k < m) (h2 : 0 ≤ k' ∧ k' < m) (e : hdI m s k = hdI m s' k') : s = s' ∧ k = k' := by
  unfold hdI at e
  have hm : 0 < m := by omega
  have e1 : (m * (s + 1) + k) / m = s + 1 := by
    rw [Int.add_comm, Int.add_mul_ediv_left _ _ (by omega), Int.ediv_eq_zero_of_lt h1.1 h1.2, Int.zero_add]
  have e2 : (m * (s' + 1) + k') / m = s' + 1 := by
    rw [Int.add_comm, Int.add_mul_ediv_left _ _ (by omega), Int.ediv_eq_zero_of_lt h2.1 h2.2, Int.zero_add]
  have e3 : s + 1 = s' + 1 := by rw [← e1, ← e2, e]
  have e4 : s = s' := by omega
  subst e4
  exact ⟨rfl, by omega⟩
theorem tri_inj {a b : Int} (h : tri a = tri b) : a = b := by
  injection h with _ h
  injection h
theorem hd_ge {m s k : Int} (hm : 0 < m) (hs : 0 ≤ s) (hk : 0 ≤ k) : m ≤ hdI m s k := by
  unfold hdI
  have : m * 1 ≤ m * (s + 1) := Int.mul_le_mul_of_nonneg_left (by omega) (by omega)
  omega
theorem hd_lt {m s k S : Int} (hs : s < S) (hk : k < m) (hm : 0 < m) : hdI m s k < m * (S + 1) := by
  unfold hdI
  have : m * (s + 1 + 1) ≤ m * (S + 1) := Int.mul_le_mul_of_nonneg_left (by omega) (by omega)
  rw [Int.mul_add] at this
  omega
theorem nodup_flat {α β : Type} {f : α → List β} {xs : List α} (h1 : ∀ a ∈ xs, (f a).Nodup) (h2 : xs.Pairwise fun a b => ∀ x ∈ f a, ∀ y ∈ f b, x ≠ y) : ((xs.map f).flatten).Nodup := by
  unfold List.Nodup at *
  rw [List.pairwise_flatten]
  refine ⟨fun l hl => ?_, List.pairwise_map.mpr h2⟩
  obtain ⟨a, ha, rfl⟩ := List.mem_map.mp hl
  exact h1 a ha
theorem rng_pw (n : Nat) : (List.range n).Pairwise (· < ·) := List.pairwise_lt_range
theorem ln_len (m q : Int) (t : Tp) : (lnL m q t).length = t.l.length + 1 + t.r.length := by
  unfold lnL
  rw [List.length_map, List.length_append, List.length_append, List.length_reverse, List.length_singleton]
/-! ### the changes of a line from which what is forgotten flies away -/
theorem szF_ints {m s : Int} (hm : 2 ≤ m) (hs : 1 ≤ s) : ((szF m s).a : Int) = (s + 1) * (s * m + 1) ∧ ((szF m s).b : Int) = m * (s + 1) ∧ ((szF m s).c : Int) = s + 1 := by
  have h0 : 0 ≤ s * m := Int.mul_nonneg (by omega) (by omega)
  have h1 : 0 ≤ (s + 1) * (s * m + 1) := Int.mul_nonneg (by omega) (by omega)
  have h2 : 0 ≤ m * (s + 1) := Int.mul_nonneg (by omega) (by omega)
  unfold szF
  exact ⟨Int.toNat_of_nonneg h1, Int.toNat_of_nonneg h2, Int.toNat_of_nonneg (by omega)⟩
theorem szF_box {m s : Int} (hm : 2 ≤ m) (hs : 1 ≤ s) (h : (s + 1) * (s * m + 1) * (m * (s + 1)) * (s + 1) ≤ 40000) : BxOk (szF m s) := by
  obtain ⟨e1, e2, e3⟩ := szF_ints hm hs
  have h0 : 1 * 2 ≤ s * m := Int.mul_le_mul hs hm (by omega) (by omega)
  have pa : 1 * 1 ≤ (s + 1) * (s * m + 1) := Int.mul_le_mul (by omega) (by omega) (by omega) (by omega)
  have pb : 1 * 1 ≤ m * (s + 1) := Int.mul_le_mul (by omega) (by omega) (by omega) (by omega)
  have hab : (s * m + 1) ≤ m * (s + 1) := by rw [Int.mul_add, Int.mul_comm m s]; omega
  have h2 : (s + 1) * (s * m + 1) ≤ (s + 1) * (m * (s + 1)) := Int.mul_le_mul_of_nonneg_left hab (by omega)
  have pbc : 0 ≤ m * (s + 1) * (s + 1) := Int.mul_nonneg (by omega) (by omega)
  have h3 : (s + 1) * (s * m + 1) ≤ m * (s + 1) * (s + 1) := by rw [Int.mul_comm (m * (s + 1)) (s + 1)]; exact h2
  have h4 : (s + 1) * (s * m + 1) * ((s + 1) * (s * m + 1)) ≤ (s + 1) * (s * m + 1) * (m * (s + 1) * (s + 1)) := Int.mul_le_mul_of_nonneg_left h3 (by omega)
  rw [← Int.mul_assoc ((s + 1) * (s * m + 1)) (m * (s + 1)) (s + 1)] at h4
  generalize hA : (s + 1) * (s * m + 1) = A at *
  generalize hB : m * (s + 1) = B at *
  have ha : A ≤ 200 := by
    refine Int.not_lt.mp fun z => ?_
    have : 201 * 201 ≤ A * A := Int.mul_le_mul (by omega) (by omega) (by omega) (by omega)
    omega
  have hc : s + 1 ≤ 200 := by
    have : (s + 1) * 1 ≤ (s + 1) * (s * m + 1) := Int.mul_le_mul_of_nonneg_left (by omega) (by omega)
    omega
  have hbb : B ≤ 40000 := by
    have u1 : 1 * B ≤ A * B := Int.mul_le_mul_of_nonneg_right (by omega) (by omega)
    have u2 : A * B * 1 ≤ A * B * (s + 1) := Int.mul_le_mul_of_nonneg_left (by omega) (Int.mul_nonneg (by omega) (by omega))
    omega
  refine ⟨by omega, by omega, by omega, by omega, by omega, by omega, ?_⟩
  have : (((szF m s).a * (szF m s).b * (szF m s).c : Nat) : Int) = A * B * (s + 1) := by rw [Int.natCast_mul, Int.natCast_mul, e1, e2, e3]
  omega
/-- the block of a key, of a value -/
def kBlk (m z : Int) (x : T3) : Int × Int := if z ≤ x.2.2 then (1, x.2.2 % z) else if m ≤ x.2.1 then (1, x.2.1 - m + 1) else (0, x.2.1)
def vBlk (m z : Int) (x : T3) : Int × Int := if 1 ≤ x.2.2 then (1, x.1) else if z ≤ x.1 then (1, x.1 % z) else if 1 ≤ x.1 ∧ m ≤ x.2.1 then (1, x.1) else (0, x.2.1 % m)
theorem mem_b {m s q k : Int} (hm : 2 ≤ m) (hq : 0 ≤ q ∧ q < s) (hk : 0 ≤ k ∧ k < m) : 1 ≤ memI m q k ∧ memI m q k < s * m + 1 := by
  unfold memI
  have h1 : 0 ≤ m * q := Int.mul_nonneg (by omega) (by omega)
  have h2 : m * (q + 1) ≤ m * s := Int.mul_le_mul_of_nonneg_left (by omega) (by omega)
  rw [Int.mul_add, Int.mul_comm m s] at h2
  omega
theorem mem_inj {m q k q' k' : Int} (hk : 0 ≤ k ∧ k < m) (hk' : 0 ≤ k' ∧ k' < m) (e : memI m q k = memI m q' k') : q = q' ∧ k = k' := by
  refine hd_inj (m := m) hk hk' ?_
  unfold memI at e
  unfold hdI
  rw [Int.mul_add, Int.mul_add]
  omega
theorem let_b {m s q k t : Int} (hm : 2 ≤ m) (hq : 0 ≤ q ∧ q < s) (hk : 0 ≤ k ∧ k < m) (ht : 0 ≤ t ∧ t < s) :
    s * m + 1 ≤ (t + 1) * (s * m + 1) + memI m q k ∧ (t + 1) * (s * m + 1) + memI m q k < (s + 1) * (s * m + 1) ∧ ((t + 1) * (s * m + 1) + memI m q k) % (s * m + 1) = memI m q k := by
  have hb := mem_b hm hq hk
  have h0 : 0 ≤ s * m := Int.mul_nonneg (by omega) (by omega)
  have h1 : 1 * (s * m + 1) ≤ (t + 1) * (s * m + 1) := Int.mul_le_mul_of_nonneg_right (by omega) (by omega)
  have h2 : (t + 1 + 1) * (s * m + 1) ≤ (s + 1) * (s * m + 1) := Int.mul_le_mul_of_nonneg_right (by omega) (by omega)
  rw [Int.add_mul (t + 1) 1] at h2
  refine ⟨by omega, by omega, ?_⟩
  rw [Int.add_comm, Int.add_mul_emod_self_right, Int.emod_eq_of_lt (by omega) hb.2]
theorem hd_mem (m q k : Int) : hdI m q k - m + 1 = memI m q k := by
  unfold hdI memI
  rw [Int.mul_add]
  omega
theorem hd_mod {m q k : Int} (hk : 0 ≤ k ∧ k < m) : hdI m q k % m = k := by
  unfold hdI
  rw [Int.add_comm, Int.add_mul_emod_self_left, Int.emod_eq_of_lt hk.1 hk.2]
section
variable {m s : Int}
/-- what stands in a quiet block -/
theorem qt_mem {k : Nat} {p : T3 × T3} (h : p ∈ qtF m s k) : p = (tri k, tri k) ∨ (∃ j : Int, (1 ≤ j ∧ j < s * m + 1) ∧ p = ((0, (k : Int), j), (j, (k : Int), 0))) ∨ ∃ q : Int, (0 ≤ q ∧ q < s) ∧ p = ((q + 1, (k : Int), 0), tri (hdI m q k)) := by
  unfold qtF at h
  rcases List.mem_cons.mp h with h | h
  · exact .inl h
  · rcases List.mem_append.mp h with h | h
    · obtain ⟨j, hj, rfl⟩ := List.mem_map.mp h
      have := List.mem_range.mp hj
      exact .inr (.inl ⟨1 + (j : Int), by omega, rfl⟩)
    · obtain ⟨q, hq, rfl⟩ := List.mem_map.mp h
      have := List.mem_range.mp hq
      exact .inr (.inr ⟨(q : Int), by omega, rfl⟩)
theorem row_mem {q k : Int} {r : TRow} {p : T3 × T3} (hr : RowOk m s r) (h : p ∈ rowFl m s q k r) : ∃ w t : Int, (0 ≤ w ∧ w < m) ∧ (0 ≤ t ∧ t < s) ∧ (p = (tri (hdI m q k), (memI m q k, w, t + 1)) ∨ p = (tri (hdI m q k), ((t + 1) * (s * m + 1) + memI m q k, w, 0)) ∨ ∃ j : Int, (0 ≤ j ∧ j < m) ∧ p = ((0, j, (t + 1) * (s * m + 1) + memI m q k), (memI m q k, hdI m t j, 0))) := by
  cases r with
  | none => cases h
  | some r =>
    obtain ⟨w, mv, t⟩ := r
    obtain ⟨h1, h2, h3⟩ := hr
    refine ⟨w, t, h1, h3, ?_⟩
    unfold rowFl at h
    dsimp only at h
    split at h
    · exact .inl (List.mem_singleton.mp h)
    · rcases List.mem_cons.mp h with h | h
      · exact .inr (.inl h)
      · obtain ⟨j, hj, rfl⟩ := List.mem_map.mp h
        have := List.mem_range.mp hj
        exact .inr (.inr ⟨(j : Int), by omega, rfl⟩)
theorem qt_blk (hm : 2 ≤ m) (hs : 1 ≤ s) {k : Nat} (hk : (k : Int) < m) {p : T3 × T3} (h : p ∈ qtF m s k) : kBlk m (s * m + 1) p.1 = (0, (k : Int)) ∧ vBlk m (s * m + 1) p.2 = (0, (k : Int)) := by
  have h0 : 1 * 2 ≤ s * m := Int.mul_le_mul hs hm (by omega) (by omega)
  have km : (k : Int) % m = k := Int.emod_eq_of_lt (by omega) hk
  rcases qt_mem h with rfl | ⟨j, hj, rfl⟩ | ⟨q, hq, rfl⟩
  · unfold kBlk vBlk tri
    dsimp only
    rw [if_neg (by omega), if_neg (by omega), if_neg (by omega), if_neg (by omega), if_neg (by omega), km]
    exact ⟨rfl, rfl⟩
  · unfold kBlk vBlk
    dsimp only
    rw [if_neg (by omega), if_neg (by omega), if_neg (by omega), if_neg (by omega), if_neg (by omega), km]
    exact ⟨rfl, rfl⟩
  · unfold kBlk vBlk tri
    dsimp only
    rw [if_neg (by omega), if_neg (by omega), if_neg (by omega), if_neg (by omega), if_neg (by omega), hd_mod ⟨by omega, hk⟩]
    exact ⟨rfl, rfl⟩
theorem row_blk (hm : 2 ≤ m) (hs : 1 ≤ s) {q k : Int} (hq : 0 ≤ q ∧ q < s) (hk : 0 ≤ k ∧ k < m) {r : TRow} (hr : RowOk m s r) {p : T3 × T3} (h : p ∈ rowFl m s q k r) : kBlk m (s * m + 1) p.1 = (1, memI m q k) ∧ vBlk m (s * m + 1) p.2 = (1, memI m q k) := by
  have h0 : 1 * 2 ≤ s * m := Int.mul_le_mul hs hm (by omega) (by omega)
  have hb := mem_b hm hq hk
  have hg := hd_ge (m := m) (s := q) (k := k) (by omega) hq.1 hk.1
  obtain ⟨w, t, hw, ht, h⟩ := row_mem hr h
  have hl := let_b hm hq hk ht
  rcases h with rfl | rfl | ⟨j, hj, rfl⟩
  · unfold kBlk vBlk tri
    dsimp only
    rw [if_neg (by omega), if_pos (by omega), if_pos (by omega), hd_mem]
    exact ⟨rfl, rfl⟩
  · unfold kBlk vBlk tri
    dsimp only
    rw [if_neg (by omega), if_pos (by omega), if_neg (by omega), if_pos (by omega), hd_mem, hl.2.2]
    exact ⟨rfl, rfl⟩
  · have hgj := hd_ge (m := m) (s := t) (k := j) (by omega) ht.1 hj.1
    unfold kBlk vBlk
    dsimp only
    rw [if_pos (by omega), if_neg (by omega), if_neg (by omega), if_pos (by omega), hl.2.2]
    exact ⟨rfl, rfl⟩
theorem map_nd {α β : Type} {f : α → β} {l : List α} (h : l.Pairwise fun a b => f a ≠ f b) : (l.map f).Nodup := List.pairwise_map.mpr h
theorem qt_nd (hm : 2 ≤ m) (hs : 1 ≤ s) {k : Nat} (hk : (k : Int) < m) : ((qtF m s k).map (·.1)).Nodup ∧ ((qtF m s k).map (·.2)).Nodup := by
  have h0 : 1 * 2 ≤ s * m := Int.mul_le_mul hs hm (by omega) (by omega)
  have two : ∀ (P : T3 × T3 → T3), (∀ j : Nat, P (tri k, tri k) ≠ P ((0, (k : Int), 1 + (j : Int)), (1 + (j : Int), (k : Int), 0))) → (∀ q : Nat, P (tri k, tri k) ≠ P (((q : Int) + 1, (k : Int), 0), tri (hdI m q k))) →
      (∀ i j : Nat, i < j → P ((0, (k : Int), 1 + (i : Int)), (1 + (i : Int), (k : Int), 0)) ≠ P ((0, (k : Int), 1 + (j : Int)), (1 + (j : Int), (k : Int), 0))) → (∀ i j : Nat, i < j → P (((i : Int) + 1, (k : Int), 0), tri (hdI m i k)) ≠ P (((j : Int) + 1, (k : Int), 0), tri (hdI m j k))) →
      (∀ i j : Nat, P ((0, (k : Int), 1 + (i : Int)), (1 + (i : Int), (k : Int), 0)) ≠ P (((j : Int) + 1, (k : Int), 0), tri (hdI m j k))) → ((qtF m s k).map P).Nodup := fun P g1 g2 g3 g4 g5 => by
    unfold qtF
    rw [List.map_cons, List.map_append, List.nodup_cons]
    refine ⟨fun h => ?_, List.nodup_append.mpr ⟨?_, ?_, ?_⟩⟩
    · rcases List.mem_append.mp h with h | h
      · obtain ⟨p, hp, e⟩ := List.mem_map.mp h
        obtain ⟨j, _, rfl⟩ := List.mem_map.mp hp
        exact g1 j e.symm
      · obtain ⟨p, hp, e⟩ := List.mem_map.mp h
        obtain ⟨j, _, rfl⟩ := List.mem_map.mp hp
        exact g2 j e.symm
    · rw [List.map_map]
      exact map_nd ((rng_pw _).imp fun {a b} hab => g3 a b hab)
    · rw [List.map_map]
      exact map_nd ((rng_pw _).imp fun {a b} hab => g4 a b hab)
    · intro x hx y hy
      obtain ⟨p, hp, rfl⟩ := List.mem_map.mp hx
      obtain ⟨i, _, rfl⟩ := List.mem_map.mp hp
      obtain ⟨p, hp, rfl⟩ := List.mem_map.mp hy
      obtain ⟨j, _, rfl⟩ := List.mem_map.mp hp
      exact g5 i j
  have hg : ∀ q : Nat, m ≤ hdI m q k := fun q => hd_ge (by omega) (by omega) (by omega)
  have kk : (0 : Int) ≤ (k : Int) ∧ (k : Int) < m := ⟨by omega, hk⟩
  constructor
  · refine two (·.1) (fun j e => ?_) (fun q e => ?_) (fun i j h e => ?_) (fun i j h e => ?_) (fun i j e => ?_)
    · unfold tri at e; injection e with e1 e2; injection e2 with e2 e3; omega
    · unfold tri at e; injection e with e1 e2; omega
    · injection e with e1 e2; injection e2 with e2 e3; omega
    · injection e with e1 e2; omega
    · injection e with e1 e2; omega
  · refine two (·.2) (fun j e => ?_) (fun q e => ?_) (fun i j h e => ?_) (fun i j h e => ?_) (fun i j e => ?_)
    · unfold tri at e; injection e with e1 e2; omega
    · have := tri_inj e; have := hg q; omega
    · injection e with e1 e2; omega
    · have := (hd_inj kk kk (tri_inj e)).1; omega
    · unfold tri at e; injection e with e1 e2; omega
theorem row_nd (hm : 2 ≤ m) (hs : 1 ≤ s) {q k : Int} (hq : 0 ≤ q ∧ q < s) (hk : 0 ≤ k ∧ k < m) {r : TRow} (hr : RowOk m s r) : ((rowFl m s q k r).map (·.1)).Nodup ∧ ((rowFl m s q k r).map (·.2)).Nodup := by
  cases r with
  | none => exact ⟨List.nodup_nil, List.nodup_nil⟩
  | some r =>
    obtain ⟨w, mv, t⟩ := r
    obtain ⟨hw, _, ht⟩ := hr
    have hl := let_b hm hq hk ht
    have h0 : 1 * 2 ≤ s * m := Int.mul_le_mul hs hm (by omega) (by omega)
    have hb := mem_b hm hq hk
    unfold rowFl
    dsimp only
    split
    · exact ⟨List.pairwise_singleton _ _, List.pairwise_singleton _ _⟩
    · constructor
      · rw [List.map_cons, List.nodup_cons, List.map_map]
        refine ⟨fun h => ?_, map_nd ((rng_pw _).imp fun {a b} hab e => ?_)⟩
        · obtain ⟨j, _, e⟩ := List.mem_map.mp h
          unfold tri at e
          injection e with e1 e2
          injection e2 with e2 e3
          omega
        · injection e with e1 e2
          injection e2 with e2 e3
          omega
      · rw [List.map_cons, List.nodup_cons, List.map_map]
        refine ⟨fun h => ?_, map_nd ((rng_pw _).imp fun {a b} hab e => ?_)⟩
        · obtain ⟨j, _, e⟩ := List.mem_map.mp h
          injection e with e1 e2
          omega
        · injection e with e1 e2
          injection e2 with e2 e3
          unfold hdI at e2
          omega
end
theorem row_ok {m s : Int} {rows : List TRow} (hM : Mach m s rows) (q k : Int) : RowOk m s (rowAt rows m q k) := by
  unfold rowAt
  cases e : rows[(q * m + k).toNat]? with
  | none => exact trivial
  | some r => exact hM.ok r (List.mem_of_getElem? e)
theorem prF_ok {m s : Int} {rows : List TRow} (hM : Mach m s rows) : ChOk (szF m s) (prF m s rows) := by
  have hm := hM.m2
  have hs := hM.s1
  obtain ⟨z1, z2, z3⟩ := szF_ints hm hs
  have h0 : 1 * 2 ≤ s * m := Int.mul_le_mul hs hm (by omega) (by omega)
  have hb1 : m * 1 ≤ m * (s + 1) := Int.mul_le_mul_of_nonneg_left (by omega) (by omega)
  have ha1 : 1 * (s * m + 1) ≤ (s + 1) * (s * m + 1) := Int.mul_le_mul_of_nonneg_right (by omega) (by omega)
  have cases_ : ∀ p ∈ prF m s rows, (∃ k : Nat, (k : Int) < m ∧ p ∈ qtF m s k) ∨ ∃ q k : Nat, (q : Int) < s ∧ (k : Int) < m ∧ p ∈ rowFl m s q k (rowAt rows m q k) := fun p hp => by
    unfold prF at hp
    rcases List.mem_append.mp hp with hp | hp
    · obtain ⟨l, hl, hp⟩ := List.mem_flatten.mp hp
      obtain ⟨k, hk, rfl⟩ := List.mem_map.mp hl
      have := List.mem_range.mp hk
      exact .inl ⟨k, by omega, hp⟩
    · obtain ⟨l, hl, hp⟩ := List.mem_flatten.mp hp
      obtain ⟨q, hq, rfl⟩ := List.mem_map.mp hl
      unfold rowsFl at hp
      obtain ⟨l, hl, hp⟩ := List.mem_flatten.mp hp
      obtain ⟨k, hk, rfl⟩ := List.mem_map.mp hl
      have := List.mem_range.mp hk
      have := List.mem_range.mp hq
      exact .inr ⟨q, k, by omega, by omega, hp⟩
  have nd : ∀ (P : T3 × T3 → T3) (B : T3 → Int × Int), (∀ k : Nat, (k : Int) < m → ((qtF m s k).map P).Nodup) → (∀ q k : Nat, (q : Int) < s → (k : Int) < m → ((rowFl m s q k (rowAt rows m q k)).map P).Nodup) →
      (∀ k : Nat, (k : Int) < m → ∀ p ∈ qtF m s k, B (P p) = (0, (k : Int))) → (∀ q k : Nat, (q : Int) < s → (k : Int) < m → ∀ p ∈ rowFl m s q k (rowAt rows m q k), B (P p) = (1, memI m q k)) → ((prF m s rows).map P).Nodup := fun P B g1 g2 g3 g4 => by
    unfold prF
    rw [List.map_append, List.nodup_append]
    refine ⟨?_, ?_, fun x hx y hy e => ?_⟩
    · rw [List.map_flatten, List.map_map]
      refine nodup_flat (f := List.map P ∘ qtF m s) (fun k hk => g1 k (by have := List.mem_range.mp hk; omega)) ?_
      refine List.Pairwise.imp_of_mem (fun {a b} ha hb hab x hx y hy e => ?_) (rng_pw _)
      have := List.mem_range.mp ha
      have := List.mem_range.mp hb
      obtain ⟨p, hp, rfl⟩ := List.mem_map.mp hx
      obtain ⟨p', hp', rfl⟩ := List.mem_map.mp hy
      have e1 := g3 a (by omega) p hp
      have e2 := g3 b (by omega) p' hp'
      rw [e, e2] at e1
      injection e1 with _ e1
      omega
    · rw [List.map_flatten, List.map_map]
      refine nodup_flat (f := List.map P ∘ rowsFl m s rows) (fun q hq => ?_) ?_
      · have := List.mem_range.mp hq
        show ((rowsFl m s rows q).map P).Nodup
        unfold rowsFl
        rw [List.map_flatten, List.map_map]
        refine nodup_flat (f := List.map P ∘ fun (k : Nat) => rowFl m s q k (rowAt rows m q k)) (fun k hk => g2 q k (by omega) (by have := List.mem_range.mp hk; omega)) ?_
        refine List.Pairwise.imp_of_mem (fun {a b} ha hb hab x hx y hy e => ?_) (rng_pw _)
        have := List.mem_range.mp ha
        have := List.mem_range.mp hb
        obtain ⟨p, hp, rfl⟩ := List.mem_map.mp hx
        obtain ⟨p', hp', rfl⟩ := List.mem_map.mp hy
        have e1 := g4 q a (by omega) (by omega) p hp
        have e2 := g4 q b (by omega) (by omega) p' hp'
        rw [e, e2] at e1
        injection e1 with _ e1
        have := (mem_inj (m := m) ⟨by omega, by omega⟩ ⟨by omega, by omega⟩ e1).2
        omega
      · refine List.Pairwise.imp_of_mem (fun {a b} ha hb hab x hx y hy e => ?_) (rng_pw _)
        have := List.mem_range.mp ha
        have := List.mem_range.mp hb
        obtain ⟨p, hp, rfl⟩ := List.mem_map.mp hx
        obtain ⟨p', hp', rfl⟩ := List.mem_map.mp hy
        unfold rowsFl at hp hp'
        obtain ⟨l, hl, hp⟩ := List.mem_flatten.mp hp
        obtain ⟨k, hk, rfl⟩ := List.mem_map.mp hl
        obtain ⟨l, hl, hp'⟩ := List.mem_flatten.mp hp'
        obtain ⟨k', hk', rfl⟩ := List.mem_map.mp hl
        have := List.mem_range.mp hk
        have := List.mem_range.mp hk'
        have e1 := g4 a k (by omega) (by omega) p hp
        have e2 := g4 b k' (by omega) (by omega) p' hp'
        rw [e, e2] at e1
        injection e1 with _ e1
        have := (mem_inj (m := m) ⟨by omega, by omega⟩ ⟨by omega, by omega⟩ e1).1
        omega
    · obtain ⟨p, hp, rfl⟩ := List.mem_map.mp hx
      obtain ⟨p', hp', rfl⟩ := List.mem_map.mp hy
      obtain ⟨l, hl, hp⟩ := List.mem_flatten.mp hp
      obtain ⟨k, hk, rfl⟩ := List.mem_map.mp hl
      obtain ⟨l, hl, hp'⟩ := List.mem_flatten.mp hp'
      obtain ⟨q, hq, rfl⟩ := List.mem_map.mp hl
      unfold rowsFl at hp'
      obtain ⟨l, hl, hp'⟩ := List.mem_flatten.mp hp'
      obtain ⟨k', hk', rfl⟩ := List.mem_map.mp hl
      have := List.mem_range.mp hk
      have := List.mem_range.mp hk'
      have := List.mem_range.mp hq
      have e1 := g3 k (by omega) p hp
      have e2 := g4 q k' (by omega) (by omega) p' hp'
      rw [e, e2] at e1
      injection e1 with e1
      omega
  have nn : ∀ n : Nat, (0 : Int) ≤ (n : Int) := fun n => by omega
  refine ⟨fun p hp => ?_, nd (·.1) (kBlk m (s * m + 1)) (fun k hk => (qt_nd hm hs hk).1) (fun q k hq hk => (row_nd hm hs ⟨nn q, hq⟩ ⟨nn k, hk⟩ (row_ok hM q k)).1) (fun k hk p hp => (qt_blk hm hs hk hp).1) (fun q k hq hk p hp => (row_blk hm hs ⟨nn q, hq⟩ ⟨nn k, hk⟩ (row_ok hM q k) hp).1),
    nd (·.2) (vBlk m (s * m + 1)) (fun k hk => (qt_nd hm hs hk).2) (fun q k hq hk => (row_nd hm hs ⟨nn q, hq⟩ ⟨nn k, hk⟩ (row_ok hM q k)).2) (fun k hk p hp => (qt_blk hm hs hk hp).2) (fun q k hq hk p hp => (row_blk hm hs ⟨nn q, hq⟩ ⟨nn k, hk⟩ (row_ok hM q k) hp).2), ?_⟩
  · unfold inZ Sz.rev
    dsimp only
    rw [z1, z2, z3]
    rcases cases_ p hp with ⟨k, hk, hp⟩ | ⟨q, k, hq, hk, hp⟩
    · rcases qt_mem hp with rfl | ⟨j, hj, rfl⟩ | ⟨q, hq, rfl⟩
      · unfold tri; dsimp only; omega
      · dsimp only; omega
      · have g1 := hd_ge (m := m) (s := q) (k := k) (by omega) hq.1 (nn k)
        have g2 := hd_lt (m := m) (s := q) (k := k) hq.2 hk (by omega)
        unfold tri; dsimp only; omega
    · have hq' : 0 ≤ (q : Int) ∧ (q : Int) < s := ⟨nn q, hq⟩
      have hk' : 0 ≤ (k : Int) ∧ (k : Int) < m := ⟨nn k, hk⟩
      have g1 := hd_ge (m := m) (s := q) (k := k) (by omega) hq'.1 hk'.1
      have g2 := hd_lt (m := m) (s := q) (k := k) hq'.2 hk (by omega)
      have hb := mem_b hm hq' hk'
      obtain ⟨w, t, hw, ht, h⟩ := row_mem (row_ok hM q k) hp
      have hl := let_b hm hq' hk' ht
      rcases h with rfl | rfl | ⟨j, hj, rfl⟩
      · unfold tri; dsimp only; omega
      · unfold tri; dsimp only; omega
      · have g3 := hd_ge (m := m) (s := t) (k := j) (by omega) ht.1 hj.1
        have g4 := hd_lt (m := m) (s := t) (k := j) ht.2 hj.2 (by omega)
        dsimp only; omega
  · unfold prF
    refine List.mem_append_left _ (List.mem_flatten.mpr ⟨_, List.mem_map.mpr ⟨0, List.mem_range.mpr (by omega), rfl⟩, ?_⟩)
    unfold qtF
    exact List.mem_cons_self
end My
set_option Elab.async false
set_option linter.all false
set_option maxRecDepth 100000
namespace My
open PySem PL TM PD
local macro_rules | `(tactic| walk_at "hd") => `(tactic| repeat (first | (with_reducible refine w_cons ?_) | ((with_reducible refine' w_var ?_ ?_); rotate_left; exact rfl) | (with_reducible refine w_seq ?_) | (with_reducible refine w_C ?_) | (with_reducible refine w_nil ?_) | (with_reducible refine w_bin ?_) | (with_reducible refine w_tup ?_) | ((with_reducible refine' w_pset ?_ ?_); rotate_left; (intro x; first | with_reducible exact set_h0 | with_reducible exact set_h1 | with_reducible exact set_h2 | with_reducible exact set_h3 | with_reducible exact set_h4 | with_reducible exact set_h5 | with_reducible exact set_h6 | with_reducible exact set_h7 | with_reducible exact set_h8 | with_reducible exact set_h9 | with_reducible exact set_h10 | with_reducible exact set_h11 | with_reducible exact set_h12 | with_reducible exact set_h13 | with_reducible exact set_h14 | with_reducible exact set_h15 | with_reducible exact set_h16 | with_reducible exact set_h17 | with_reducible exact set_h18 | with_reducible exact set_h19 | with_reducible exact set_h20 | with_reducible exact set_h21 | with_reducible exact set_h22 | with_reducible exact set_h23 | with_reducible exact set_h24 | with_reducible exact set_h25)) | (with_reducible refine w_add ?_) | (with_reducible refine w_test ?_) | (with_reducible refine w_kB ?_) | (with_reducible refine w_call ?_) | (with_reducible refine w_ifs ?_) | (with_reducible refine w_next ?_) | ((with_reducible refine' w_gname ?_ ?_); rotate_left; (first | with_reducible exact set_h0 | with_reducible exact set_h1 | with_reducible exact set_h2 | with_reducible exact set_h3 | with_reducible exact set_h4 | with_reducible exact set_h5 | with_reducible exact set_h6 | with_reducible exact set_h7 | with_reducible exact set_h8 | with_reducible exact set_h9 | with_reducible exact set_h10 | with_reducible exact set_h11 | with_reducible exact set_h12 | with_reducible exact set_h13 | with_reducible exact set_h14 | with_reducible exact set_h15 | with_reducible exact set_h16 | with_reducible exact set_h17 | with_reducible exact set_h18 | with_reducible exact set_h19 | with_reducible exact set_h20 | with_reducible exact set_h21 | with_reducible exact set_h22 | with_reducible exact set_h23 | with_reducible exact set_h24 | with_reducible exact set_h25)) | (with_reducible refine w_ret ?_) | (with_reducible refine w_fld ?_) | (with_reducible refine w_ifd ?_) | ((with_reducible refine' w_fldO ?_ ?_); rotate_left; exact rfl) | (with_reducible refine w_gcons ?_) | (with_reducible refine w_callB ?_) | (with_reducible refine w_on1 ?_) | ((with_reducible refine w_mod ?_ ?_); (first | decide | omega)) | (with_reducible refine w_int ?_) | (with_reducible refine w_drop ?_) | (with_reducible refine w_for ?_) | (with_reducible refine w_I0 ?_) | (with_reducible refine w_ifF ?_) | (with_reducible refine w_part ?_) | (with_reducible refine w_partI ?_) | (with_reducible refine w_sl ?_) | (with_reducible refine w_nop ?_) | (with_reducible refine w_ifT ?_) | (with_reducible refine w_R1 ?_) | ((with_reducible refine w_R1I ?_ ?_); (first | decide | omega)) | (with_reducible refine w_gnil ?_) | (with_reducible refine w_ixtup0 ?_) | (with_reducible refine w_ifn ?_) | (with_reducible refine w_asg ?_) | ((with_reducible refine w_gtup ?_ ?_); exact rfl) | (with_reducible refine w_eqInt ?_) | (with_reducible refine w_ixtup1 ?_) | (with_reducible refine w_or ?_) | (with_reducible refine w_not ?_) | (with_reducible refine w_in_non ?_) | (with_reducible refine w_lc ?_) | ((with_reducible refine w_div ?_ ?_); (first | decide | omega)) | (with_reducible refine w_neg ?_) | (with_reducible refine w_negI ?_) | (with_reducible refine w_eqStr ?_) | (with_reducible refine w_slT ?_) | (with_reducible refine w_lentup ?_) | (with_reducible refine w_tupL ?_) | (with_reducible refine w_lstF ?_) | (with_reducible refine w_app ?_) | (with_reducible refine w_tisN ?_) | (with_reducible refine w_meth ?_) | ((with_reducible refine w_objO ?_ ?_); exact rfl) | (with_reducible refine w_lstM ?_) | (with_reducible refine w_ixtup2 ?_) | (with_reducible refine w_retF ?_) | (with_reducible refine w_iL ?_) | (with_reducible refine w_make ?_) | (with_reducible refine w_fldS ?_) | (with_reducible refine w_rg1 ?_) | (with_reducible refine w_dnew ?_) | (with_reducible refine w_piD ?_) | (with_reducible refine w_dctF ?_) | (with_reducible refine w_dc ?_) | (with_reducible refine w_dcF ?_) | (with_reducible refine w_piZ3 ?_) | (with_reducible refine w_piET ?_) | (with_reducible refine w_pIsD ?_) | (with_reducible refine w_dct1 ?_) | (with_reducible refine w_gsubD ?_) | (with_reducible refine w_lst ?_) | (with_reducible refine w_ixtup3 ?_) | (with_reducible refine w_lenlst ?_) | (with_reducible refine w_and ?_) | (with_reducible refine w_in_tup ?_) | ((with_reducible refine' w_aug ?_ ?_ ?_); rotate_left 2; exact rfl; (intro x; first | with_reducible exact set_h0 | with_reducible exact set_h1 | with_reducible exact set_h2 | with_reducible exact set_h3 | with_reducible exact set_h4 | with_reducible exact set_h5 | with_reducible exact set_h6 | with_reducible exact set_h7 | with_reducible exact set_h8 | with_reducible exact set_h9 | with_reducible exact set_h10 | with_reducible exact set_h11 | with_reducible exact set_h12 | with_reducible exact set_h13 | with_reducible exact set_h14 | with_reducible exact set_h15 | with_reducible exact set_h16 | with_reducible exact set_h17 | with_reducible exact set_h18 | with_reducible exact set_h19 | with_reducible exact set_h20 | with_reducible exact set_h21 | with_reducible exact set_h22 | with_reducible exact set_h23 | with_reducible exact set_h24 | with_reducible exact set_h25)) | (with_reducible refine w_lc2 ?_) | (with_reducible refine w_lcT ?_) | (with_reducible refine w_on2 ?_) | (with_reducible refine w_neInt ?_) | (with_reducible refine w_slL ?_) | (with_reducible refine w_tnotN ?_) | (with_reducible refine w_iT ?_) | (with_reducible refine w_tupF ?_) | (with_reducible refine w_par ?_) | ((with_reducible refine' w_kpar ?_ ?_ ?_); rotate_left 2; (first | with_reducible exact set_h0 | with_reducible exact set_h1 | with_reducible exact set_h2 | with_reducible exact set_h3 | with_reducible exact set_h4 | with_reducible exact set_h5 | with_reducible exact set_h6 | with_reducible exact set_h7 | with_reducible exact set_h8 | with_reducible exact set_h9 | with_reducible exact set_h10 | with_reducible exact set_h11 | with_reducible exact set_h12 | with_reducible exact set_h13 | with_reducible exact set_h14 | with_reducible exact set_h15 | with_reducible exact set_h16 | with_reducible exact set_h17 | with_reducible exact set_h18 | with_reducible exact set_h19 | with_reducible exact set_h20 | with_reducible exact set_h21 | with_reducible exact set_h22 | with_reducible exact set_h23 | with_reducible exact set_h24 | with_reducible exact set_h25); (first | with_reducible exact set_h0 | with_reducible exact set_h1 | with_reducible exact set_h2 | with_reducible exact set_h3 | with_reducible exact set_h4 | with_reducible exact set_h5 | with_reducible exact set_h6 | with_reducible exact set_h7 | with_reducible exact set_h8 | with_reducible exact set_h9 | with_reducible exact set_h10 | with_reducible exact set_h11 | with_reducible exact set_h12 | with_reducible exact set_h13 | with_reducible exact set_h14 | with_reducible exact set_h15 | with_reducible exact set_h16 | with_reducible exact set_h17 | with_reducible exact set_h18 | with_reducible exact set_h19 | with_reducible exact set_h20 | with_reducible exact set_h21 | with_reducible exact set_h22 | with_reducible exact set_h23 | with_reducible exact set_h24 | with_reducible exact set_h25)) | (with_reducible refine w_par3 ?_) | ((with_reducible refine' w_kpar3 ?_ ?_ ?_ ?_); rotate_left 3; (first | with_reducible exact set_h0 | with_reducible exact set_h1 | with_reducible exact set_h2 | with_reducible exact set_h3 | with_reducible exact set_h4 | with_reducible exact set_h5 | with_reducible exact set_h6 | with_reducible exact set_h7 | with_reducible exact set_h8 | with_reducible exact set_h9 | with_reducible exact set_h10 | with_reducible exact set_h11 | with_reducible exact set_h12 | with_reducible exact set_h13 | with_reducible exact set_h14 | with_reducible exact set_h15 | with_reducible exact set_h16 | with_reducible exact set_h17 | with_reducible exact set_h18 | with_reducible exact set_h19 | with_reducible exact set_h20 | with_reducible exact set_h21 | with_reducible exact set_h22 | with_reducible exact set_h23 | with_reducible exact set_h24 | with_reducible exact set_h25); (first | with_reducible exact set_h0 | with_reducible exact set_h1 | with_reducible exact set_h2 | with_reducible exact set_h3 | with_reducible exact set_h4 | with_reducible exact set_h5 | with_reducible exact set_h6 | with_reducible exact set_h7 | with_reducible exact set_h8 | with_reducible exact set_h9 | with_reducible exact set_h10 | with_reducible exact set_h11 | with_reducible exact set_h12 | with_reducible exact set_h13 | with_reducible exact set_h14 | with_reducible exact set_h15 | with_reducible exact set_h16 | with_reducible exact set_h17 | with_reducible exact set_h18 | with_reducible exact set_h19 | with_reducible exact set_h20 | with_reducible exact set_h21 | with_reducible exact set_h22 | with_reducible exact set_h23 | with_reducible exact set_h24 | with_reducible exact set_h25); (first | with_reducible exact set_h0 | with_reducible exact set_h1 | with_reducible exact set_h2 | with_reducible exact set_h3 | with_reducible exact set_h4 | with_reducible exact set_h5 | with_reducible exact set_h6 | with_reducible exact set_h7 | with_reducible exact set_h8 | with_reducible exact set_h9 | with_reducible exact set_h10 | with_reducible exact set_h11 | with_reducible exact set_h12 | with_reducible exact set_h13 | with_reducible exact set_h14 | with_reducible exact set_h15 | with_reducible exact set_h16 | with_reducible exact set_h17 | with_reducible exact set_h18 | with_reducible exact set_h19 | with_reducible exact set_h20 | with_reducible exact set_h21 | with_reducible exact set_h22 | with_reducible exact set_h23 | with_reducible exact set_h24 | with_reducible exact set_h25)) | (with_reducible refine w_rg2 ?_) | (with_reducible refine w_asT ?_) | (with_reducible refine w_kTp ?_) | (with_reducible refine w_pdget2 ?_) | (with_reducible refine w_zT ?_) | (with_reducible refine w_dct ?_) | (with_reducible refine w_listL ?_) | (with_reducible refine w_andV ?_) | (with_reducible refine w_isN ?_) | (with_reducible refine w_cnt ?_) | (with_reducible refine w_retD ?_) | ((with_reducible refine' w_isi_i ?_ ?_); rotate_left; (first | with_reducible exact kit_ib | with_reducible exact kit_ii | with_reducible exact kit_it | with_reducible exact kit_il | with_reducible exact kit_is)) | ((with_reducible refine' w_isi_t ?_ ?_); rotate_left; (first | with_reducible exact kit_tb | with_reducible exact kit_ti | with_reducible exact kit_tt | with_reducible exact kit_tl | with_reducible exact kit_ts)) | (with_reducible refine w_lc2M ?_) | (with_reducible refine w_lcM ?_) | (with_reducible refine w_catN ?_) | (with_reducible refine w_tcnt ?_) | (with_reducible refine w_kTCnt ?_) | (with_reducible refine w_catR ?_) | (with_reducible refine w_tidx ?_) | (with_reducible refine w_pdget1 ?_) | (with_reducible refine w_rv ?_) | (with_reducible refine w_z ?_) | (with_reducible refine w_gsub ?_) | (with_reducible refine w_ixlst0 ?_) | (with_reducible refine w_ixlst1 ?_) | (with_reducible refine w_slS ?_) | (with_reducible refine w_abs ?_) | (with_reducible refine w_listML ?_) | (with_reducible refine w_notB ?_) | (with_reducible refine w_brk ?_) | (with_reducible refine w_fzE ?_) | ((with_reducible refine' w_isi_l ?_ ?_); rotate_left; (first | with_reducible exact kit_lb | with_reducible exact kit_li | with_reducible exact kit_lt | with_reducible exact kit_ll | with_reducible exact kit_ls)) | (with_reducible refine w_join ?_) | (with_reducible refine w_kStr ?_) | (with_reducible refine w_zL ?_) | (with_reducible refine w_tupRg ?_) | ((with_reducible refine w_shr ?_ ?_); (first | decide | omega)) | (with_reducible refine w_retN ?_) | (with_reducible refine w_dnx ?_) | (with_reducible refine w_drt ?_) | (with_reducible refine w_dbk ?_) | (with_reducible refine w_eqBl ?_) | (with_reducible refine w_neBl ?_) | (with_reducible refine w_neStr ?_) | (with_reducible refine w_ixlst2 ?_) | (with_reducible refine w_ixlst3 ?_) | (with_reducible refine w_ixtup4 ?_) | (with_reducible refine w_ixlst4 ?_) | (with_reducible refine w_ixtup5 ?_) | (with_reducible refine w_ixlst5 ?_) | (with_reducible refine w_need ?_) | (with_reducible refine w_lenscr ?_) | (with_reducible refine w_listT ?_) | (with_reducible refine w_listS ?_) | (with_reducible refine w_tupT ?_) | (with_reducible refine w_listMT ?_) | (with_reducible refine w_orV ?_) | (with_reducible refine w_notV ?_) | (with_reducible refine w_if ?_) | (with_reducible refine w_notN ?_) | (with_reducible refine w_in_int ?_) | (with_reducible refine w_in_lst ?_) | (with_reducible refine w_in_ptr ?_) | (with_reducible refine w_in_str ?_) | (with_reducible refine w_in_bl ?_) | (with_reducible refine w_isB ?_) | (with_reducible refine w_lstFs ?_) | (with_reducible refine w_R2 ?_) | (with_reducible refine w_forM ?_) | (with_reducible refine w_lcnil ?_) | (with_reducible refine w_lccons ?_) | (with_reducible refine w_retFD ?_) | (with_reducible refine w_raise ?_) | (with_reducible refine w_raiseF ?_) | (with_reducible refine w_tryF ?_) | (with_reducible refine w_isFp ?_) | (with_reducible refine w_isFx ?_) | ((with_reducible refine' w_xf ?_ ?_); rotate_left; exact rfl) | (with_reducible refine w_try ?_) | (with_reducible refine w_lstRg ?_) | (with_reducible refine w_pop ?_) | (with_reducible refine w_rev ?_) | (with_reducible refine w_revL ?_) | (with_reducible refine w_forE ?_) | ((with_reducible refine' w_isi_b ?_ ?_); rotate_left; (first | with_reducible exact kit_bb | with_reducible exact kit_bi | with_reducible exact kit_bt | with_reducible exact kit_bl | with_reducible exact kit_bs)) | ((with_reducible refine' w_isi_s ?_ ?_); rotate_left; (first | with_reducible exact kit_sb | with_reducible exact kit_si | with_reducible exact kit_st | with_reducible exact kit_sl | with_reducible exact kit_ss)) | ((with_reducible refine' w_isi_n ?_ ?_); rotate_left; (first | with_reducible exact kit_nb | with_reducible exact kit_ni | with_reducible exact kit_nt | with_reducible exact kit_nl | with_reducible exact kit_ns))))
local macro_rules | `(tactic| walk_at "st") => `(tactic| simp only [pstart, List.map_cons, List.map_nil, List.cons_append, List.nil_append, List.length_cons, List.length_nil, List.replicate, Nat.reduceSub, Nat.reduceAdd, Nat.zero_add])
theorem lc_mapF {α : Type} {i : Nat} {te : PTE} {σ : PSt} {M : Mem} {Q : PQ} (h f : α → PV) : ∀ (l : List α) (acc : List PV), (∀ a ∈ l, ∀ R : PQ, R (f a) M → te noX (σ.set i (some (h a))) M R) → Q (.lst (acc ++ l.map f)) M → pLcL i pYes te (l.map h) acc σ M Q
  | [], acc, _, q => by
    rw [List.map_nil, List.append_nil] at q
    exact q
  | a :: l, acc, he, q => by
    refine w_lccons (he a List.mem_cons_self _ (lc_mapF h f l (acc ++ [f a]) (fun b hb => he b (List.mem_cons_of_mem _ hb)) ?_))
    rw [List.append_assoc]
    exact q
theorem k_is_sizes (Γ : Ctx) : Keeps (t_is_sizes Γ) 1 1 (sp_is_sizes Γ) := by
  rintro xs M Q E hl ⟨a, b, c, rfl, ha, hb, hc, q⟩
  have m1 : 1 * 1 ≤ a * b := Int.mul_le_mul (by omega) (by omega) (by omega) (by omega)
  walk_at "st"
  unfold t_is_sizes
  walk_at "hd"
  refine ⟨_, _, _, rfl, (fun h => nomatch h), fun ys e => ?_, ?_⟩
  · cases e
    refine ⟨line_lt (show 3 < 10000000 by decide), fun y hy => ?_⟩
    simp only [List.mem_cons, List.not_mem_nil, or_false] at hy
    rcases hy with rfl | rfl | rfl <;> exact fun h => nomatch h
  have ea : areNum 1 40000 (.tup [.int a, .int b, .int c]) = ((decide (1 ≤ a) && decide (a ≤ 40000)) && ((decide (1 ≤ b) && decide (b ≤ 40000)) && ((decide (1 ≤ c) && decide (c ≤ 40000)) && true))) := rfl
  have et : areNum 1 40000 (.tup [.int a, .int b, .int c]) = decide (b ≤ 40000) := by
    rw [ea, decide_eq_true ha.1, decide_eq_true hb.1, decide_eq_true hc.1, decide_eq_true (show a ≤ 40000 by omega), decide_eq_true (show c ≤ 40000 by omega)]
    cases decide (b ≤ 40000) <;> rfl
  rw [et]
  by_cases hB : b ≤ 40000
  · rw [decide_eq_true hB]
    walk_at "hd"
    rw [if_pos (show ((([PV.int a, PV.int b, PV.int c] : List PV).length : Nat) : Int) = 3 from rfl)]
    walk_at "hd"
    refine ⟨.inl ⟨by omega, by omega⟩, ?_⟩
    walk_at "hd"
    dsimp only
    refine ⟨.inr ⟨by omega, by omega⟩, ?_⟩
    walk_at "hd"
    exact q
  · rw [decide_eq_false hB]
    walk_at "hd"
    have h1 : 1 * b ≤ a * b := Int.mul_le_mul_of_nonneg_right (by omega) (by omega)
    have h2 : a * b * 1 ≤ a * b * c := Int.mul_le_mul_of_nonneg_left (by omega) (by omega)
    rw [decide_eq_false (by omega)] at q
    exact q
theorem k_headed (Γ : Ctx) : Keeps (t_headed Γ) 3 3 (sp_headed Γ) := by
  rintro xs M Q E hl ⟨m, s, k, rfl, hm, q⟩
  walk_at "st"
  unfold t_headed
  walk_at "hd"
  refine ⟨.inl ⟨by omega, by omega⟩, ?_⟩
  walk_at "hd"
  exact q
theorem k_trimmed (Γ : Ctx) : Keeps (t_trimmed Γ) 1 2 (sp_trimmed Γ) := by
  rintro xs M Q E hl ⟨ns, rfl, hn, q⟩
  walk_at "st"
  unfold t_trimmed lI
  walk_at "hd"
  rw [List.length_map]
  refine while_in (fun k σ M' => M' = M ∧ σ = [some (.lst (ns.map .int)), some (.int (k : Int))] ∧ k ≤ ns.length ∧ trimL (ns.take k) = trimL ns) (m := ns.length) ⟨rfl, rfl, Nat.le_refl _, by rw [List.take_length]⟩ ?_
  rintro k σ M' K ⟨rfl, rfl, hk, ht⟩ hK
  have fin : ∀ k : Nat, ns.take k = trimL ns → Q (.tup (cutA (ns.map PV.int) none (some (k : Int)))) M' := fun k e => by
    rw [cutA_to _ (by omega), Int.toNat_natCast, ← List.map_take, e]
    exact q
  unfold c_trimmed_1
  walk_at "hd"
  cases k with
  | zero =>
    rw [if_neg (show ¬ (0 : Int) < ((0 : Nat) : Int) by decide)]
    walk_at "hd"
    exact fin 0 (by rw [← ht]; rfl)
  | succ k =>
    rw [if_pos (show (0 : Int) < ((k + 1 : Nat) : Int) by omega)]
    walk_at "hd"
    refine w_ixL (at_Ik (n := k) (by omega) (by omega)) ?_
    walk_at "hd"
    have e1 : ns.take (k + 1) = ns.take k ++ [ns[k]] := by rw [List.take_succ, List.getElem?_eq_getElem (by omega)]; rfl
    by_cases hz : ns[k] = 0
    · rw [if_pos hz]
      unfold b_trimmed_1
      walk_at "hd"
      rw [show ((k + 1 : Nat) : Int) - 1 = (k : Nat) by omega]
      exact hK _ _ _ (Nat.lt_succ_self k) ⟨rfl, rfl, by omega, by rw [← ht, e1, hz, trimL_snoc0]⟩
    · rw [if_neg hz]
      walk_at "hd"
      exact fin (k + 1) (by rw [← ht, e1, trimL_snoc _ hz])
theorem enum_rng (L : List T3) : enumF 0 (L.map tP) = (List.range L.length).map fun (i : Nat) => PV.tup [.int (i : Int), tP ((L[i]?).getD q0)] := by
  refine List.ext_getElem (by rw [enumF_len, List.length_map, List.length_map, List.length_range]) fun i h1 h2 => ?_
  have hi : i < L.length := by rw [enumF_len, List.length_map] at h1; exact h1
  have e := enumF_at (k := 0) (xs := L.map tP) (i := i) (x := tP L[i]) (by rw [List.getElem?_map, List.getElem?_eq_getElem hi]; rfl)
  rw [List.getElem?_eq_getElem h1] at e
  rw [Option.some.inj e, List.getElem_map, List.getElem_range, Nat.zero_add, List.getElem?_eq_getElem hi]
  rfl
theorem k_head_place (Γ : Ctx) : Keeps (t_head_place Γ) 2 5 (sp_head_place Γ) := by
  rintro xs M Q E hl ⟨m, L, rfl, hn, q⟩
  walk_at "st"
  unfold t_head_place lP
  walk_at "hd"
  rw [enum_rng]
  refine ⟨line_lt (by rw [List.length_map, List.length_range]; omega), lcTf_map (fun (i : Nat) => [.int (i : Int), tP ((L[i]?).getD q0)]) (fun i => decide (m ≤ ((L[i]?).getD q0).2.1)) (fun (i : Nat) => PV.int (i : Int)) _ [] (fun i hi => ⟨_, rfl, fun R hR => ?_, fun _ R hR => ?_⟩) ?_⟩
  · unfold tP
    walk_at "hd"
    exact hR
  · walk_at "hd"
    exact hR
  rw [List.nil_append]
  rw [show ((List.range L.length).filter fun i => decide (m ≤ ((L[i]?).getD q0).2.1)) = hdsL m L from rfl]
  walk_at "hd"
  rw [List.length_map]
  unfold hdPl at q
  rcases hd : hdsL m L with _ | ⟨a, _ | ⟨b, r⟩⟩
  · rw [hd] at q
    rw [if_neg (by simp)]
    walk_at "hd"
    exact q
  · rw [hd] at q
    rw [if_pos (by simp)]
    walk_at "hd"
    exact q
  · rw [hd] at q
    rw [if_neg (by simp only [List.length_cons]; omega)]
    walk_at "hd"
    exact q
theorem k_tape_at (Γ : Ctx) : Keeps (t_tape_at Γ) 3 7 (sp_tape_at Γ) := by
  rintro xs M Q E hl ⟨m, L, i, rfl, hm, hi, hn, q⟩
  walk_at "st"
  unfold t_tape_at lP
  walk_at "hd"
  refine ⟨line_lt (by rw [List.length_map]; omega), lc_mapF tP (fun t => .int t.2.1) L [] (fun t ht R hR => ?_) ?_⟩
  · unfold tP
    walk_at "hd"
    exact hR
  rw [List.nil_append, show (L.map fun t : T3 => PV.int t.2.1) = (mdL L).map PV.int by unfold mdL; rw [List.map_map]; rfl]
  have hl2 : (mdL L).length = L.length := List.length_map _
  have ei : (mdL L)[i]? = some ((((mdL L)[i]?).getD 0)) := by rw [List.getElem?_eq_getElem (by omega)]; rfl
  have eo : (((mdL L)[i]?).getD 0) = (mdL L)[i]'(by omega) := by rw [List.getElem?_eq_getElem (by omega)]; rfl
  walk_at "hd"
  refine w_ixL (at_Ik (n := i) rfl (by omega)) ?_
  rw [← eo]
  walk_at "hd"
  refine ⟨by rw [cdiv_eq]; omega, ?_⟩
  walk_at "hd"
  rw [cutA_to _ (by omega), Int.toNat_natCast, ← List.map_take, ← List.map_reverse]
  refine ⟨((mdL L).take i).reverse, rfl, by rw [List.length_reverse, List.length_take]; omega, ?_⟩
  walk_at "hd"
  rw [cutA_from _ (by omega), show ((i : Int) + 1).toNat = i + 1 by omega, ← List.map_drop]
  refine ⟨(mdL L).drop (i + 1), rfl, by rw [List.length_drop]; omega, ?_⟩
  walk_at "hd"
  exact q
theorem w_pFzL {i : Nat} {t : PTS} {D : PEnds} {σ : PSt} {f : PV → PSt} {M : Mem} {p : Addr} {xs : List PV} (e : σ[i]? = some (some (.ptr p))) (g : ∀ y, σ.set i (some y) = f y) (m : M p = some (.lst xs)) (h : t D (f (.lst xs)) (M.drop p)) : pFz i t D σ M := by
  unfold pFz
  rw [e]
  dsimp only
  refine w_fzP m ?_
  rw [g]
  exact h
theorem w_anyB {α : Type} {xs : List α} {f : α → Bool} {M : Mem} {Q : PQ} (h : Q (.bl (xs.any f)) M) : kAny (.lst (xs.map fun x => PV.bl (f x))) M Q := by
  refine need_by (show lstOf M (.lst (xs.map fun x => PV.bl (f x))) = some (xs.map fun x => PV.bl (f x)) from rfl) (need_by (a := xs.map f) ?_ ?_)
  · rw [show (xs.map fun x => PV.bl (f x)) = (xs.map f).map PV.bl by rw [List.map_map]; rfl, bls_map]
  · rw [List.any_map]
    exact h
theorem hp_lt {m : Int} {L : List T3} {i : Nat} (h : hdPl m L = some i) : i < L.length := by
  unfold hdPl at h
  split at h
  · rename_i e
    cases h
    have : i ∈ hdsL m L := by rw [e]; exact List.mem_singleton.mpr rfl
    unfold hdsL at this
    exact List.mem_range.mp (List.mem_filter.mp this).1
  · cases h
theorem w_appZ {p : Addr} {xs : List PV} {x : PV} {M : Mem} {Q : PQ} (hl : xs.length < 1000000) (h : Q .non (M.put p (.lst (xs ++ [x])))) : kApp (.ptr p) x (M.put p (.lst xs)) Q := by
  rw [app_ptr put_same (line_lt' (by omega)), put_put]
  exact h
theorem w_intBi {b : Bool} {i : Int} {M : Mem} {Q : PQ} (e : (if b = true then (1 : Int) else 0) = i) (h : Q (.int i) M) : kInt (.bl b) M Q := by
  subst e
  exact h
theorem sd_tI {n : Nat} {xs : List Int} : SelfD (n + 1) (tI xs) := SelfD.ints
end My
set_option Elab.async false
set_option linter.all false
set_option maxRecDepth 100000
namespace My
open PySem PL TM PD
local macro_rules | `(tactic| walk_at "hd") => `(tactic| repeat (first | (with_reducible refine w_cons ?_) | ((with_reducible refine' w_var ?_ ?_); rotate_left; exact rfl) | (with_reducible refine w_seq ?_) | (with_reducible refine w_C ?_) | (with_reducible refine w_nil ?_) | (with_reducible refine w_bin ?_) | (with_reducible refine w_tup ?_) | ((with_reducible refine' w_pset ?_ ?_); rotate_left; (intro x; first | with_reducible exact set_h0 | with_reducible exact set_h1 | with_reducible exact set_h2 | with_reducible exact set_h3 | with_reducible exact set_h4 | with_reducible exact set_h5 | with_reducible exact set_h6 | with_reducible exact set_h7 | with_reducible exact set_h8 | with_reducible exact set_h9 | with_reducible exact set_h10 | with_reducible exact set_h11 | with_reducible exact set_h12 | with_reducible exact set_h13 | with_reducible exact set_h14 | with_reducible exact set_h15 | with_reducible exact set_h16 | with_reducible exact set_h17 | with_reducible exact set_h18 | with_reducible exact set_h19 | with_reducible exact set_h20 | with_reducible exact set_h21 | with_reducible exact set_h22 | with_reducible exact set_h23 | with_reducible exact set_h24 | with_reducible exact set_h25)) | (with_reducible refine w_add ?_) | (with_reducible refine w_test ?_) | (with_reducible refine w_kB ?_) | (with_reducible refine w_call ?_) | (with_reducible refine w_ifs ?_) | (with_reducible refine w_next ?_) | ((with_reducible refine' w_gname ?_ ?_); rotate_left; (first | with_reducible exact set_h0 | with_reducible exact set_h1 | with_reducible exact set_h2 | with_reducible exact set_h3 | with_reducible exact set_h4 | with_reducible exact set_h5 | with_reducible exact set_h6 | with_reducible exact set_h7 | with_reducible exact set_h8 | with_reducible exact set_h9 | with_reducible exact set_h10 | with_reducible exact set_h11 | with_reducible exact set_h12 | with_reducible exact set_h13 | with_reducible exact set_h14 | with_reducible exact set_h15 | with_reducible exact set_h16 | with_reducible exact set_h17 | with_reducible exact set_h18 | with_reducible exact set_h19 | with_reducible exact set_h20 | with_reducible exact set_h21 | with_reducible exact set_h22 | with_reducible exact set_h23 | with_reducible exact set_h24 | with_reducible exact set_h25)) | (with_reducible refine w_ret ?_) | (with_reducible refine w_fld ?_) | (with_reducible refine w_ifd ?_) | ((with_reducible refine' w_fldO ?_ ?_); rotate_left; exact rfl) | (with_reducible refine w_gcons ?_) | (with_reducible refine w_callB ?_) | (with_reducible refine w_on1 ?_) | ((with_reducible refine w_mod ?_ ?_); (first | decide | omega)) | (with_reducible refine w_int ?_) | (with_reducible refine w_drop ?_) | (with_reducible refine w_for ?_) | (with_reducible refine w_I0 ?_) | (with_reducible refine w_ifF ?_) | (with_reducible refine w_part ?_) | (with_reducible refine w_partI ?_) | (with_reducible refine w_sl ?_) | (with_reducible refine w_nop ?_) | (with_reducible refine w_ifT ?_) | (with_reducible refine w_R1 ?_) | ((with_reducible refine w_R1I ?_ ?_); (first | decide | omega)) | (with_reducible refine w_gnil ?_) | (with_reducible refine w_ixtup0 ?_) | (with_reducible refine w_ifn ?_) | (with_reducible refine w_asg ?_) | ((with_reducible refine w_gtup ?_ ?_); exact rfl) | (with_reducible refine w_eqInt ?_) | (with_reducible refine w_ixtup1 ?_) | (with_reducible refine w_or ?_) | (with_reducible refine w_not ?_) | (with_reducible refine w_in_non ?_) | (with_reducible refine w_lc ?_) | ((with_reducible refine w_div ?_ ?_); (first | decide | omega)) | (with_reducible refine w_neg ?_) | (with_reducible refine w_negI ?_) | (with_reducible refine w_eqStr ?_) | (with_reducible refine w_slT ?_) | (with_reducible refine w_lentup ?_) | (with_reducible refine w_tupL ?_) | (with_reducible refine w_lstF ?_) | (with_reducible refine w_app ?_) | (with_reducible refine w_tisN ?_) | (with_reducible refine w_meth ?_) | ((with_reducible refine w_objO ?_ ?_); exact rfl) | (with_reducible refine w_lstM ?_) | (with_reducible refine w_ixtup2 ?_) | (with_reducible refine w_retF ?_) | (with_reducible refine w_iL ?_) | (with_reducible refine w_make ?_) | (with_reducible refine w_fldS ?_) | (with_reducible refine w_rg1 ?_) | (with_reducible refine w_dnew ?_) | (with_reducible refine w_piD ?_) | (with_reducible refine w_dctF ?_) | (with_reducible refine w_dc ?_) | (with_reducible refine w_dcF ?_) | (with_reducible refine w_piZ3 ?_) | (with_reducible refine w_piET ?_) | (with_reducible refine w_pIsD ?_) | (with_reducible refine w_dct1 ?_) | (with_reducible refine w_gsubD ?_) | (with_reducible refine w_lst ?_) | (with_reducible refine w_ixtup3 ?_) | (with_reducible refine w_lenlst ?_) | (with_reducible refine w_and ?_) | (with_reducible refine w_in_tup ?_) | ((with_reducible refine' w_aug ?_ ?_ ?_); rotate_left 2; exact rfl; (intro x; first | with_reducible exact set_h0 | with_reducible exact set_h1 | with_reducible exact set_h2 | with_reducible exact set_h3 | with_reducible exact set_h4 | with_reducible exact set_h5 | with_reducible exact set_h6 | with_reducible exact set_h7 | with_reducible exact set_h8 | with_reducible exact set_h9 | with_reducible exact set_h10 | with_reducible exact set_h11 | with_reducible exact set_h12 | with_reducible exact set_h13 | with_reducible exact set_h14 | with_reducible exact set_h15 | with_reducible exact set_h16 | with_reducible exact set_h17 | with_reducible exact set_h18 | with_reducible exact set_h19 | with_reducible exact set_h20 | with_reducible exact set_h21 | with_reducible exact set_h22 | with_reducible exact set_h23 | with_reducible exact set_h24 | with_reducible exact set_h25)) | (with_reducible refine w_lc2 ?_) | (with_reducible refine w_lcT ?_) | (with_reducible refine w_on2 ?_) | (with_reducible refine w_neInt ?_) | (with_reducible refine w_slL ?_) | (with_reducible refine w_tnotN ?_) | (with_reducible refine w_iT ?_) | (with_reducible refine w_tupF ?_) | (with_reducible refine w_par ?_) | ((with_reducible refine' w_kpar ?_ ?_ ?_); rotate_left 2; (first | with_reducible exact set_h0 | with_reducible exact set_h1 | with_reducible exact set_h2 | with_reducible exact set_h3 | with_reducible exact set_h4 | with_reducible exact set_h5 | with_reducible exact set_h6 | with_reducible exact set_h7 | with_reducible exact set_h8 | with_reducible exact set_h9 | with_reducible exact set_h10 | with_reducible exact set_h11 | with_reducible exact set_h12 | with_reducible exact set_h13 | with_reducible exact set_h14 | with_reducible exact set_h15 | with_reducible exact set_h16 | with_reducible exact set_h17 | with_reducible exact set_h18 | with_reducible exact set_h19 | with_reducible exact set_h20 | with_reducible exact set_h21 | with_reducible exact set_h22 | with_reducible exact set_h23 | with_reducible exact set_h24 | with_reducible exact set_h25); (first | with_reducible exact set_h0 | with_reducible exact set_h1 | with_reducible exact set_h2 | with_reducible exact set_h3 | with_reducible exact set_h4 | with_reducible exact set_h5 | with_reducible exact set_h6 | with_reducible exact set_h7 | with_reducible exact set_h8 | with_reducible exact set_h9 | with_reducible exact set_h10 | with_reducible exact set_h11 | with_reducible exact set_h12 | with_reducible exact set_h13 | with_reducible exact set_h14 | with_reducible exact set_h15 | with_reducible exact set_h16 | with_reducible exact set_h17 | with_reducible exact set_h18 | with_reducible exact set_h19 | with_reducible exact set_h20 | with_reducible exact set_h21 | with_reducible exact set_h22 | with_reducible exact set_h23 | with_reducible exact set_h24 | with_reducible exact set_h25)) | (with_reducible refine w_par3 ?_) | ((with_reducible refine' w_kpar3 ?_ ?_ ?_ ?_); rotate_left 3; (first | with_reducible exact set_h0 | with_reducible exact set_h1 | with_reducible exact set_h2 | with_reducible exact set_h3 | with_reducible exact set_h4 | with_reducible exact set_h5 | with_reducible exact set_h6 | with_reducible exact set_h7 | with_reducible exact set_h8 | with_reducible exact set_h9 | with_reducible exact set_h10 | with_reducible exact set_h11 | with_reducible exact set_h12 | with_reducible exact set_h13 | with_reducible exact set_h14 | with_reducible exact set_h15 | with_reducible exact set_h16 | with_reducible exact set_h17 | with_reducible exact set_h18 | with_reducible exact set_h19 | with_reducible exact set_h20 | with_reducible exact set_h21 | with_reducible exact set_h22 | with_reducible exact set_h23 | with_reducible exact set_h24 | with_reducible exact set_h25); (first | with_reducible exact set_h0 | with_reducible exact set_h1 | with_reducible exact set_h2 | with_reducible exact set_h3 | with_reducible exact set_h4 | with_reducible exact set_h5 | with_reducible exact set_h6 | with_reducible exact set_h7 | with_reducible exact set_h8 | with_reducible exact set_h9 | with_reducible exact set_h10 | with_reducible exact set_h11 | with_reducible exact set_h12 | with_reducible exact set_h13 | with_reducible exact set_h14 | with_reducible exact set_h15 | with_reducible exact set_h16 | with_reducible exact set_h17 | with_reducible exact set_h18 | with_reducible exact set_h19 | with_reducible exact set_h20 | with_reducible exact set_h21 | with_reducible exact set_h22 | with_reducible exact set_h23 | with_reducible exact set_h24 | with_reducible exact set_h25); (first | with_reducible exact set_h0 | with_reducible exact set_h1 | with_reducible exact set_h2 | with_reducible exact set_h3 | with_reducible exact set_h4 | with_reducible exact set_h5 | with_reducible exact set_h6 | with_reducible exact set_h7 | with_reducible exact set_h8 | with_reducible exact set_h9 | with_reducible exact set_h10 | with_reducible exact set_h11 | with_reducible exact set_h12 | with_reducible exact set_h13 | with_reducible exact set_h14 | with_reducible exact set_h15 | with_reducible exact set_h16 | with_reducible exact set_h17 | with_reducible exact set_h18 | with_reducible exact set_h19 | with_reducible exact set_h20 | with_reducible exact set_h21 | with_reducible exact set_h22 | with_reducible exact set_h23 | with_reducible exact set_h24 | with_reducible exact set_h25)) | (with_reducible refine w_rg2 ?_) | (with_reducible refine w_asT ?_) | (with_reducible refine w_kTp ?_) | (with_reducible refine w_pdget2 ?_) | (with_reducible refine w_zT ?_) | (with_reducible refine w_dct ?_) | (with_reducible refine w_listL ?_) | (with_reducible refine w_andV ?_) | (with_reducible refine w_isN ?_) | (with_reducible refine w_cnt ?_) | (with_reducible refine w_retD ?_) | ((with_reducible refine' w_isi_i ?_ ?_); rotate_left; (first | with_reducible exact kit_ib | with_reducible exact kit_ii | with_reducible exact kit_it | with_reducible exact kit_il | with_reducible exact kit_is)) | ((with_reducible refine' w_isi_t ?_ ?_); rotate_left; (first | with_reducible exact kit_tb | with_reducible exact kit_ti | with_reducible exact kit_tt | with_reducible exact kit_tl | with_reducible exact kit_ts)) | (with_reducible refine w_lc2M ?_) | (with_reducible refine w_lcM ?_) | (with_reducible refine w_catN ?_) | (with_reducible refine w_tcnt ?_) | (with_reducible refine w_kTCnt ?_) | (with_reducible refine w_catR ?_) | (with_reducible refine w_tidx ?_) | (with_reducible refine w_pdget1 ?_) | (with_reducible refine w_rv ?_) | (with_reducible refine w_z ?_) | (with_reducible refine w_gsub ?_) | (with_reducible refine w_ixlst0 ?_) | (with_reducible refine w_ixlst1 ?_) | (with_reducible refine w_slS ?_) | (with_reducible refine w_abs ?_) | (with_reducible refine w_listML ?_) | (with_reducible refine w_notB ?_) | (with_reducible refine w_brk ?_) | (with_reducible refine w_fzE ?_) | ((with_reducible refine' w_isi_l ?_ ?_); rotate_left; (first | with_reducible exact kit_lb | with_reducible exact kit_li | with_reducible exact kit_lt | with_reducible exact kit_ll | with_reducible exact kit_ls)) | (with_reducible refine w_join ?_) | (with_reducible refine w_kStr ?_) | (with_reducible refine w_zL ?_) | (with_reducible refine w_tupRg ?_) | ((with_reducible refine w_shr ?_ ?_); (first | decide | omega)) | (with_reducible refine w_retN ?_) | (with_reducible refine w_dnx ?_) | (with_reducible refine w_drt ?_) | (with_reducible refine w_dbk ?_) | (with_reducible refine w_eqBl ?_) | (with_reducible refine w_neBl ?_) | (with_reducible refine w_neStr ?_) | (with_reducible refine w_ixlst2 ?_) | (with_reducible refine w_ixlst3 ?_) | (with_reducible refine w_ixtup4 ?_) | (with_reducible refine w_ixlst4 ?_) | (with_reducible refine w_ixtup5 ?_) | (with_reducible refine w_ixlst5 ?_) | (with_reducible refine w_need ?_) | (with_reducible refine w_lenscr ?_) | (with_reducible refine w_listT ?_) | (with_reducible refine w_listS ?_) | (with_reducible refine w_tupT ?_) | (with_reducible refine w_listMT ?_) | (with_reducible refine w_orV ?_) | (with_reducible refine w_notV ?_) | (with_reducible refine w_if ?_) | (with_reducible refine w_notN ?_) | (with_reducible refine w_in_int ?_) | (with_reducible refine w_in_lst ?_) | (with_reducible refine w_in_ptr ?_) | (with_reducible refine w_in_str ?_) | (with_reducible refine w_in_bl ?_) | (with_reducible refine w_isB ?_) | (with_reducible refine w_lstFs ?_) | (with_reducible refine w_R2 ?_) | (with_reducible refine w_forM ?_) | (with_reducible refine w_lcnil ?_) | (with_reducible refine w_lccons ?_) | (with_reducible refine w_retFD ?_) | (with_reducible refine w_raise ?_) | (with_reducible refine w_raiseF ?_) | (with_reducible refine w_tryF ?_) | (with_reducible refine w_isFp ?_) | (with_reducible refine w_isFx ?_) | ((with_reducible refine' w_xf ?_ ?_); rotate_left; exact rfl) | (with_reducible refine w_try ?_) | (with_reducible refine w_lstRg ?_) | (with_reducible refine w_pop ?_) | (with_reducible refine w_rev ?_) | (with_reducible refine w_revL ?_) | (with_reducible refine w_forE ?_) | ((with_reducible refine' w_isi_b ?_ ?_); rotate_left; (first | with_reducible exact kit_bb | with_reducible exact kit_bi | with_reducible exact kit_bt | with_reducible exact kit_bl | with_reducible exact kit_bs)) | ((with_reducible refine' w_isi_s ?_ ?_); rotate_left; (first | with_reducible exact kit_sb | with_reducible exact kit_si | with_reducible exact kit_st | with_reducible exact kit_sl | with_reducible exact kit_ss)) | ((with_reducible refine' w_isi_n ?_ ?_); rotate_left; (first | with_reducible exact kit_nb | with_reducible exact kit_ni | with_reducible exact kit_nt | with_reducible exact kit_nl | with_reducible exact kit_ns))))
local macro_rules | `(tactic| walk_at "st") => `(tactic| simp only [pstart, List.map_cons, List.map_nil, List.cons_append, List.nil_append, List.length_cons, List.length_nil, List.replicate, Nat.reduceSub, Nat.reduceAdd, Nat.zero_add])
theorem k_memory_of (Γ : Ctx) : Keeps (t_memory_of Γ) 3 3 (sp_memory_of Γ) := by
  rintro xs M Q E hl ⟨m, q', k, rfl, hm, q⟩
  walk_at "st"
  unfold t_memory_of
  walk_at "hd"
  refine ⟨.inl ⟨by omega, by omega⟩, ?_⟩
  walk_at "hd"
  exact q
theorem k_many_memories (Γ : Ctx) : Keeps (t_many_memories Γ) 1 1 (sp_many_memories Γ) := by
  rintro xs M Q E hl ⟨m, s, rows, rfl, hm, q⟩
  walk_at "st"
  unfold t_many_memories tapeP tapeF
  walk_at "hd"
  refine ⟨.inr ⟨by omega, by omega⟩, ?_⟩
  walk_at "hd"
  exact q
theorem qt_len (m s : Int) (k : Nat) : (qtF m s k).length = 1 + ((s * m).toNat + s.toNat) := by
  unfold qtF
  rw [List.length_cons, List.length_append, List.length_map, List.length_map, List.length_range, List.length_range]
  omega
theorem fl_cons {α β : Type} (f : Nat → List β) (n : Nat) : ((List.range (n + 1)).map f).flatten = ((List.range n).map f).flatten ++ f n := by
  rw [List.range_succ, List.map_append, List.flatten_append]
  simp
theorem fl_le {β : Type} (f : Nat → List β) (c : Nat) (h : ∀ k, (f k).length ≤ c) : ∀ n, (((List.range n).map f).flatten).length ≤ n * c
  | 0 => Nat.zero_le _
  | n + 1 => by
    rw [fl_cons (α := Nat) f n, List.length_append, Nat.succ_mul]
    have := fl_le f c h n
    have := h n
    omega
theorem rowFl_len {m s : Int} (hm : m ≤ 8) (q k : Int) (r : TRow) : (rowFl m s q k r).length ≤ 9 := by
  cases r with
  | none => exact Nat.zero_le _
  | some r =>
    obtain ⟨w, mv, t⟩ := r
    unfold rowFl
    dsimp only
    split
    · show 1 ≤ 9; decide
    · rw [List.length_cons, List.length_map, List.length_range]
      omega
set_option maxHeartbeats 800000 in
theorem k_quiet_changes (Γ : Ctx) : Keeps (t_quiet_changes Γ) 1 6 (sp_quiet_changes Γ) := by
  rintro xs M Q E hl ⟨m, s, rows, rfl, hM, q⟩
  have hm2 := hM.m2; have hm8 := hM.m8; have hs1 := hM.s1; have hs40 := hM.s40
  have hsm : 1 * 2 ≤ s * m := Int.mul_le_mul hs1 hm2 (by omega) (by omega)
  have hsm2 : s * m ≤ 40 * 8 := Int.mul_le_mul hs40 hm8 (by omega) (by omega)
  walk_at "st"
  unfold t_quiet_changes
  rw [show tapeP Γ m s rows = .obj Γ.Tape (tapeF m s rows) from rfl]
  walk_at "hd"
  intro p hp
  walk_at "hd"
  refine for_rng (fun i σ M' => M' = M.put p (.lst ((((List.range i).map (qtF m s)).flatten).map prP)) ∧ ∃ x3 x4 x5, σ = [some (.obj Γ.Tape (tapeF m s rows)), some (.int m), some (.ptr p), x3, x4, x5]) ⟨rfl, _, _, _, rfl⟩ ?_ ?_
  · rintro i σ M' K hi ⟨rfl, x3, x4, x5, rfl⟩ hK
    have hln := fl_le (qtF m s) 400 (fun k => by rw [qt_len]; omega) i
    unfold b_quiet_changes_1
    walk_at "hd"
    rw [Int.zero_add]
    refine ⟨(by rw [lstOf_ptr put_same]; intro z; cases z), ?_⟩
    walk_at "hd"
    refine w_appZ (by rw [List.length_map]; omega) ?_
    walk_at "hd"
    show sp_many_memories Γ [tapeP Γ m s rows] _ _ _
    refine ⟨m, s, rows, rfl, by omega, ?_⟩
    dsimp only
    refine ⟨⟨by omega, by omega⟩, ?_⟩
    rw [show (s * m + 1 - 1).toNat = (s * m).toNat by omega]
    unfold rngP
    refine ⟨line_lt (by rw [List.length_map, List.length_range]; omega), lc_mapF (fun (j : Nat) => PV.int (1 + (j : Int))) (fun (j : Nat) => prP ((0, (i : Int), 1 + (j : Int)), (1 + (j : Int), (i : Int), 0))) _ [] (fun j hj R hR => ?_) ?_⟩
    · walk_at "hd"
      exact hR
    rw [List.nil_append]
    refine w_ext put_same rfl (line_lt (by rw [List.length_append, List.length_map, List.length_map, List.length_range]; show _ + 1 + _ < _; omega)) ?_
    rw [put_put]
    walk_at "hd"
    unfold rngP
    refine ⟨line_lt (by rw [List.length_map, List.length_range]; omega), lc_mapF (fun (j : Nat) => PV.int (0 + (j : Int))) (fun (j : Nat) => prP (((j : Int) + 1, (i : Int), 0), tri (hdI m j i))) _ [] (fun j hj R hR => ?_) ?_⟩
    · walk_at "hd"
      rw [Int.zero_add]
      refine ⟨m, j, i, rfl, by omega, ?_⟩
      walk_at "hd"
      exact hR
    rw [List.nil_append]
    refine w_ext put_same rfl (line_lt (by rw [List.length_append, List.length_append, List.length_map, List.length_map, List.length_range, List.length_map, List.length_range]; show _ + 1 + _ + _ < _; omega)) ?_
    rw [put_put]
    refine hK _ _ ⟨?_, _, _, _, rfl⟩
    rw [fl_cons (α := Nat), List.map_append]
    unfold qtF
    rw [List.map_cons, List.map_append, List.map_map, List.map_map, List.append_assoc, List.append_assoc]
    rfl
  · rintro σ M' ⟨rfl, x3, x4, x5, rfl⟩
    walk_at "hd"
    exact q p hp
theorem k_row_changes (Γ : Ctx) : Keeps (t_row_changes Γ) 3 13 (sp_row_changes Γ) := by
  rintro xs M Q E hl ⟨m, s, rows, q', k, rfl, hM, hq, hk, q⟩
  have hm2 := hM.m2; have hm8 := hM.m8; have hs1 := hM.s1; have hs40 := hM.s40
  walk_at "st"
  unfold t_row_changes
  rw [show tapeP Γ m s rows = .obj Γ.Tape (tapeF m s rows) from rfl]
  walk_at "hd"
  show sp_Tape_row Γ [tapeP Γ m s rows, .int q', .int k] _ _ _
  refine ⟨m, s, rows, q', k, rfl, hM, ⟨by omega, hq⟩, ⟨by omega, hk⟩, ?_⟩
  have ro := row_ok hM q' k
  walk_at "hd"
  cases hr : rowAt rows m q' k with
  | none =>
    rw [hr] at q
    rw [show TM.rowP none = PV.non from rfl]
    walk_at "hd"
    exact q
  | some r =>
    obtain ⟨w, mv, t⟩ := r
    rw [hr] at q ro
    obtain ⟨hw, hmv, ht⟩ := ro
    rw [show TM.rowP (some (w, mv, t)) = PV.tup [.int w, .int mv, .int t] from rfl]
    walk_at "hd"
    refine ⟨m, q', k, rfl, by omega, ?_⟩
    walk_at "hd"
    refine ⟨m, q', k, rfl, by omega, ?_⟩
    walk_at "hd"
    unfold rowFl at q
    dsimp only at q
    by_cases h1 : mv = 1
    · rw [if_pos h1] at q ⊢
      walk_at "hd"
      exact q
    · rw [if_neg h1] at q ⊢
      walk_at "hd"
      show sp_many_memories Γ [tapeP Γ m s rows] _ _ _
      have hsm : 1 * 2 ≤ s * m := Int.mul_le_mul hs1 hm2 (by omega) (by omega)
      have hsm2 : s * m ≤ 40 * 8 := Int.mul_le_mul hs40 hm8 (by omega) (by omega)
      refine ⟨m, s, rows, rfl, by omega, ?_⟩
      walk_at "hd"
      refine ⟨.inl ⟨by omega, by omega⟩, ?_⟩
      walk_at "hd"
      intro p hp
      walk_at "hd"
      unfold rngP
      refine ⟨line_lt (by rw [List.length_map, List.length_range]; omega), lc_mapF (fun (j : Nat) => PV.int (0 + (j : Int))) (fun (j : Nat) => prP ((0, (j : Int), (t + 1) * (s * m + 1) + memI m q' k), (memI m q' k, hdI m t j, 0))) _ [] (fun j hj R hR => ?_) ?_⟩
      · walk_at "hd"
        rw [Int.zero_add]
        refine ⟨m, t, j, rfl, by omega, ?_⟩
        walk_at "hd"
        exact hR
      rw [List.nil_append]
      refine w_ext put_same rfl (line_lt (by rw [List.length_map, List.length_range]; show 1 + _ < _; omega)) ?_
      rw [put_put]
      walk_at "hd"
      refine w_fzP put_same ?_
      rw [put_drop hp]
      rw [List.map_cons, List.map_map] at q
      exact q
theorem k_line_changes (Γ : Ctx) : Keeps (t_line_changes Γ) 1 6 (sp_line_changes Γ) := by
  rintro xs M Q E hl ⟨m, s, rows, rfl, hM, nd, q⟩
  have hm2 := hM.m2; have hm8 := hM.m8; have hs1 := hM.s1; have hs40 := hM.s40
  walk_at "st"
  unfold t_line_changes
  walk_at "hd"
  refine ⟨m, s, rows, rfl, hM, fun p hp => ?_⟩
  rw [show tapeP Γ m s rows = .obj Γ.Tape (tapeF m s rows) from rfl]
  walk_at "hd"
  have hsm2 : s * m ≤ 40 * 8 := Int.mul_le_mul hs40 hm8 (by omega) (by omega)
  have hlq : (((List.range m.toNat).map (qtF m s)).flatten).length ≤ 4000 := by
    have := fl_le (qtF m s) 400 (fun k => by rw [qt_len]; omega) m.toNat
    have h2 : m.toNat * 400 ≤ 8 * 400 := Nat.mul_le_mul_right _ (by omega)
    omega
  have hlr : ∀ q n, (((List.range n).map fun (k : Nat) => rowFl m s q k (rowAt rows m q k)).flatten).length ≤ n * 9 := fun q n => fl_le _ 9 (fun k => rowFl_len hm8 q k _) n
  have hls : ∀ n, n ≤ 40 → (((List.range n).map (rowsFl m s rows)).flatten).length ≤ 2880 := fun n hn => by
    have := fl_le (rowsFl m s rows) 72 (fun q => by
      have := hlr q m.toNat
      have h2 : m.toNat * 9 ≤ 8 * 9 := Nat.mul_le_mul_right _ (by omega)
      unfold rowsFl
      omega) n
    have h2 : n * 72 ≤ 40 * 72 := Nat.mul_le_mul_right _ hn
    omega
  have e0 : ∀ X : List PV, X ++ ([] : Tb).map prP = X := fun X => by rw [List.map_nil, List.append_nil]
  refine for_rng (fun i σ M' => M' = M.put p (.lst ((((List.range m.toNat).map (qtF m s)).flatten).map prP ++ (((List.range i).map (rowsFl m s rows)).flatten).map prP)) ∧ ∃ x2 x3, σ = [some (.obj Γ.Tape (tapeF m s rows)), some (.ptr p), x2, x3, none, none]) ⟨by rw [List.range_zero, List.map_nil, List.flatten_nil, e0], _, _, rfl⟩ ?_ ?_
  · rintro i σ M' K hi ⟨rfl, x2, x3, rfl⟩ hK
    unfold b_line_changes_1
    walk_at "hd"
    rw [Int.zero_add]
    have h40 := hls i (by omega)
    refine for_rng (fun k σ M' => M' = M.put p (.lst ((((List.range m.toNat).map (qtF m s)).flatten).map prP ++ (((List.range i).map (rowsFl m s rows)).flatten).map prP ++ (((List.range k).map fun (k : Nat) => rowFl m s i k (rowAt rows m i k)).flatten).map prP)) ∧ ∃ x3, σ = [some (.obj Γ.Tape (tapeF m s rows)), some (.ptr p), some (.int (i : Int)), x3, none, none]) ⟨by rw [List.range_zero, List.map_nil, List.flatten_nil, e0], _, rfl⟩ ?_ ?_
    · rintro k σ M' K2 hk ⟨rfl, x3, rfl⟩ hK2
      unfold b_line_changes_2
      walk_at "hd"
      rw [Int.zero_add]
      show sp_row_changes Γ [tapeP Γ m s rows, .int (i : Int), .int (k : Int)] _ _ _
      refine ⟨m, s, rows, i, k, rfl, hM, by omega, by omega, ?_⟩
      dsimp only
      have h9 := hlr i k
      have h92 := rowFl_len hm8 (i : Int) (k : Int) (rowAt rows m i k) (s := s)
      have hk8 : k * 9 ≤ 8 * 9 := Nat.mul_le_mul_right _ (by omega)
      refine w_ext put_same rfl (line_lt (by rw [List.length_append, List.length_append, List.length_map, List.length_map, List.length_map, List.length_map]; omega)) ?_
      rw [put_put]
      refine hK2 _ _ ⟨?_, _, rfl⟩
      rw [fl_cons (α := Nat), List.map_append, List.append_assoc _ _ ((rowFl m s i k (rowAt rows m i k)).map prP)]
    · rintro σ M' ⟨rfl, x3, rfl⟩
      refine hK _ _ ⟨?_, _, _, rfl⟩
      rw [fl_cons (α := Nat), List.map_append, List.append_assoc]
      rfl
  · rintro σ M' ⟨rfl, x2, x3, rfl⟩
    dsimp only
    refine w_pFzL rfl (fun _ => rfl) put_same ?_
    rw [put_drop hp]
    walk_at "hd"
    have h40 := hls s.toNat (by omega)
    rw [← List.map_append, show ((List.range m.toNat).map (qtF m s)).flatten ++ ((List.range s.toNat).map (rowsFl m s rows)).flatten = prF m s rows from rfl]
    refine dcl_map prP (fun p => p.1) (fun p => tP p.2) (prF m s rows) [] ?_ ?_ (fun p hp => ⟨_, rfl, fun S hS => ?_, fun S hS => ?_⟩) ?_
    · rw [List.map_nil, List.nil_append, show ((prF m s rows).map fun p => kT p.1) = ((prF m s rows).map (·.1)).map kT by rw [List.map_map]; rfl]
      exact nodup_kT nd
    · unfold prF
      rw [List.length_append]
      show 0 + _ ≤ _
      omega
    · walk_at "hd"
      exact hS
    · walk_at "hd"
      exact hS
    rw [List.nil_append]
    exact q
theorem k_FlyStair_init (Γ : Ctx) : Keeps (t_FlyStair_init Γ) 2 4 (sp_FlyStair_init Γ) := by
  rintro xs M Q E hl ⟨p, m, s, rows, rfl, hM, hp, q⟩
  have hm2 := hM.m2; have hm8 := hM.m8; have hs1 := hM.s1; have hs40 := hM.s40
  walk_at "st"
  have hsm : 1 * 2 ≤ s * m := Int.mul_le_mul hs1 hm2 (by omega) (by omega)
  have hsm2 : s * m ≤ 40 * 8 := Int.mul_le_mul hs40 hm8 (by omega) (by omega)
  have a1 : (s + 1) * (s * m + 1) ≤ 41 * 321 := Int.mul_le_mul (by omega) (by omega) (by omega) (by omega)
  have a2 : 2 * 3 ≤ (s + 1) * (s * m + 1) := Int.mul_le_mul (by omega) (by omega) (by omega) (by omega)
  have b1 : m * (s + 1) ≤ 8 * 41 := Int.mul_le_mul (by omega) (by omega) (by omega) (by omega)
  have b2 : 2 * 2 ≤ m * (s + 1) := Int.mul_le_mul (by omega) (by omega) (by omega) (by omega)
  unfold t_FlyStair_init
  rw [show tapeP Γ m s rows = .obj Γ.Tape (tapeF m s rows) from rfl]
  walk_at "hd"
  show sp_many_memories Γ [tapeP Γ m s rows] _ _ _
  refine ⟨m, s, rows, rfl, by omega, ?_⟩
  walk_at "hd"
  refine ⟨.inl ⟨by omega, by omega⟩, ?_⟩
  walk_at "hd"
  refine ⟨.inl ⟨by omega, by omega⟩, ?_⟩
  walk_at "hd"
  refine ⟨(s + 1) * (s * m + 1), m * (s + 1), s + 1, rfl, ⟨by omega, by omega⟩, ⟨by omega, by omega⟩, ⟨by omega, by omega⟩, ?_⟩
  rcases q with ⟨hb, q⟩ | ⟨hb, q⟩
  · unfold prodF at hb
    rw [decide_eq_false (by omega)]
    walk_at "hd"
    exact q
  · unfold prodF at hb
    rw [decide_eq_true hb]
    have ch := prF_ok hM
    have bx := szF_box hm2 hs1 hb
    walk_at "hd"
    rw [putF_ptr hp]
    refine ⟨(by show 0 < 1000; decide), ?_⟩
    walk_at "hd"
    show sp_line_changes Γ [tapeP Γ m s rows] _ _ _
    refine ⟨m, s, rows, rfl, hM, ch.k, ?_⟩
    walk_at "hd"
    intro y hy
    have hne : p ≠ y := fun z => by rw [← z, put_same] at hy; cases hy
    have esz : szP (szF m s) = PV.tup [.int ((s + 1) * (s * m + 1)), .int (m * (s + 1)), .int (s + 1)] := by
      obtain ⟨z1, z2, z3⟩ := szF_ints hm2 hs1
      unfold szP
      rw [z1, z2, z3]
    refine ⟨y, szF m s, prF m s rows, by rw [esz], bx, ch, put_same, rfl, ?_⟩
    rw [put_put]
    simp only [put_same, true_and]
    rw [put_drop hy]
    walk_at "hd"
    rw [putF_ptr put_same, put_put]
    refine ⟨(by show 1 < 1000; decide), ?_⟩
    exact q
theorem k_FlyStair_up (Γ : Ctx) : Keeps (t_FlyStair_up Γ) 2 6 (sp_FlyStair_up Γ) := by
  rintro xs M Q E hl ⟨m, s, rows, L, rfl, hM, hn, q⟩
  have hm2 := hM.m2; have hm8 := hM.m8; have hs1 := hM.s1; have hs40 := hM.s40
  walk_at "st"
  unfold t_FlyStair_up flyP flyF
  rw [show tapeP Γ m s rows = .obj Γ.Tape (tapeF m s rows) from rfl]
  walk_at "hd"
  refine ⟨m, L, rfl, hn, ?_⟩
  unfold upF at q
  cases hp : hdPl m L with
  | none =>
    rw [hp] at q
    walk_at "hd"
    exact q
  | some i =>
    rw [hp] at q
    dsimp only at q
    have hi : i < L.length := hp_lt hp
    rw [show oNt (some i) = PV.int (i : Int) from rfl]
    unfold lP
    walk_at "hd"
    refine ⟨line_lt (by rw [List.length_map]; omega), lcT_map (fun t : T3 => [.int t.1, .int t.2.1, .int t.2.2]) (fun t => .bl (decide (t.2.2 ≠ 0))) L [] (fun t ht => ⟨_, rfl, fun R hR => ?_⟩) ?_⟩
    · walk_at "hd"
      rw [decide_not] at hR
      exact hR
    rw [List.nil_append]
    walk_at "hd"
    refine w_anyB ?_
    try dsimp only
    by_cases ha : (L.any fun t => decide (t.2.2 ≠ 0)) = true
    · rw [if_pos ha] at q
      rw [ha]
      walk_at "hd"
      exact q
    rw [if_neg ha] at q
    rw [eq_false_of_ne_true ha]
    walk_at "hd"
    refine ⟨line_lt (by rw [List.length_map]; omega), lcT_map (fun t : T3 => [.int t.1, .int t.2.1, .int t.2.2]) (fun t => .bl (decide (s * m + 1 ≤ t.1))) L [] (fun t ht => ⟨_, rfl, fun R hR => ?_⟩) ?_⟩
    · walk_at "hd"
      show sp_many_memories Γ [tapeP Γ m s rows] _ _ _
      refine ⟨m, s, rows, rfl, by omega, ?_⟩
      dsimp only
      walk_at "hd"
      exact hR
    rw [List.nil_append]
    walk_at "hd"
    refine w_anyB ?_
    try dsimp only
    by_cases hb : (L.any fun t => decide (s * m + 1 ≤ t.1)) = true
    · rw [if_pos hb] at q
      rw [hb]
      walk_at "hd"
      exact q
    rw [if_neg hb] at q
    rw [eq_false_of_ne_true hb]
    walk_at "hd"
    rw [cutA_map, cutA_from _ (by omega), show ((i : Int) + 1).toNat = i + 1 by omega]
    refine ⟨line_lt (by rw [List.length_map, List.length_drop]; omega), lcT_map (fun t : T3 => [.int t.1, .int t.2.1, .int t.2.2]) (fun t => .bl (decide (t.1 ≠ 0))) (L.drop (i + 1)) [] (fun t ht => ⟨_, rfl, fun R hR => ?_⟩) ?_⟩
    · walk_at "hd"
      rw [decide_not] at hR
      exact hR
    rw [List.nil_append]
    walk_at "hd"
    refine w_anyB ?_
    try dsimp only
    by_cases hc : ((L.drop (i + 1)).any fun t => decide (t.1 ≠ 0)) = true
    · rw [if_pos hc] at q
      rw [hc]
      walk_at "hd"
      exact q
    rw [if_neg hc] at q
    rw [eq_false_of_ne_true hc]
    walk_at "hd"
    exact ⟨m, L, i, rfl, ⟨by omega, by omega⟩, hi, hn, q⟩
theorem k_FlyStair_memories (Γ : Ctx) : Keeps (t_FlyStair_memories Γ) 2 6 (sp_FlyStair_memories Γ) := by
  rintro xs M Q E hl ⟨m, s, rows, L, rfl, hM, hn, q⟩
  have hm2 := hM.m2; have hm8 := hM.m8; have hs1 := hM.s1; have hs40 := hM.s40
  walk_at "st"
  have hsm : 1 * 2 ≤ s * m := Int.mul_le_mul hs1 hm2 (by omega) (by omega)
  have hsm2 : s * m ≤ 40 * 8 := Int.mul_le_mul hs40 hm8 (by omega) (by omega)
  unfold t_FlyStair_memories flyP flyF lP
  rw [show tapeP Γ m s rows = .obj Γ.Tape (tapeF m s rows) from rfl]
  unfold pRevT
  walk_at "hd"
  refine w_revTt ?_
  walk_at "hd"
  rw [← List.map_reverse]
  refine ⟨line_lt (by rw [List.length_map, List.length_reverse]; omega), lcT_map (fun t : T3 => [.int t.1, .int t.2.1, .int t.2.2]) (fun t => .int (t.1 % (s * m + 1))) L.reverse [] (fun t ht => ⟨_, rfl, fun R hR => ?_⟩) ?_⟩
  · walk_at "hd"
    show sp_many_memories Γ [tapeP Γ m s rows] _ _ _
    refine ⟨m, s, rows, rfl, by omega, ?_⟩
    dsimp only
    refine ⟨by omega, ?_⟩
    exact hR
  rw [List.nil_append]
  walk_at "hd"
  rw [show (L.reverse.map fun t : T3 => PV.int (t.1 % (s * m + 1))) = (L.reverse.map fun t : T3 => t.1 % (s * m + 1)).map PV.int by rw [List.map_map]; rfl]
  refine ⟨line_lt (by rw [List.length_map, List.length_map, List.length_reverse]; omega), lcf_map PV.int (fun e => decide (e ≠ 0)) (fun e => ppP ((e - 1) / m, (e - 1) % m)) _ [] (fun e he => ⟨fun R hR => ?_, fun _ R hR => ?_⟩) ?_⟩
  · walk_at "hd"
    rw [decide_not] at hR
    exact hR
  · walk_at "hd"
    refine ⟨by rw [cdiv_eq]; omega, ?_⟩
    exact hR
  rw [List.nil_append]
  walk_at "hd"
  unfold memF at q
  rw [List.map_map] at q
  exact q
end My
set_option Elab.async false
set_option linter.all false
set_option maxRecDepth 100000
namespace My
open PySem PL TM PD
local macro_rules | `(tactic| walk_at "hd") => `(tactic| repeat (first | (with_reducible refine w_cons ?_) | ((with_reducible refine' w_var ?_ ?_); rotate_left; exact rfl) | (with_reducible refine w_seq ?_) | (with_reducible refine w_C ?_) | (with_reducible refine w_nil ?_) | (with_reducible refine w_bin ?_) | (with_reducible refine w_tup ?_) | ((with_reducible refine' w_pset ?_ ?_); rotate_left; (intro x; first | with_reducible exact set_h0 | with_reducible exact set_h1 | with_reducible exact set_h2 | with_reducible exact set_h3 | with_reducible exact set_h4 | with_reducible exact set_h5 | with_reducible exact set_h6 | with_reducible exact set_h7 | with_reducible exact set_h8 | with_reducible exact set_h9 | with_reducible exact set_h10 | with_reducible exact set_h11 | with_reducible exact set_h12 | with_reducible exact set_h13 | with_reducible exact set_h14 | with_reducible exact set_h15 | with_reducible exact set_h16 | with_reducible exact set_h17 | with_reducible exact set_h18 | with_reducible exact set_h19 | with_reducible exact set_h20 | with_reducible exact set_h21 | with_reducible exact set_h22 | with_reducible exact set_h23 | with_reducible exact set_h24 | with_reducible exact set_h25)) | (with_reducible refine w_add ?_) | (with_reducible refine w_test ?_) | (with_reducible refine w_kB ?_) | (with_reducible refine w_call ?_) | (with_reducible refine w_ifs ?_) | (with_reducible refine w_next ?_) | ((with_reducible refine' w_gname ?_ ?_); rotate_left; (first | with_reducible exact set_h0 | with_reducible exact set_h1 | with_reducible exact set_h2 | with_reducible exact set_h3 | with_reducible exact set_h4 | with_reducible exact set_h5 | with_reducible exact set_h6 | with_reducible exact set_h7 | with_reducible exact set_h8 | with_reducible exact set_h9 | with_reducible exact set_h10 | with_reducible exact set_h11 | with_reducible exact set_h12 | with_reducible exact set_h13 | with_reducible exact set_h14 | with_reducible exact set_h15 | with_reducible exact set_h16 | with_reducible exact set_h17 | with_reducible exact set_h18 | with_reducible exact set_h19 | with_reducible exact set_h20 | with_reducible exact set_h21 | with_reducible exact set_h22 | with_reducible exact set_h23 | with_reducible exact set_h24 | with_reducible exact set_h25)) | (with_reducible refine w_ret ?_) | (with_reducible refine w_fld ?_) | (with_reducible refine w_ifd ?_) | ((with_reducible refine' w_fldO ?_ ?_); rotate_left; exact rfl) | (with_reducible refine w_gcons ?_) | (with_reducible refine w_callB ?_) | (with_reducible refine w_on1 ?_) | ((with_reducible refine w_mod ?_ ?_); (first | decide | omega)) | (with_reducible refine w_int ?_) | (with_reducible refine w_drop ?_) | (with_reducible refine w_for ?_) | (with_reducible refine w_I0 ?_) | (with_reducible refine w_ifF ?_) | (with_reducible refine w_part ?_) | (with_reducible refine w_partI ?_) | (with_reducible refine w_sl ?_) | (with_reducible refine w_nop ?_) | (with_reducible refine w_ifT ?_) | (with_reducible refine w_R1 ?_) | ((with_reducible refine w_R1I ?_ ?_); (first | decide | omega)) | (with_reducible refine w_gnil ?_) | (with_reducible refine w_ixtup0 ?_) | (with_reducible refine w_ifn ?_) | (with_reducible refine w_asg ?_) | ((with_reducible refine w_gtup ?_ ?_); exact rfl) | (with_reducible refine w_eqInt ?_) | (with_reducible refine w_ixtup1 ?_) | (with_reducible refine w_or ?_) | (with_reducible refine w_not ?_) | (with_reducible refine w_in_non ?_) | (with_reducible refine w_lc ?_) | ((with_reducible refine w_div ?_ ?_); (first | decide | omega)) | (with_reducible refine w_neg ?_) | (with_reducible refine w_negI ?_) | (with_reducible refine w_eqStr ?_) | (with_reducible refine w_slT ?_) | (with_reducible refine w_lentup ?_) | (with_reducible refine w_tupL ?_) | (with_reducible refine w_lstF ?_) | (with_reducible refine w_app ?_) | (with_reducible refine w_tisN ?_) | (with_reducible refine w_meth ?_) | ((with_reducible refine w_objO ?_ ?_); exact rfl) | (with_reducible refine w_lstM ?_) | (with_reducible refine w_ixtup2 ?_) | (with_reducible refine w_retF ?_) | (with_reducible refine w_iL ?_) | (with_reducible refine w_make ?_) | (with_reducible refine w_fldS ?_) | (with_reducible refine w_rg1 ?_) | (with_reducible refine w_dnew ?_) | (with_reducible refine w_piD ?_) | (with_reducible refine w_dctF ?_) | (with_reducible refine w_dc ?_) | (with_reducible refine w_dcF ?_) | (with_reducible refine w_piZ3 ?_) | (with_reducible refine w_piET ?_) | (with_reducible refine w_pIsD ?_) | (with_reducible refine w_dct1 ?_) | (with_reducible refine w_gsubD ?_) | (with_reducible refine w_lst ?_) | (with_reducible refine w_ixtup3 ?_) | (with_reducible refine w_lenlst ?_) | (with_reducible refine w_and ?_) | (with_reducible refine w_in_tup ?_) | ((with_reducible refine' w_aug ?_ ?_ ?_); rotate_left 2; exact rfl; (intro x; first | with_reducible exact set_h0 | with_reducible exact set_h1 | with_reducible exact set_h2 | with_reducible exact set_h3 | with_reducible exact set_h4 | with_reducible exact set_h5 | with_reducible exact set_h6 | with_reducible exact set_h7 | with_reducible exact set_h8 | with_reducible exact set_h9 | with_reducible exact set_h10 | with_reducible exact set_h11 | with_reducible exact set_h12 | with_reducible exact set_h13 | with_reducible exact set_h14 | with_reducible exact set_h15 | with_reducible exact set_h16 | with_reducible exact set_h17 | with_reducible exact set_h18 | with_reducible exact set_h19 | with_reducible exact set_h20 | with_reducible exact set_h21 | with_reducible exact set_h22 | with_reducible exact set_h23 | with_reducible exact set_h24 | with_reducible exact set_h25)) | (with_reducible refine w_lc2 ?_) | (with_reducible refine w_lcT ?_) | (with_reducible refine w_on2 ?_) | (with_reducible refine w_neInt ?_) | (with_reducible refine w_slL ?_) | (with_reducible refine w_tnotN ?_) | (with_reducible refine w_iT ?_) | (with_reducible refine w_tupF ?_) | (with_reducible refine w_par ?_) | ((with_reducible refine' w_kpar ?_ ?_ ?_); rotate_left 2; (first | with_reducible exact set_h0 | with_reducible exact set_h1 | with_reducible exact set_h2 | with_reducible exact set_h3 | with_reducible exact set_h4 | with_reducible exact set_h5 | with_reducible exact set_h6 | with_reducible exact set_h7 | with_reducible exact set_h8 | with_reducible exact set_h9 | with_reducible exact set_h10 | with_reducible exact set_h11 | with_reducible exact set_h12 | with_reducible exact set_h13 | with_reducible exact set_h14 | with_reducible exact set_h15 | with_reducible exact set_h16 | with_reducible exact set_h17 | with_reducible exact set_h18 | with_reducible exact set_h19 | with_reducible exact set_h20 | with_reducible exact set_h21 | with_reducible exact set_h22 | with_reducible exact set_h23 | with_reducible exact set_h24 | with_reducible exact set_h25); (first | with_reducible exact set_h0 | with_reducible exact set_h1 | with_reducible exact set_h2 | with_reducible exact set_h3 | with_reducible exact set_h4 | with_reducible exact set_h5 | with_reducible exact set_h6 | with_reducible exact set_h7 | with_reducible exact set_h8 | with_reducible exact set_h9 | with_reducible exact set_h10 | with_reducible exact set_h11 | with_reducible exact set_h12 | with_reducible exact set_h13 | with_reducible exact set_h14 | with_reducible exact set_h15 | with_reducible exact set_h16 | with_reducible exact set_h17 | with_reducible exact set_h18 | with_reducible exact set_h19 | with_reducible exact set_h20 | with_reducible exact set_h21 | with_reducible exact set_h22 | with_reducible exact set_h23 | with_reducible exact set_h24 | with_reducible exact set_h25)) | (with_reducible refine w_par3 ?_) | ((with_reducible refine' w_kpar3 ?_ ?_ ?_ ?_); rotate_left 3; (first | with_reducible exact set_h0 | with_reducible exact set_h1 | with_reducible exact set_h2 | with_reducible exact set_h3 | with_reducible exact set_h4 | with_reducible exact set_h5 | with_reducible exact set_h6 | with_reducible exact set_h7 | with_reducible exact set_h8 | with_reducible exact set_h9 | with_reducible exact set_h10 | with_reducible exact set_h11 | with_reducible exact set_h12 | with_reducible exact set_h13 | with_reducible exact set_h14 | with_reducible exact set_h15 | with_reducible exact set_h16 | with_reducible exact set_h17 | with_reducible exact set_h18 | with_reducible exact set_h19 | with_reducible exact set_h20 | with_reducible exact set_h21 | with_reducible exact set_h22 | with_reducible exact set_h23 | with_reducible exact set_h24 | with_reducible exact set_h25); (first | with_reducible exact set_h0 | with_reducible exact set_h1 | with_reducible exact set_h2 | with_reducible exact set_h3 | with_reducible exact set_h4 | with_reducible exact set_h5 | with_reducible exact set_h6 | with_reducible exact set_h7 | with_reducible exact set_h8 | with_reducible exact set_h9 | with_reducible exact set_h10 | with_reducible exact set_h11 | with_reducible exact set_h12 | with_reducible exact set_h13 | with_reducible exact set_h14 | with_reducible exact set_h15 | with_reducible exact set_h16 | with_reducible exact set_h17 | with_reducible exact set_h18 | with_reducible exact set_h19 | with_reducible exact set_h20 | with_reducible exact set_h21 | with_reducible exact set_h22 | with_reducible exact set_h23 | with_reducible exact set_h24 | with_reducible exact set_h25); (first | with_reducible exact set_h0 | with_reducible exact set_h1 | with_reducible exact set_h2 | with_reducible exact set_h3 | with_reducible exact set_h4 | with_reducible exact set_h5 | with_reducible exact set_h6 | with_reducible exact set_h7 | with_reducible exact set_h8 | with_reducible exact set_h9 | with_reducible exact set_h10 | with_reducible exact set_h11 | with_reducible exact set_h12 | with_reducible exact set_h13 | with_reducible exact set_h14 | with_reducible exact set_h15 | with_reducible exact set_h16 | with_reducible exact set_h17 | with_reducible exact set_h18 | with_reducible exact set_h19 | with_reducible exact set_h20 | with_reducible exact set_h21 | with_reducible exact set_h22 | with_reducible exact set_h23 | with_reducible exact set_h24 | with_reducible exact set_h25)) | (with_reducible refine w_rg2 ?_) | (with_reducible refine w_asT ?_) | (with_reducible refine w_kTp ?_) | (with_reducible refine w_pdget2 ?_) | (with_reducible refine w_zT ?_) | (with_reducible refine w_dct ?_) | (with_reducible refine w_listL ?_) | (with_reducible refine w_andV ?_) | (with_reducible refine w_isN ?_) | (with_reducible refine w_cnt ?_) | (with_reducible refine w_retD ?_) | ((with_reducible refine' w_isi_i ?_ ?_); rotate_left; (first | with_reducible exact kit_ib | with_reducible exact kit_ii | with_reducible exact kit_it | with_reducible exact kit_il | with_reducible exact kit_is)) | ((with_reducible refine' w_isi_t ?_ ?_); rotate_left; (first | with_reducible exact kit_tb | with_reducible exact kit_ti | with_reducible exact kit_tt | with_reducible exact kit_tl | with_reducible exact kit_ts)) | (with_reducible refine w_lc2M ?_) | (with_reducible refine w_lcM ?_) | (with_reducible refine w_catN ?_) | (with_reducible refine w_tcnt ?_) | (with_reducible refine w_kTCnt ?_) | (with_reducible refine w_catR ?_) | (with_reducible refine w_tidx ?_) | (with_reducible refine w_pdget1 ?_) | (with_reducible refine w_rv ?_) | (with_reducible refine w_z ?_) | (with_reducible refine w_gsub ?_) | (with_reducible refine w_ixlst0 ?_) | (with_reducible refine w_ixlst1 ?_) | (with_reducible refine w_slS ?_) | (with_reducible refine w_abs ?_) | (with_reducible refine w_listML ?_) | (with_reducible refine w_notB ?_) | (with_reducible refine w_brk ?_) | (with_reducible refine w_fzE ?_) | ((with_reducible refine' w_isi_l ?_ ?_); rotate_left; (first | with_reducible exact kit_lb | with_reducible exact kit_li | with_reducible exact kit_lt | with_reducible exact kit_ll | with_reducible exact kit_ls)) | (with_reducible refine w_join ?_) | (with_reducible refine w_kStr ?_) | (with_reducible refine w_zL ?_) | (with_reducible refine w_tupRg ?_) | ((with_reducible refine w_shr ?_ ?_); (first | decide | omega)) | (with_reducible refine w_retN ?_) | (with_reducible refine w_dnx ?_) | (with_reducible refine w_drt ?_) | (with_reducible refine w_dbk ?_) | (with_reducible refine w_eqBl ?_) | (with_reducible refine w_neBl ?_) | (with_reducible refine w_neStr ?_) | (with_reducible refine w_ixlst2 ?_) | (with_reducible refine w_ixlst3 ?_) | (with_reducible refine w_ixtup4 ?_) | (with_reducible refine w_ixlst4 ?_) | (with_reducible refine w_ixtup5 ?_) | (with_reducible refine w_ixlst5 ?_) | (with_reducible refine w_need ?_) | (with_reducible refine w_lenscr ?_) | (with_reducible refine w_listT ?_) | (with_reducible refine w_listS ?_) | (with_reducible refine w_tupT ?_) | (with_reducible refine w_listMT ?_) | (with_reducible refine w_orV ?_) | (with_reducible refine w_notV ?_) | (with_reducible refine w_if ?_) | (with_reducible refine w_notN ?_) | (with_reducible refine w_in_int ?_) | (with_reducible refine w_in_lst ?_) | (with_reducible refine w_in_ptr ?_) | (with_reducible refine w_in_str ?_) | (with_reducible refine w_in_bl ?_) | (with_reducible refine w_isB ?_) | (with_reducible refine w_lstFs ?_) | (with_reducible refine w_R2 ?_) | (with_reducible refine w_forM ?_) | (with_reducible refine w_lcnil ?_) | (with_reducible refine w_lccons ?_) | (with_reducible refine w_retFD ?_) | (with_reducible refine w_raise ?_) | (with_reducible refine w_raiseF ?_) | (with_reducible refine w_tryF ?_) | (with_reducible refine w_isFp ?_) | (with_reducible refine w_isFx ?_) | ((with_reducible refine' w_xf ?_ ?_); rotate_left; exact rfl) | (with_reducible refine w_try ?_) | (with_reducible refine w_lstRg ?_) | (with_reducible refine w_pop ?_) | (with_reducible refine w_rev ?_) | (with_reducible refine w_revL ?_) | (with_reducible refine w_forE ?_) | ((with_reducible refine' w_isi_b ?_ ?_); rotate_left; (first | with_reducible exact kit_bb | with_reducible exact kit_bi | with_reducible exact kit_bt | with_reducible exact kit_bl | with_reducible exact kit_bs)) | ((with_reducible refine' w_isi_s ?_ ?_); rotate_left; (first | with_reducible exact kit_sb | with_reducible exact kit_si | with_reducible exact kit_st | with_reducible exact kit_sl | with_reducible exact kit_ss)) | ((with_reducible refine' w_isi_n ?_ ?_); rotate_left; (first | with_reducible exact kit_nb | with_reducible exact kit_ni | with_reducible exact kit_nt | with_reducible exact kit_nl | with_reducible exact kit_ns))))
local macro_rules | `(tactic| walk_at "st") => `(tactic| simp only [pstart, List.map_cons, List.map_nil, List.cons_append, List.nil_append, List.length_cons, List.length_nil, List.replicate, Nat.reduceSub, Nat.reduceAdd, Nat.zero_add])
theorem k_law_line (Γ : Ctx) : Keeps (t_law_line Γ) 2 8 (sp_law_line Γ) := by
  rintro xs M Q E hl ⟨m, s, rows, c, rfl, hm, h1, h2, q⟩
  walk_at "st"
  unfold t_law_line tapeP tapeF cfP tI
  walk_at "hd"
  unfold pRevT
  walk_at "hd"
  refine w_revTt ?_
  walk_at "hd"
  rw [← List.map_reverse]
  refine ⟨line_lt (by rw [List.length_map, List.length_reverse]; omega), lc_mapF PV.int (fun v => tP (tri v)) _ [] (fun v hv R hR => ?_) ?_⟩
  · walk_at "hd"
    exact hR
  rw [List.nil_append]
  walk_at "hd"
  refine ⟨.inl ⟨by omega, by omega⟩, ?_⟩
  walk_at "hd"
  refine ⟨line_lt (by rw [List.length_map, List.length_reverse]; show c.l.length + 1 < _; omega), ?_⟩
  walk_at "hd"
  refine ⟨line_lt (by rw [List.length_map]; omega), lc_mapF PV.int (fun v => tP (tri v)) _ [] (fun v hv R hR => ?_) ?_⟩
  · walk_at "hd"
    exact hR
  rw [List.nil_append]
  walk_at "hd"
  refine ⟨line_lt (by rw [List.length_append, List.length_map, List.length_reverse, List.length_map]; show c.l.length + 1 + _ < _; omega), ?_⟩
  rw [show c.l.reverse.map (fun v => tP (tri v)) ++ [PV.tup [.int 0, .int (m * (c.q + 1) + c.a), .int 0]] ++ c.r.map (fun v => tP (tri v)) = (lnL m c.q ⟨c.l, c.a, c.r⟩).map tP by unfold lnL; rw [List.map_append, List.map_append, List.map_append, List.map_append, List.map_map, List.map_map, List.map_map]; rfl]
  walk_at "hd"
  exact q
theorem k_law_tape (Γ : Ctx) : Keeps (t_law_tape Γ) 2 7 (sp_law_tape Γ) := by
  rintro xs M Q E hl ⟨ds, S, rfl, hl1, hl2, hd, hS, q⟩
  walk_at "st"
  unfold t_law_tape lI
  walk_at "hd"
  refine w_ixL (at_Ik (n := 0) rfl (by omega)) ?_
  walk_at "hd"
  refine w_ixL (at_Ik (n := 1) rfl (by omega)) ?_
  walk_at "hd"
  have m0 : 0 ≤ ds[0] % 2 ∧ ds[0] % 2 < 2 := ⟨Int.emod_nonneg _ (by decide), Int.emod_lt_of_pos _ (by decide)⟩
  have s0 : 0 ≤ ds[1] % S ∧ ds[1] % S < S := ⟨Int.emod_nonneg _ (by omega), Int.emod_lt_of_pos _ (by omega)⟩
  intro p hp
  walk_at "hd"
  generalize hm : 2 + ds[0] % 2 = m at *
  generalize hs : 1 + ds[1] % S = s at *
  have bm : 2 ≤ m ∧ m ≤ 3 := by omega
  have bs : 1 ≤ s ∧ s ≤ S := by omega
  have ms : m * s ≤ 3 * S := Int.mul_le_mul (by omega) (by omega) (by omega) (by omega)
  have ms0 : 2 * 1 ≤ m * s := Int.mul_le_mul (by omega) (by omega) (by omega) (by omega)
  refine ⟨.inl ⟨by omega, by omega⟩, ?_⟩
  walk_at "hd"
  refine for_rng (fun i σ M' => ∃ (rows : List TRow) (x5 x6 : Option PV), rows.length = i ∧ (∀ r ∈ rows, RowOk m s r) ∧ M' = M.put p (.lst (rows.map TM.rowP)) ∧ σ = [some (.lst (ds.map .int)), some (.int S), some (.int m), some (.int s), some (.ptr p), x5, x6]) ⟨[], _, _, rfl, (fun r h => absurd h List.not_mem_nil), rfl, rfl⟩ ?_ ?_
  · rintro i σ M' K hi ⟨rows, x5, x6, hrl, hro, rfl, rfl⟩ hK
    unfold b_law_tape_1
    walk_at "hd"
    refine w_ixL (at_Ik (n := 2 + i) (by omega) (by omega)) ?_
    have hd0 := hd _ (List.getElem_mem (l := ds) (n := 2 + i) (by omega))
    generalize ds[2 + i] = v at *
    walk_at "hd"
    have hrl2 : rows.length < 100 := by omega
    by_cases h7 : v % 7 = 0
    · rw [if_pos h7]
      walk_at "hd"
      refine ⟨(by rw [lstOf_ptr put_same]; intro z; cases z), ?_⟩
      walk_at "hd"
      refine w_appZ (by rw [List.length_map]; omega) ?_
      refine hK _ _ ⟨rows ++ [none], _, _, by rw [List.length_append, List.length_singleton, hrl], fun r hr => ?_, by rw [List.map_append]; rfl, rfl⟩
      rcases List.mem_append.mp hr with h | h
      · exact hro r h
      · rw [List.mem_singleton.mp h]; exact trivial
    · rw [if_neg h7]
      walk_at "hd"
      refine ⟨(by rw [lstOf_ptr put_same]; intro z; cases z), ?_⟩
      walk_at "hd"
      have v42 : 0 ≤ v / 4 % 2 ∧ v / 4 % 2 < 2 := ⟨Int.emod_nonneg _ (by decide), Int.emod_lt_of_pos _ (by decide)⟩
      have vm : 0 ≤ v % m ∧ v % m < m := ⟨Int.emod_nonneg _ (by omega), Int.emod_lt_of_pos _ (by omega)⟩
      have vs : 0 ≤ v / 8 % s ∧ v / 8 % s < s := ⟨Int.emod_nonneg _ (by omega), Int.emod_lt_of_pos _ (by omega)⟩
      refine ⟨.inl ⟨by omega, by omega⟩, ?_⟩
      walk_at "hd"
      show kApp (.ptr p) (TM.rowP (some (v % m, 2 * (v / 4 % 2) - 1, v / 8 % s))) _ _
      refine w_appZ (by rw [List.length_map]; omega) ?_
      refine hK _ _ ⟨rows ++ [some (v % m, 2 * (v / 4 % 2) - 1, v / 8 % s)], _, _, by rw [List.length_append, List.length_singleton, hrl], fun r hr => ?_, by rw [List.map_append]; rfl, rfl⟩
      rcases List.mem_append.mp hr with h | h
      · exact hro r h
      · rw [List.mem_singleton.mp h]
        refine ⟨vm, ?_, vs⟩
        by_cases e : v / 4 % 2 = 0
        · exact .inr (by omega)
        · exact .inl (by omega)
  · rintro σ M' ⟨rows, x5, x6, hrl, hro, rfl, rfl⟩
    walk_at "hd"
    intro y hy
    have hne : p ≠ y := fun z => by rw [← z, put_same] at hy; cases hy
    have hM : Mach m s rows := ⟨by omega, by omega, by omega, by omega, by rw [hrl]; omega, hro⟩
    refine ⟨y, m, s, .ptr p, rows, rfl, hM, by rw [lstOf_ptr (by rw [put_ne hne, put_same])], ?_, put_same, rfl, ?_⟩
    · exact tyOf_ptr (by rw [put_ne hne, put_same])
    · rw [put_same]
      exact ⟨rfl, q m s rows _ bm (by omega) hM⟩
theorem cut_le {α : Type} {xs : List α} {a b : Int} {n : Nat} (ha : 0 ≤ a) (hab : 0 ≤ b) (h : b - a ≤ n) : (cutA xs (some a) (some b)).length ≤ n := by
  unfold cutA
  rw [sIx_nn ha, sIx_nn hab, List.length_take]
  omega
theorem k_law_upper (Γ : Ctx) : Keeps (t_law_upper Γ) 2 6 (sp_law_upper Γ) := by
  rintro xs M Q E hl ⟨m, s, rows, c, rfl, hM, q⟩
  have hm2 := hM.m2; have hm8 := hM.m8; have hs1 := hM.s1; have hs40 := hM.s40
  walk_at "st"
  unfold t_law_upper
  rw [show tapeP Γ m s rows = .obj Γ.Tape (tapeF m s rows) from rfl]
  walk_at "hd"
  refine ⟨c, 10, 60, rfl, by decide, ⟨by decide, by decide⟩, fun ds hl hd => ?_⟩
  unfold lI
  walk_at "hd"
  refine w_ixL (at_Ik (n := 0) rfl (by omega)) ?_
  walk_at "hd"
  rw [cutA_map]
  have mm : ∀ v : Int, 0 ≤ v % m ∧ v % m < m := fun v => ⟨Int.emod_nonneg _ (by omega), Int.emod_lt_of_pos _ (by omega)⟩
  have side : ∀ xs : List Int, ∀ x ∈ xs.map fun v => v % m, 0 ≤ x ∧ x < m := fun xs x hx => by
    obtain ⟨v, _, rfl⟩ := List.mem_map.mp hx
    exact mm v
  have c0 : (cutA ds (some 3) (some (3 + ds[0] % 4))).length ≤ 3 := by
    have := Int.emod_nonneg ds[0] (b := 4) (by decide)
    have := Int.emod_lt_of_pos ds[0] (b := 4) (by decide)
    exact cut_le (by omega) (by omega) (by omega)
  generalize cutA ds (some 3) (some (3 + ds[0] % 4)) = A at *
  refine ⟨line_lt (by rw [List.length_map]; omega), lc_mapF PV.int (fun v => .int (v % m)) A [] (fun v hv R hR => ?_) ?_⟩
  · walk_at "hd"
    exact hR
  rw [List.nil_append, show (A.map fun v => PV.int (v % m)) = (A.map fun v => v % m).map PV.int by rw [List.map_map]; rfl]
  walk_at "hd"
  refine ⟨A.map fun v => v % m, .inr rfl, by rw [List.length_map]; omega, ?_⟩
  walk_at "hd"
  refine w_ixL (at_Ik (n := 1) rfl (by omega)) ?_
  walk_at "hd"
  rw [cutA_map]
  have c1 : (cutA ds (some 6) (some (6 + ds[1] % 4))).length ≤ 3 := by
    have := Int.emod_nonneg ds[1] (b := 4) (by decide)
    have := Int.emod_lt_of_pos ds[1] (b := 4) (by decide)
    exact cut_le (by omega) (by omega) (by omega)
  generalize cutA ds (some 6) (some (6 + ds[1] % 4)) = B at *
  refine ⟨line_lt (by rw [List.length_map]; omega), lc_mapF PV.int (fun v => .int (v % m)) B [] (fun v hv R hR => ?_) ?_⟩
  · walk_at "hd"
    exact hR
  rw [List.nil_append, show (B.map fun v => PV.int (v % m)) = (B.map fun v => v % m).map PV.int by rw [List.map_map]; rfl]
  walk_at "hd"
  refine ⟨B.map fun v => v % m, .inr rfl, by rw [List.length_map]; omega, ?_⟩
  walk_at "hd"
  refine w_ixL (at_Ik (n := 2) rfl (by omega)) ?_
  walk_at "hd"
  refine w_ixL (at_Ik (n := 2) rfl (by omega)) ?_
  walk_at "hd"
  exact q ⟨ds[2] % s, trimL (A.map fun v => v % m), ds[2] / 12 % m, trimL (B.map fun v => v % m)⟩ ⟨Int.emod_nonneg _ (by omega), Int.emod_lt_of_pos _ (by omega), (mm _).1, (mm _).2, SideOk.trim (side A), SideOk.trim (side B)⟩ (Nat.le_trans (trimL_len _) (by rw [List.length_map]; exact c0)) (Nat.le_trans (trimL_len _) (by rw [List.length_map]; exact c1))
end My
set_option Elab.async false
set_option linter.all false
set_option maxRecDepth 100000
namespace My
open PySem PL TM PD
local macro_rules | `(tactic| walk_at "hd") => `(tactic| repeat (first | (with_reducible refine w_cons ?_) | ((with_reducible refine' w_var ?_ ?_); rotate_left; exact rfl) | (with_reducible refine w_seq ?_) | (with_reducible refine w_C ?_) | (with_reducible refine w_nil ?_) | (with_reducible refine w_bin ?_) | (with_reducible refine w_tup ?_) | ((with_reducible refine' w_pset ?_ ?_); rotate_left; (intro x; first | with_reducible exact set_h0 | with_reducible exact set_h1 | with_reducible exact set_h2 | with_reducible exact set_h3 | with_reducible exact set_h4 | with_reducible exact set_h5 | with_reducible exact set_h6 | with_reducible exact set_h7 | with_reducible exact set_h8 | with_reducible exact set_h9 | with_reducible exact set_h10 | with_reducible exact set_h11 | with_reducible exact set_h12 | with_reducible exact set_h13 | with_reducible exact set_h14 | with_reducible exact set_h15 | with_reducible exact set_h16 | with_reducible exact set_h17 | with_reducible exact set_h18 | with_reducible exact set_h19 | with_reducible exact set_h20 | with_reducible exact set_h21 | with_reducible exact set_h22 | with_reducible exact set_h23 | with_reducible exact set_h24 | with_reducible exact set_h25)) | (with_reducible refine w_add ?_) | (with_reducible refine w_test ?_) | (with_reducible refine w_kB ?_) | (with_reducible refine w_call ?_) | (with_reducible refine w_ifs ?_) | (with_reducible refine w_next ?_) | ((with_reducible refine' w_gname ?_ ?_); rotate_left; (first | with_reducible exact set_h0 | with_reducible exact set_h1 | with_reducible exact set_h2 | with_reducible exact set_h3 | with_reducible exact set_h4 | with_reducible exact set_h5 | with_reducible exact set_h6 | with_reducible exact set_h7 | with_reducible exact set_h8 | with_reducible exact set_h9 | with_reducible exact set_h10 | with_reducible exact set_h11 | with_reducible exact set_h12 | with_reducible exact set_h13 | with_reducible exact set_h14 | with_reducible exact set_h15 | with_reducible exact set_h16 | with_reducible exact set_h17 | with_reducible exact set_h18 | with_reducible exact set_h19 | with_reducible exact set_h20 | with_reducible exact set_h21 | with_reducible exact set_h22 | with_reducible exact set_h23 | with_reducible exact set_h24 | with_reducible exact set_h25)) | (with_reducible refine w_ret ?_) | (with_reducible refine w_fld ?_) | (with_reducible refine w_ifd ?_) | ((with_reducible refine' w_fldO ?_ ?_); rotate_left; exact rfl) | (with_reducible refine w_gcons ?_) | (with_reducible refine w_callB ?_) | (with_reducible refine w_on1 ?_) | ((with_reducible refine w_mod ?_ ?_); (first | decide | omega)) | (with_reducible refine w_int ?_) | (with_reducible refine w_drop ?_) | (with_reducible refine w_for ?_) | (with_reducible refine w_I0 ?_) | (with_reducible refine w_ifF ?_) | (with_reducible refine w_part ?_) | (with_reducible refine w_partI ?_) | (with_reducible refine w_sl ?_) | (with_reducible refine w_nop ?_) | (with_reducible refine w_ifT ?_) | (with_reducible refine w_R1 ?_) | ((with_reducible refine w_R1I ?_ ?_); (first | decide | omega)) | (with_reducible refine w_gnil ?_) | (with_reducible refine w_ixtup0 ?_) | (with_reducible refine w_ifn ?_) | (with_reducible refine w_asg ?_) | ((with_reducible refine w_gtup ?_ ?_); exact rfl) | (with_reducible refine w_eqInt ?_) | (with_reducible refine w_ixtup1 ?_) | (with_reducible refine w_or ?_) | (with_reducible refine w_not ?_) | (with_reducible refine w_in_non ?_) | (with_reducible refine w_lc ?_) | ((with_reducible refine w_div ?_ ?_); (first | decide | omega)) | (with_reducible refine w_neg ?_) | (with_reducible refine w_negI ?_) | (with_reducible refine w_eqStr ?_) | (with_reducible refine w_slT ?_) | (with_reducible refine w_lentup ?_) | (with_reducible refine w_tupL ?_) | (with_reducible refine w_lstF ?_) | (with_reducible refine w_app ?_) | (with_reducible refine w_tisN ?_) | (with_reducible refine w_meth ?_) | ((with_reducible refine w_objO ?_ ?_); exact rfl) | (with_reducible refine w_lstM ?_) | (with_reducible refine w_ixtup2 ?_) | (with_reducible refine w_retF ?_) | (with_reducible refine w_iL ?_) | (with_reducible refine w_make ?_) | (with_reducible refine w_fldS ?_) | (with_reducible refine w_rg1 ?_) | (with_reducible refine w_dnew ?_) | (with_reducible refine w_piD ?_) | (with_reducible refine w_dctF ?_) | (with_reducible refine w_dc ?_) | (with_reducible refine w_dcF ?_) | (with_reducible refine w_piZ3 ?_) | (with_reducible refine w_piET ?_) | (with_reducible refine w_pIsD ?_) | (with_reducible refine w_dct1 ?_) | (with_reducible refine w_gsubD ?_) | (with_reducible refine w_lst ?_) | (with_reducible refine w_ixtup3 ?_) | (with_reducible refine w_lenlst ?_) | (with_reducible refine w_and ?_) | (with_reducible refine w_in_tup ?_) | ((with_reducible refine' w_aug ?_ ?_ ?_); rotate_left 2; exact rfl; (intro x; first | with_reducible exact set_h0 | with_reducible exact set_h1 | with_reducible exact set_h2 | with_reducible exact set_h3 | with_reducible exact set_h4 | with_reducible exact set_h5 | with_reducible exact set_h6 | with_reducible exact set_h7 | with_reducible exact set_h8 | with_reducible exact set_h9 | with_reducible exact set_h10 | with_reducible exact set_h11 | with_reducible exact set_h12 | with_reducible exact set_h13 | with_reducible exact set_h14 | with_reducible exact set_h15 | with_reducible exact set_h16 | with_reducible exact set_h17 | with_reducible exact set_h18 | with_reducible exact set_h19 | with_reducible exact set_h20 | with_reducible exact set_h21 | with_reducible exact set_h22 | with_reducible exact set_h23 | with_reducible exact set_h24 | with_reducible exact set_h25)) | (with_reducible refine w_lc2 ?_) | (with_reducible refine w_lcT ?_) | (with_reducible refine w_on2 ?_) | (with_reducible refine w_neInt ?_) | (with_reducible refine w_slL ?_) | (with_reducible refine w_tnotN ?_) | (with_reducible refine w_iT ?_) | (with_reducible refine w_tupF ?_) | (with_reducible refine w_par ?_) | ((with_reducible refine' w_kpar ?_ ?_ ?_); rotate_left 2; (first | with_reducible exact set_h0 | with_reducible exact set_h1 | with_reducible exact set_h2 | with_reducible exact set_h3 | with_reducible exact set_h4 | with_reducible exact set_h5 | with_reducible exact set_h6 | with_reducible exact set_h7 | with_reducible exact set_h8 | with_reducible exact set_h9 | with_reducible exact set_h10 | with_reducible exact set_h11 | with_reducible exact set_h12 | with_reducible exact set_h13 | with_reducible exact set_h14 | with_reducible exact set_h15 | with_reducible exact set_h16 | with_reducible exact set_h17 | with_reducible exact set_h18 | with_reducible exact set_h19 | with_reducible exact set_h20 | with_reducible exact set_h21 | with_reducible exact set_h22 | with_reducible exact set_h23 | with_reducible exact set_h24 | with_reducible exact set_h25); (first | with_reducible exact set_h0 | with_reducible exact set_h1 | with_reducible exact set_h2 | with_reducible exact set_h3 | with_reducible exact set_h4 | with_reducible exact set_h5 | with_reducible exact set_h6 | with_reducible exact set_h7 | with_reducible exact set_h8 | with_reducible exact set_h9 | with_reducible exact set_h10 | with_reducible exact set_h11 | with_reducible exact set_h12 | with_reducible exact set_h13 | with_reducible exact set_h14 | with_reducible exact set_h15 | with_reducible exact set_h16 | with_reducible exact set_h17 | with_reducible exact set_h18 | with_reducible exact set_h19 | with_reducible exact set_h20 | with_reducible exact set_h21 | with_reducible exact set_h22 | with_reducible exact set_h23 | with_reducible exact set_h24 | with_reducible exact set_h25)) | (with_reducible refine w_par3 ?_) | ((with_reducible refine' w_kpar3 ?_ ?_ ?_ ?_); rotate_left 3; (first | with_reducible exact set_h0 | with_reducible exact set_h1 | with_reducible exact set_h2 | with_reducible exact set_h3 | with_reducible exact set_h4 | with_reducible exact set_h5 | with_reducible exact set_h6 | with_reducible exact set_h7 | with_reducible exact set_h8 | with_reducible exact set_h9 | with_reducible exact set_h10 | with_reducible exact set_h11 | with_reducible exact set_h12 | with_reducible exact set_h13 | with_reducible exact set_h14 | with_reducible exact set_h15 | with_reducible exact set_h16 | with_reducible exact set_h17 | with_reducible exact set_h18 | with_reducible exact set_h19 | with_reducible exact set_h20 | with_reducible exact set_h21 | with_reducible exact set_h22 | with_reducible exact set_h23 | with_reducible exact set_h24 | with_reducible exact set_h25); (first | with_reducible exact set_h0 | with_reducible exact set_h1 | with_reducible exact set_h2 | with_reducible exact set_h3 | with_reducible exact set_h4 | with_reducible exact set_h5 | with_reducible exact set_h6 | with_reducible exact set_h7 | with_reducible exact set_h8 | with_reducible exact set_h9 | with_reducible exact set_h10 | with_reducible exact set_h11 | with_reducible exact set_h12 | with_reducible exact set_h13 | with_reducible exact set_h14 | with_reducible exact set_h15 | with_reducible exact set_h16 | with_reducible exact set_h17 | with_reducible exact set_h18 | with_reducible exact set_h19 | with_reducible exact set_h20 | with_reducible exact set_h21 | with_reducible exact set_h22 | with_reducible exact set_h23 | with_reducible exact set_h24 | with_reducible exact set_h25); (first | with_reducible exact set_h0 | with_reducible exact set_h1 | with_reducible exact set_h2 | with_reducible exact set_h3 | with_reducible exact set_h4 | with_reducible exact set_h5 | with_reducible exact set_h6 | with_reducible exact set_h7 | with_reducible exact set_h8 | with_reducible exact set_h9 | with_reducible exact set_h10 | with_reducible exact set_h11 | with_reducible exact set_h12 | with_reducible exact set_h13 | with_reducible exact set_h14 | with_reducible exact set_h15 | with_reducible exact set_h16 | with_reducible exact set_h17 | with_reducible exact set_h18 | with_reducible exact set_h19 | with_reducible exact set_h20 | with_reducible exact set_h21 | with_reducible exact set_h22 | with_reducible exact set_h23 | with_reducible exact set_h24 | with_reducible exact set_h25)) | (with_reducible refine w_rg2 ?_) | (with_reducible refine w_asT ?_) | (with_reducible refine w_kTp ?_) | (with_reducible refine w_pdget2 ?_) | (with_reducible refine w_zT ?_) | (with_reducible refine w_dct ?_) | (with_reducible refine w_listL ?_) | (with_reducible refine w_andV ?_) | (with_reducible refine w_isN ?_) | (with_reducible refine w_cnt ?_) | (with_reducible refine w_retD ?_) | ((with_reducible refine' w_isi_i ?_ ?_); rotate_left; (first | with_reducible exact kit_ib | with_reducible exact kit_ii | with_reducible exact kit_it | with_reducible exact kit_il | with_reducible exact kit_is)) | ((with_reducible refine' w_isi_t ?_ ?_); rotate_left; (first | with_reducible exact kit_tb | with_reducible exact kit_ti | with_reducible exact kit_tt | with_reducible exact kit_tl | with_reducible exact kit_ts)) | (with_reducible refine w_lc2M ?_) | (with_reducible refine w_lcM ?_) | (with_reducible refine w_catN ?_) | (with_reducible refine w_tcnt ?_) | (with_reducible refine w_kTCnt ?_) | (with_reducible refine w_catR ?_) | (with_reducible refine w_tidx ?_) | (with_reducible refine w_pdget1 ?_) | (with_reducible refine w_rv ?_) | (with_reducible refine w_z ?_) | (with_reducible refine w_gsub ?_) | (with_reducible refine w_ixlst0 ?_) | (with_reducible refine w_ixlst1 ?_) | (with_reducible refine w_slS ?_) | (with_reducible refine w_abs ?_) | (with_reducible refine w_listML ?_) | (with_reducible refine w_notB ?_) | (with_reducible refine w_brk ?_) | (with_reducible refine w_fzE ?_) | ((with_reducible refine' w_isi_l ?_ ?_); rotate_left; (first | with_reducible exact kit_lb | with_reducible exact kit_li | with_reducible exact kit_lt | with_reducible exact kit_ll | with_reducible exact kit_ls)) | (with_reducible refine w_join ?_) | (with_reducible refine w_kStr ?_) | (with_reducible refine w_zL ?_) | (with_reducible refine w_tupRg ?_) | ((with_reducible refine w_shr ?_ ?_); (first | decide | omega)) | (with_reducible refine w_retN ?_) | (with_reducible refine w_dnx ?_) | (with_reducible refine w_drt ?_) | (with_reducible refine w_dbk ?_) | (with_reducible refine w_eqBl ?_) | (with_reducible refine w_neBl ?_) | (with_reducible refine w_neStr ?_) | (with_reducible refine w_ixlst2 ?_) | (with_reducible refine w_ixlst3 ?_) | (with_reducible refine w_ixtup4 ?_) | (with_reducible refine w_ixlst4 ?_) | (with_reducible refine w_ixtup5 ?_) | (with_reducible refine w_ixlst5 ?_) | (with_reducible refine w_need ?_) | (with_reducible refine w_lenscr ?_) | (with_reducible refine w_listT ?_) | (with_reducible refine w_listS ?_) | (with_reducible refine w_tupT ?_) | (with_reducible refine w_listMT ?_) | (with_reducible refine w_orV ?_) | (with_reducible refine w_notV ?_) | (with_reducible refine w_if ?_) | (with_reducible refine w_notN ?_) | (with_reducible refine w_in_int ?_) | (with_reducible refine w_in_lst ?_) | (with_reducible refine w_in_ptr ?_) | (with_reducible refine w_in_str ?_) | (with_reducible refine w_in_bl ?_) | (with_reducible refine w_isB ?_) | (with_reducible refine w_lstFs ?_) | (with_reducible refine w_R2 ?_) | (with_reducible refine w_forM ?_) | (with_reducible refine w_lcnil ?_) | (with_reducible refine w_lccons ?_) | (with_reducible refine w_retFD ?_) | (with_reducible refine w_raise ?_) | (with_reducible refine w_raiseF ?_) | (with_reducible refine w_tryF ?_) | (with_reducible refine w_isFp ?_) | (with_reducible refine w_isFx ?_) | ((with_reducible refine' w_xf ?_ ?_); rotate_left; exact rfl) | (with_reducible refine w_try ?_) | (with_reducible refine w_lstRg ?_) | (with_reducible refine w_pop ?_) | (with_reducible refine w_rev ?_) | (with_reducible refine w_revL ?_) | (with_reducible refine w_forE ?_) | ((with_reducible refine' w_isi_b ?_ ?_); rotate_left; (first | with_reducible exact kit_bb | with_reducible exact kit_bi | with_reducible exact kit_bt | with_reducible exact kit_bl | with_reducible exact kit_bs)) | ((with_reducible refine' w_isi_s ?_ ?_); rotate_left; (first | with_reducible exact kit_sb | with_reducible exact kit_si | with_reducible exact kit_st | with_reducible exact kit_sl | with_reducible exact kit_ss)) | ((with_reducible refine' w_isi_n ?_ ?_); rotate_left; (first | with_reducible exact kit_nb | with_reducible exact kit_ni | with_reducible exact kit_nt | with_reducible exact kit_nl | with_reducible exact kit_ns))))
local macro_rules | `(tactic| walk_at "st") => `(tactic| simp only [pstart, List.map_cons, List.map_nil, List.cons_append, List.nil_append, List.length_cons, List.length_nil, List.replicate, Nat.reduceSub, Nat.reduceAdd, Nat.zero_add])
section
variable {z : Sz} {R : Tb}
theorem back_good (bx : BxOk z) (fo : FOk z R) {L : List T3} (hL : inL z L) (n : Nat) : inL z (iterN (bakL R) n L) ∧ (iterN (bakL R) n L).length ≤ L.length + 2 * n :=
  ⟨inL_iter (fun X hX => inL_strip (inL_growB bx fo hX)) n hL, len_iter (fun X => Nat.le_trans (strip_len _) (Nat.le_of_eq (len_growB R X))) n L⟩
theorem iter_addn (f : List T3 → List T3) (n : Nat) : ∀ (k : Nat) (X : List T3), iterN f (k + n) X = iterN f n (iterN f k X)
  | 0, X => by rw [Nat.zero_add]; rfl
  | k + 1, X => by
    rw [show k + 1 + n = (k + n) + 1 by omega]
    exact iter_addn f n k (f X)
end
theorem mem_len (m s : Int) (L : List T3) : (memF m s L).length ≤ L.length := by
  unfold memF
  rw [List.length_map]
  exact Nat.le_trans (List.length_filter_le _ _) (by rw [List.length_map, List.length_reverse]; exact Nat.le_refl _)
theorem k_law_past (Γ : Ctx) : Keeps (t_law_past Γ) 2 4 (sp_law_past Γ) := by
  rintro xs M Q E hl ⟨m, s, rows, L, rfl, hM, hpr, hL, hn, q⟩
  have hml := mem_len m s L
  have bx := szF_box hM.m2 hM.s1 hpr
  have fo := full_ok (prF_ok hM)
  walk_at "st"
  unfold t_law_past
  rw [show flyP Γ m s rows = .obj Γ.FlyStair (flyF Γ m s rows) from rfl]
  walk_at "hd"
  intro p hp
  walk_at "hd"
  show sp_FlyStair_memories Γ [flyP Γ m s rows, lP L] _ _ _
  refine ⟨m, s, rows, L, rfl, hM, by omega, ?_⟩
  walk_at "hd"
  rw [List.length_map]
  walk_at "hd"
  rw [show ((((memF m s L).length : Nat) : Int) + 1).toNat = (memF m s L).length + 1 by omega]
  refine for_rng (fun i σ M' => ∃ x3, M' = M.put p (.lst (((List.range i).map fun k => upF m s (iterN (bakL (full (szF m s) (prF m s rows))) (2 * k) L)).map optP)) ∧ σ = [some (.obj Γ.FlyStair (flyF Γ m s rows)), some (lP L), some (.ptr p), x3]) ⟨_, rfl, rfl⟩ ?_ ?_
  · rintro i σ M' K hi ⟨x3, rfl, rfl⟩ hK
    have g := back_good bx fo hL (2 * i)
    unfold b_law_past_1
    walk_at "hd"
    refine ⟨(by rw [lstOf_ptr put_same]; intro z; cases z), ?_⟩
    walk_at "hd"
    rw [show partsP Γ (szF m s) (full (szF m s) (prF m s rows)) = .obj Γ.Parts (partsF (szF m s) (full (szF m s) (prF m s rows))) from rfl]
    walk_at "hd"
    refine ⟨.inl ⟨by decide, by decide⟩, ?_⟩
    walk_at "hd"
    show sp_Parts_run_back Γ [partsP Γ (szF m s) (full (szF m s) (prF m s rows)), lP L, .int (2 * (0 + (i : Int)))] _ _ _
    refine ⟨szF m s, (full (szF m s) (prF m s rows)), L, 2 * i, by rw [show (2 * (0 + (i : Int))) = ((2 * i : Nat) : Int) by omega], fo, bx, hL, by omega, ?_⟩
    walk_at "hd"
    show sp_FlyStair_up Γ [flyP Γ m s rows, lP _] _ _ _
    refine ⟨m, s, rows, _, rfl, hM, by omega, ?_⟩
    dsimp only
    refine w_appZ (by rw [List.length_map, List.length_map, List.length_range]; omega) ?_
    refine hK _ _ ⟨_, ?_, rfl⟩
    rw [List.range_succ, List.map_append, List.map_append]
    rfl
  · rintro σ M' ⟨x3, rfl, rfl⟩
    walk_at "hd"
    refine w_fzP put_same ?_
    rw [put_drop hp]
    exact q
theorem k_past (Γ : Ctx) : Keeps (t_past Γ) 2 5 (sp_past Γ) := by
  rintro xs M Q E hl ⟨m, s, rows, L, rfl, hM, hpr, hL, hn, q1, q2⟩
  have hml := mem_len m s L
  have bx := szF_box hM.m2 hM.s1 hpr
  have fo := full_ok (prF_ok hM)
  walk_at "st"
  unfold t_past
  rw [show flyP Γ m s rows = .obj Γ.FlyStair (flyF Γ m s rows) from rfl]
  walk_at "hd"
  intro p hp
  walk_at "hd"
  show sp_FlyStair_memories Γ [flyP Γ m s rows, lP L] _ _ _
  refine ⟨m, s, rows, L, rfl, hM, by omega, ?_⟩
  walk_at "hd"
  rw [List.length_map]
  walk_at "hd"
  rw [show ((((memF m s L).length : Nat) : Int) + 1).toNat = (memF m s L).length + 1 by omega]
  refine for_rng (fun i σ M' => ∃ x3 x4, (∀ k < i, upF m s (iterN (bakL (full (szF m s) (prF m s rows))) (2 * k) L) ≠ none) ∧ M' = M.put p (.lst (((List.range i).map fun k => upF m s (iterN (bakL (full (szF m s) (prF m s rows))) (2 * k) L)).map optP)) ∧ σ = [some (.obj Γ.FlyStair (flyF Γ m s rows)), some (lP (iterN (bakL (full (szF m s) (prF m s rows))) (2 * (i - 1)) L)), some (.ptr p), x3, x4]) ⟨_, _, (fun k h => absurd h (Nat.not_lt_zero _)), rfl, rfl⟩ ?_ ?_
  · rintro i σ M' K hi ⟨x3, x4, hall, rfl, rfl⟩ hK
    have g := back_good bx fo hL (2 * i)
    have g1 := back_good bx fo hL (2 * (i - 1))
    have rest : ∀ {bk ct : PNx} {rt : PQ} (M2 : Mem), M2 = M.put p (.lst (((List.range i).map fun k => upF m s (iterN (bakL (full (szF m s) (prF m s rows))) (2 * k) L)).map optP)) → (pSeq (pSet 4 (pMeth Γ.FlyStair (PySem.Str.ofString "up") (sp_FlyStair_up Γ) (pVar 0) (pCons (pVar 1) pNil))) (pSeq (pIfS (pTIsN (pVar 4)) (pRaise Γ.BadParts) pNext) (pDrop (pApp (pVar 2) (pVar 4))))) (PEnds.mk K rt E bk ct) [some (.obj Γ.FlyStair (flyF Γ m s rows)), some (lP (iterN (bakL (full (szF m s) (prF m s rows))) (2 * i) L)), some (.ptr p), some (.int (0 + (i : Int))), x4] M2 := by
      rintro bk ct rt M2 rfl
      walk_at "hd"
      show sp_FlyStair_up Γ [flyP Γ m s rows, lP _] _ _ _
      refine ⟨m, s, rows, _, rfl, hM, by omega, ?_⟩
      cases hu : upF m s (iterN (bakL (full (szF m s) (prF m s rows))) (2 * i) L) with
      | none =>
        rw [show optP none = PV.non from rfl]
        walk_at "hd"
        refine q2 ?_ _
        rw [← hu]
        exact List.mem_map.mpr ⟨i, List.mem_range.mpr hi, rfl⟩
      | some c =>
        rw [show optP (some c) = PV.tup [.int c.q, tI c.l, .int c.a, tI c.r] from rfl]
        walk_at "hd"
        refine ⟨(by rw [lstOf_ptr put_same]; intro z; cases z), ?_⟩
        walk_at "hd"
        refine w_appZ (by rw [List.length_map, List.length_map, List.length_range]; omega) ?_
        refine hK _ _ ⟨_, _, fun k hk => ?_, ?_, rfl⟩
        · by_cases e : k = i
          · subst e; rw [hu]; exact fun z => nomatch z
          · exact hall k (by omega)
        · rw [List.range_succ, List.map_append, List.map_append, List.map_singleton, List.map_singleton, hu]
          rfl
    unfold b_past_1
    walk_at "hd"
    by_cases h0 : i = 0
    · subst h0
      rw [if_neg (by decide)]
      exact rest _ rfl
    · rw [if_pos (by omega)]
      walk_at "hd"
      rw [show partsP Γ (szF m s) (full (szF m s) (prF m s rows)) = .obj Γ.Parts (partsF (szF m s) (full (szF m s) (prF m s rows))) from rfl]
      walk_at "hd"
      show sp_Parts_run_back Γ [partsP Γ (szF m s) (full (szF m s) (prF m s rows)), lP _, .int 2] _ _ _
      refine ⟨szF m s, (full (szF m s) (prF m s rows)), _, 2, rfl, fo, bx, g1.1, by omega, ?_⟩
      rw [← iter_addn, show 2 * (i - 1) + 2 = 2 * i by omega]
      exact rest _ rfl
  · rintro σ M' ⟨x3, x4, hall, rfl, rfl⟩
    walk_at "hd"
    refine w_fzP put_same ?_
    rw [put_drop hp]
    refine q1 fun h => ?_
    obtain ⟨k, hk, e⟩ := List.mem_map.mp h
    exact hall k (List.mem_range.mp hk) e
theorem k_law_asked (Γ : Ctx) : Keeps (t_law_asked Γ) 2 3 (sp_law_asked Γ) := by
  rintro xs M Q E hl ⟨m, s, rows, L, rfl, hM, hpr, hL, hn, q1, q2⟩
  walk_at "st"
  unfold t_law_asked
  walk_at "hd"
  refine ⟨m, s, rows, L, rfl, hM, hpr, hL, hn, fun h => ?_, fun h M' => ?_⟩
  · walk_at "hd"
    exact q1 h _
  · dsimp only
    refine need_by Γ.e_BadParts_BackError ⟨fun _ => ⟨rfl, fun a _ => ?_⟩, (fun z => nomatch z)⟩
    walk_at "hd"
    refine ⟨rfl, need_by Γ.k_BadParts_BadParts ?_⟩
    walk_at "hd"
    refine ⟨rfl, need_by Γ.k_BadParts_ValueError ?_⟩
    walk_at "hd"
    show oIx (PV.lst [PV.str (Str.ofString "other"), PV.str (Str.ofString "refused")]) (.int 1) _ Q
    refine w_ixL (x := .str (PySem.Str.ofString "refused")) rfl ?_
    exact q2 h _
end My
set_option Elab.async false
set_option linter.all false
set_option maxRecDepth 100000
namespace My
open PySem PL TM PD
local macro_rules | `(tactic| walk_at "hd") => `(tactic| repeat (first | (with_reducible refine w_cons ?_) | ((with_reducible refine' w_var ?_ ?_); rotate_left; exact rfl) | (with_reducible refine w_seq ?_) | (with_reducible refine w_C ?_) | (with_reducible refine w_nil ?_) | (with_reducible refine w_bin ?_) | (with_reducible refine w_tup ?_) | ((with_reducible refine' w_pset ?_ ?_); rotate_left; (intro x; first | with_reducible exact set_h0 | with_reducible exact set_h1 | with_reducible exact set_h2 | with_reducible exact set_h3 | with_reducible exact set_h4 | with_reducible exact set_h5 | with_reducible exact set_h6 | with_reducible exact set_h7 | with_reducible exact set_h8 | with_reducible exact set_h9 | with_reducible exact set_h10 | with_reducible exact set_h11 | with_reducible exact set_h12 | with_reducible exact set_h13 | with_reducible exact set_h14 | with_reducible exact set_h15 | with_reducible exact set_h16 | with_reducible exact set_h17 | with_reducible exact set_h18 | with_reducible exact set_h19 | with_reducible exact set_h20 | with_reducible exact set_h21 | with_reducible exact set_h22 | with_reducible exact set_h23 | with_reducible exact set_h24 | with_reducible exact set_h25)) | (with_reducible refine w_add ?_) | (with_reducible refine w_test ?_) | (with_reducible refine w_kB ?_) | (with_reducible refine w_call ?_) | (with_reducible refine w_ifs ?_) | (with_reducible refine w_next ?_) | ((with_reducible refine' w_gname ?_ ?_); rotate_left; (first | with_reducible exact set_h0 | with_reducible exact set_h1 | with_reducible exact set_h2 | with_reducible exact set_h3 | with_reducible exact set_h4 | with_reducible exact set_h5 | with_reducible exact set_h6 | with_reducible exact set_h7 | with_reducible exact set_h8 | with_reducible exact set_h9 | with_reducible exact set_h10 | with_reducible exact set_h11 | with_reducible exact set_h12 | with_reducible exact set_h13 | with_reducible exact set_h14 | with_reducible exact set_h15 | with_reducible exact set_h16 | with_reducible exact set_h17 | with_reducible exact set_h18 | with_reducible exact set_h19 | with_reducible exact set_h20 | with_reducible exact set_h21 | with_reducible exact set_h22 | with_reducible exact set_h23 | with_reducible exact set_h24 | with_reducible exact set_h25)) | (with_reducible refine w_ret ?_) | (with_reducible refine w_fld ?_) | (with_reducible refine w_ifd ?_) | ((with_reducible refine' w_fldO ?_ ?_); rotate_left; exact rfl) | (with_reducible refine w_gcons ?_) | (with_reducible refine w_callB ?_) | (with_reducible refine w_on1 ?_) | ((with_reducible refine w_mod ?_ ?_); (first | decide | omega)) | (with_reducible refine w_int ?_) | (with_reducible refine w_drop ?_) | (with_reducible refine w_for ?_) | (with_reducible refine w_I0 ?_) | (with_reducible refine w_ifF ?_) | (with_reducible refine w_part ?_) | (with_reducible refine w_partI ?_) | (with_reducible refine w_sl ?_) | (with_reducible refine w_nop ?_) | (with_reducible refine w_ifT ?_) | (with_reducible refine w_R1 ?_) | ((with_reducible refine w_R1I ?_ ?_); (first | decide | omega)) | (with_reducible refine w_gnil ?_) | (with_reducible refine w_ixtup0 ?_) | (with_reducible refine w_ifn ?_) | (with_reducible refine w_asg ?_) | ((with_reducible refine w_gtup ?_ ?_); exact rfl) | (with_reducible refine w_eqInt ?_) | (with_reducible refine w_ixtup1 ?_) | (with_reducible refine w_or ?_) | (with_reducible refine w_not ?_) | (with_reducible refine w_in_non ?_) | (with_reducible refine w_lc ?_) | ((with_reducible refine w_div ?_ ?_); (first | decide | omega)) | (with_reducible refine w_neg ?_) | (with_reducible refine w_negI ?_) | (with_reducible refine w_eqStr ?_) | (with_reducible refine w_slT ?_) | (with_reducible refine w_lentup ?_) | (with_reducible refine w_tupL ?_) | (with_reducible refine w_lstF ?_) | (with_reducible refine w_app ?_) | (with_reducible refine w_tisN ?_) | (with_reducible refine w_meth ?_) | ((with_reducible refine w_objO ?_ ?_); exact rfl) | (with_reducible refine w_lstM ?_) | (with_reducible refine w_ixtup2 ?_) | (with_reducible refine w_retF ?_) | (with_reducible refine w_iL ?_) | (with_reducible refine w_make ?_) | (with_reducible refine w_fldS ?_) | (with_reducible refine w_rg1 ?_) | (with_reducible refine w_dnew ?_) | (with_reducible refine w_piD ?_) | (with_reducible refine w_dctF ?_) | (with_reducible refine w_dc ?_) | (with_reducible refine w_dcF ?_) | (with_reducible refine w_piZ3 ?_) | (with_reducible refine w_piET ?_) | (with_reducible refine w_pIsD ?_) | (with_reducible refine w_dct1 ?_) | (with_reducible refine w_gsubD ?_) | (with_reducible refine w_lst ?_) | (with_reducible refine w_ixtup3 ?_) | (with_reducible refine w_lenlst ?_) | (with_reducible refine w_and ?_) | (with_reducible refine w_in_tup ?_) | ((with_reducible refine' w_aug ?_ ?_ ?_); rotate_left 2; exact rfl; (intro x; first | with_reducible exact set_h0 | with_reducible exact set_h1 | with_reducible exact set_h2 | with_reducible exact set_h3 | with_reducible exact set_h4 | with_reducible exact set_h5 | with_reducible exact set_h6 | with_reducible exact set_h7 | with_reducible exact set_h8 | with_reducible exact set_h9 | with_reducible exact set_h10 | with_reducible exact set_h11 | with_reducible exact set_h12 | with_reducible exact set_h13 | with_reducible exact set_h14 | with_reducible exact set_h15 | with_reducible exact set_h16 | with_reducible exact set_h17 | with_reducible exact set_h18 | with_reducible exact set_h19 | with_reducible exact set_h20 | with_reducible exact set_h21 | with_reducible exact set_h22 | with_reducible exact set_h23 | with_reducible exact set_h24 | with_reducible exact set_h25)) | (with_reducible refine w_lc2 ?_) | (with_reducible refine w_lcT ?_) | (with_reducible refine w_on2 ?_) | (with_reducible refine w_neInt ?_) | (with_reducible refine w_slL ?_) | (with_reducible refine w_tnotN ?_) | (with_reducible refine w_iT ?_) | (with_reducible refine w_tupF ?_) | (with_reducible refine w_par ?_) | ((with_reducible refine' w_kpar ?_ ?_ ?_); rotate_left 2; (first | with_reducible exact set_h0 | with_reducible exact set_h1 | with_reducible exact set_h2 | with_reducible exact set_h3 | with_reducible exact set_h4 | with_reducible exact set_h5 | with_reducible exact set_h6 | with_reducible exact set_h7 | with_reducible exact set_h8 | with_reducible exact set_h9 | with_reducible exact set_h10 | with_reducible exact set_h11 | with_reducible exact set_h12 | with_reducible exact set_h13 | with_reducible exact set_h14 | with_reducible exact set_h15 | with_reducible exact set_h16 | with_reducible exact set_h17 | with_reducible exact set_h18 | with_reducible exact set_h19 | with_reducible exact set_h20 | with_reducible exact set_h21 | with_reducible exact set_h22 | with_reducible exact set_h23 | with_reducible exact set_h24 | with_reducible exact set_h25); (first | with_reducible exact set_h0 | with_reducible exact set_h1 | with_reducible exact set_h2 | with_reducible exact set_h3 | with_reducible exact set_h4 | with_reducible exact set_h5 | with_reducible exact set_h6 | with_reducible exact set_h7 | with_reducible exact set_h8 | with_reducible exact set_h9 | with_reducible exact set_h10 | with_reducible exact set_h11 | with_reducible exact set_h12 | with_reducible exact set_h13 | with_reducible exact set_h14 | with_reducible exact set_h15 | with_reducible exact set_h16 | with_reducible exact set_h17 | with_reducible exact set_h18 | with_reducible exact set_h19 | with_reducible exact set_h20 | with_reducible exact set_h21 | with_reducible exact set_h22 | with_reducible exact set_h23 | with_reducible exact set_h24 | with_reducible exact set_h25)) | (with_reducible refine w_par3 ?_) | ((with_reducible refine' w_kpar3 ?_ ?_ ?_ ?_); rotate_left 3; (first | with_reducible exact set_h0 | with_reducible exact set_h1 | with_reducible exact set_h2 | with_reducible exact set_h3 | with_reducible exact set_h4 | with_reducible exact set_h5 | with_reducible exact set_h6 | with_reducible exact set_h7 | with_reducible exact set_h8 | with_reducible exact set_h9 | with_reducible exact set_h10 | with_reducible exact set_h11 | with_reducible exact set_h12 | with_reducible exact set_h13 | with_reducible exact set_h14 | with_reducible exact set_h15 | with_reducible exact set_h16 | with_reducible exact set_h17 | with_reducible exact set_h18 | with_reducible exact set_h19 | with_reducible exact set_h20 | with_reducible exact set_h21 | with_reducible exact set_h22 | with_reducible exact set_h23 | with_reducible exact set_h24 | with_reducible exact set_h25); (first | with_reducible exact set_h0 | with_reducible exact set_h1 | with_reducible exact set_h2 | with_reducible exact set_h3 | with_reducible exact set_h4 | with_reducible exact set_h5 | with_reducible exact set_h6 | with_reducible exact set_h7 | with_reducible exact set_h8 | with_reducible exact set_h9 | with_reducible exact set_h10 | with_reducible exact set_h11 | with_reducible exact set_h12 | with_reducible exact set_h13 | with_reducible exact set_h14 | with_reducible exact set_h15 | with_reducible exact set_h16 | with_reducible exact set_h17 | with_reducible exact set_h18 | with_reducible exact set_h19 | with_reducible exact set_h20 | with_reducible exact set_h21 | with_reducible exact set_h22 | with_reducible exact set_h23 | with_reducible exact set_h24 | with_reducible exact set_h25); (first | with_reducible exact set_h0 | with_reducible exact set_h1 | with_reducible exact set_h2 | with_reducible exact set_h3 | with_reducible exact set_h4 | with_reducible exact set_h5 | with_reducible exact set_h6 | with_reducible exact set_h7 | with_reducible exact set_h8 | with_reducible exact set_h9 | with_reducible exact set_h10 | with_reducible exact set_h11 | with_reducible exact set_h12 | with_reducible exact set_h13 | with_reducible exact set_h14 | with_reducible exact set_h15 | with_reducible exact set_h16 | with_reducible exact set_h17 | with_reducible exact set_h18 | with_reducible exact set_h19 | with_reducible exact set_h20 | with_reducible exact set_h21 | with_reducible exact set_h22 | with_reducible exact set_h23 | with_reducible exact set_h24 | with_reducible exact set_h25)) | (with_reducible refine w_rg2 ?_) | (with_reducible refine w_asT ?_) | (with_reducible refine w_kTp ?_) | (with_reducible refine w_pdget2 ?_) | (with_reducible refine w_zT ?_) | (with_reducible refine w_dct ?_) | (with_reducible refine w_listL ?_) | (with_reducible refine w_andV ?_) | (with_reducible refine w_isN ?_) | (with_reducible refine w_cnt ?_) | (with_reducible refine w_retD ?_) | ((with_reducible refine' w_isi_i ?_ ?_); rotate_left; (first | with_reducible exact kit_ib | with_reducible exact kit_ii | with_reducible exact kit_it | with_reducible exact kit_il | with_reducible exact kit_is)) | ((with_reducible refine' w_isi_t ?_ ?_); rotate_left; (first | with_reducible exact kit_tb | with_reducible exact kit_ti | with_reducible exact kit_tt | with_reducible exact kit_tl | with_reducible exact kit_ts)) | (with_reducible refine w_lc2M ?_) | (with_reducible refine w_lcM ?_) | (with_reducible refine w_catN ?_) | (with_reducible refine w_tcnt ?_) | (with_reducible refine w_kTCnt ?_) | (with_reducible refine w_catR ?_) | (with_reducible refine w_tidx ?_) | (with_reducible refine w_pdget1 ?_) | (with_reducible refine w_rv ?_) | (with_reducible refine w_z ?_) | (with_reducible refine w_gsub ?_) | (with_reducible refine w_ixlst0 ?_) | (with_reducible refine w_ixlst1 ?_) | (with_reducible refine w_slS ?_) | (with_reducible refine w_abs ?_) | (with_reducible refine w_listML ?_) | (with_reducible refine w_notB ?_) | (with_reducible refine w_brk ?_) | (with_reducible refine w_fzE ?_) | ((with_reducible refine' w_isi_l ?_ ?_); rotate_left; (first | with_reducible exact kit_lb | with_reducible exact kit_li | with_reducible exact kit_lt | with_reducible exact kit_ll | with_reducible exact kit_ls)) | (with_reducible refine w_join ?_) | (with_reducible refine w_kStr ?_) | (with_reducible refine w_zL ?_) | (with_reducible refine w_tupRg ?_) | ((with_reducible refine w_shr ?_ ?_); (first | decide | omega)) | (with_reducible refine w_retN ?_) | (with_reducible refine w_dnx ?_) | (with_reducible refine w_drt ?_) | (with_reducible refine w_dbk ?_) | (with_reducible refine w_eqBl ?_) | (with_reducible refine w_neBl ?_) | (with_reducible refine w_neStr ?_) | (with_reducible refine w_ixlst2 ?_) | (with_reducible refine w_ixlst3 ?_) | (with_reducible refine w_ixtup4 ?_) | (with_reducible refine w_ixlst4 ?_) | (with_reducible refine w_ixtup5 ?_) | (with_reducible refine w_ixlst5 ?_) | (with_reducible refine w_need ?_) | (with_reducible refine w_lenscr ?_) | (with_reducible refine w_listT ?_) | (with_reducible refine w_listS ?_) | (with_reducible refine w_tupT ?_) | (with_reducible refine w_listMT ?_) | (with_reducible refine w_orV ?_) | (with_reducible refine w_notV ?_) | (with_reducible refine w_if ?_) | (with_reducible refine w_notN ?_) | (with_reducible refine w_in_int ?_) | (with_reducible refine w_in_lst ?_) | (with_reducible refine w_in_ptr ?_) | (with_reducible refine w_in_str ?_) | (with_reducible refine w_in_bl ?_) | (with_reducible refine w_isB ?_) | (with_reducible refine w_lstFs ?_) | (with_reducible refine w_R2 ?_) | (with_reducible refine w_forM ?_) | (with_reducible refine w_lcnil ?_) | (with_reducible refine w_lccons ?_) | (with_reducible refine w_retFD ?_) | (with_reducible refine w_raise ?_) | (with_reducible refine w_raiseF ?_) | (with_reducible refine w_tryF ?_) | (with_reducible refine w_isFp ?_) | (with_reducible refine w_isFx ?_) | ((with_reducible refine' w_xf ?_ ?_); rotate_left; exact rfl) | (with_reducible refine w_try ?_) | (with_reducible refine w_lstRg ?_) | (with_reducible refine w_pop ?_) | (with_reducible refine w_rev ?_) | (with_reducible refine w_revL ?_) | (with_reducible refine w_forE ?_) | ((with_reducible refine' w_isi_b ?_ ?_); rotate_left; (first | with_reducible exact kit_bb | with_reducible exact kit_bi | with_reducible exact kit_bt | with_reducible exact kit_bl | with_reducible exact kit_bs)) | ((with_reducible refine' w_isi_s ?_ ?_); rotate_left; (first | with_reducible exact kit_sb | with_reducible exact kit_si | with_reducible exact kit_st | with_reducible exact kit_sl | with_reducible exact kit_ss)) | ((with_reducible refine' w_isi_n ?_ ?_); rotate_left; (first | with_reducible exact kit_nb | with_reducible exact kit_ni | with_reducible exact kit_nt | with_reducible exact kit_nl | with_reducible exact kit_ns))))
local macro_rules | `(tactic| walk_at "st") => `(tactic| simp only [pstart, List.map_cons, List.map_nil, List.cons_append, List.nil_append, List.length_cons, List.length_nil, List.replicate, Nat.reduceSub, Nat.reduceAdd, Nat.zero_add])
theorem sd_cf (c : Cf) : SelfD 3 (cfP c) := SelfD.tup fun x hx => by
  simp only [List.mem_cons, List.not_mem_nil, or_false] at hx
  rcases hx with rfl | rfl | rfl | rfl
  · exact SelfD.int
  · exact sd_tI
  · exact SelfD.int
  · exact sd_tI
theorem sd_opt (o : Option Cf) : SelfD 3 (optP o) := by
  cases o with
  | none => exact SelfD.non
  | some c => exact sd_cf c
theorem sd_opts (l : List (Option Cf)) : SelfD 4 (.lst (l.map optP)) := SelfD.lst fun x hx => by
  obtain ⟨o, _, rfl⟩ := List.mem_map.mp hx
  exact sd_opt o
theorem cut_mem {α : Type} {xs : List α} {a b : Option Int} {x : α} (h : x ∈ cutA xs a b) : x ∈ xs := by
  unfold cutA at h
  exact List.mem_of_mem_drop (List.mem_of_mem_take h)
theorem cut_len {α : Type} (xs : List α) (a b : Option Int) : (cutA xs a b).length ≤ xs.length := by
  unfold cutA
  rw [List.length_take, List.length_drop]
  omega
theorem ln_inF {m s : Int} {c : Cf} (hm : 2 ≤ m) (hs : 1 ≤ s) (co : CfOk m s c) : inL (szF m s) (lnL m c.q ⟨c.l, c.a, c.r⟩) := fun x hx => by
  obtain ⟨z1, z2, z3⟩ := szF_ints hm hs
  have h0 : 1 * 2 ≤ s * m := Int.mul_le_mul hs hm (by omega) (by omega)
  have ha1 : 1 * (s * m + 1) ≤ (s + 1) * (s * m + 1) := Int.mul_le_mul_of_nonneg_right (by omega) (by omega)
  have hb : m * 1 ≤ m * (s + 1) := Int.mul_le_mul_of_nonneg_left (by omega) (by omega)
  have g1 := hd_ge (m := m) (s := c.q) (k := c.a) (by omega) co.q0 co.a0
  have g2 := hd_lt (m := m) (s := c.q) (k := c.a) co.qs co.am (by omega)
  have fin : ∀ v : Int, 0 ≤ v → v < m * (s + 1) → inZ (szF m s) (tri v) := fun v h0 h1 => by
    unfold inZ tri
    dsimp only
    rw [z1, z2, z3]
    omega
  unfold lnL at hx
  obtain ⟨v, hv, rfl⟩ := List.mem_map.mp hx
  rcases List.mem_append.mp hv with h | h
  · rcases List.mem_append.mp h with h | h
    · have := co.l.mm v (List.mem_reverse.mp h)
      exact fin v this.1 (by omega)
    · rw [List.mem_singleton.mp h]
      exact fin _ (by show 0 ≤ hdI m c.q c.a; omega) g2
  · have := co.r.mm v h
    exact fin v this.1 (by omega)
def dO : Option Cf → PyData
  | none => .none
  | some c => .tuple [.int c.q, .tuple (c.l.map .int), .int c.a, .tuple (c.r.map .int)]
theorem toD_O (o : Option Cf) : toD (optP o) = some (dO o) := by
  cases o with
  | none => rfl
  | some c =>
    show (toDs [PV.int c.q, tI c.l, PV.int c.a, tI c.r]).map PyData.tuple = _
    have h1 : toD (tI c.l) = some (.tuple (c.l.map .int)) := by
      show (toDs (c.l.map PV.int)).map PyData.tuple = _
      rw [PL.toDs_ints]; rfl
    have h2 : toD (tI c.r) = some (.tuple (c.r.map .int)) := by
      show (toDs (c.r.map PV.int)).map PyData.tuple = _
      rw [PL.toDs_ints]; rfl
    simp only [toDs, h1, h2]
    rfl
theorem toDs_O : ∀ l : List (Option Cf), toDs (l.map optP) = some (l.map dO)
  | [] => rfl
  | o :: l => by
    show (match toD (optP o), toDs (l.map optP) with | some d, some ds => some (d :: ds) | _, _ => none) = _
    rw [toD_O, toDs_O l]
    rfl
theorem dep_I : ∀ l : List Int, PyData.depthAll (l.map PyData.int) ≤ 0
  | [] => Nat.le_refl _
  | x :: l => by
    show max 0 (PyData.depthAll (l.map PyData.int)) ≤ 0
    exact Nat.max_le.mpr ⟨Nat.le_refl _, dep_I l⟩
theorem dep_O : ∀ l : List (Option Cf), PyData.depthAll (l.map dO) ≤ 2
  | [] => Nat.zero_le _
  | o :: l => by
    show max (dO o).depth (PyData.depthAll (l.map dO)) ≤ 2
    refine Nat.max_le.mpr ⟨?_, dep_O l⟩
    cases o with
    | none => exact Nat.zero_le _
    | some c =>
      have h1 := dep_I c.l
      have h2 := dep_I c.r
      show max 0 (max (PyData.depthAll (c.l.map PyData.int) + 1) (max 0 (max (PyData.depthAll (c.r.map PyData.int) + 1) 0))) + 1 ≤ 2
      omega
theorem any_O (l : List (Option Cf)) : ((l.map dO).any fun x => PyData.eqv x .none) = l.any Option.isNone := by
  induction l with
  | nil => rfl
  | cons o l ih =>
    rw [List.map_cons, List.any_cons, ih, List.any_cons]
    cases o with
    | none => rfl
    | some c => rfl
theorem w_inO {l : List (Option Cf)} {M : Mem} {Q : PQ} (q : Q (.bl (l.any Option.isNone)) M) : oInL .non (.lst (l.map optP)) M Q := by
  refine need_by (a := PyData.none) rfl (need_by (a := PyData.list (l.map dO)) (by show (toDs (l.map optP)).map PyData.list = _; rw [toDs_O]; rfl) ⟨by decide, ?_, l.map dO, rfl, ?_⟩)
  · show PyData.depthAll (l.map dO) + 1 ≤ 64
    have := dep_O l
    omega
  · rw [any_O]
    exact q
theorem law13 {Γ : Ctx} {m s : Int} {rows : List TRow} (hM : Mach m s rows) (hpr : prodF m s ≤ 40000) {c : Cf} (co : CfOk m s c) (hcl : c.l.length ≤ 3) (hcr : c.r.length ≤ 3) {ds : List Int} (hld : ds.length = 12) {L : List T3} (hL : inL (szF m s) L) (hn : L.length ≤ 100)
    {x0 x4 x7 x8 x9 x10 : Option PV} {dn db dc : PNx} {M : Mem} {Q : PQ} {E : PXK} (q : ∀ M', Q (.bl true) M') :
    r_law_13 Γ (PEnds.mk dn Q E db dc) [x0, some (tapeP Γ m s rows), some (flyP Γ m s rows), some (cfP c), x4, some (.lst (ds.map .int)), some (lP L), x7, x8, x9, x10] M := by
  unfold r_law_13
  walk_at "hd"
  refine ⟨m, s, rows, L, rfl, hM, hpr, hL, hn, ?_⟩
  walk_at "hd"
  unfold r_law_14
  walk_at "hd"
  refine w_inO ?_
  cases hb : (pastsF m s rows L).any Option.isNone with
  | true =>
    have h : none ∈ pastsF m s rows L := by
      obtain ⟨o, ho, e⟩ := List.any_eq_true.mp hb
      cases o with
      | none => exact ho
      | some c => cases e
    walk_at "hd"
    refine ⟨m, s, rows, L, rfl, hM, hpr, hL, hn, fun h' => absurd h h', fun _ M' => ?_⟩
    walk_at "hd"
    rw [decide_eq_true rfl]
    exact q _
  | false =>
    have h : none ∉ pastsF m s rows L := fun ho => by
      rw [List.any_eq_false] at hb
      exact hb none ho rfl
    walk_at "hd"
    unfold r_law_15
    walk_at "hd"
    refine ⟨m, s, rows, L, rfl, hM, hpr, hL, hn, fun _ M' => ?_, fun h' => absurd h' h⟩
    walk_at "hd"
    exact w_eqSelf ((sd_opts _).mono (by decide)) (q _)
theorem law11 {Γ : Ctx} {m s : Int} {rows : List TRow} (hM : Mach m s rows) (hpr : prodF m s ≤ 40000) {c : Cf} (co : CfOk m s c) (hcl : c.l.length ≤ 3) (hcr : c.r.length ≤ 3) {ds : List Int} (hld : ds.length = 12) {L : List T3} (hL : inL (szF m s) L) (hn : L.length ≤ 100)
    {x0 x4 x7 x8 x9 x10 : Option PV} {dn db dc : PNx} {M : Mem} {Q : PQ} {E : PXK} (q : ∀ M', Q (.bl true) M') :
    r_law_11 Γ (PEnds.mk dn Q E db dc) [x0, some (tapeP Γ m s rows), some (flyP Γ m s rows), some (cfP c), x4, some (.lst (ds.map .int)), some (lP L), x7, x8, x9, x10] M := by
  unfold r_law_11 lP
  walk_at "hd"
  rw [List.length_map]
  walk_at "hd"
  rw [Int.toNat_natCast]
  unfold rngP
  refine ⟨line_lt (by rw [List.length_map, List.length_range]; omega), lcf_map (fun (i : Nat) => PV.int (0 + (i : Int))) (fun i => !decide (((L[i]?).getD q0) = q0)) (fun (i : Nat) => PV.int (i : Int)) _ [] (fun i hi => ⟨fun R hR => ?_, fun _ R hR => ?_⟩) ?_⟩
  · have hi2 := List.mem_range.mp hi
    walk_at "hd"
    rw [Int.zero_add]
    refine w_ixT (atT (List.getElem?_eq_getElem hi2)) ?_
    walk_at "hd"
    refine w_neT (t := q0) ?_
    walk_at "hd"
    rw [List.getElem?_eq_getElem hi2] at hR
    exact hR
  · walk_at "hd"
    rw [Int.zero_add]
    exact hR
  rw [List.nil_append]
  generalize (List.range L.length).filter (fun i => !decide (((L[i]?).getD q0) = q0)) = sm
  walk_at "hd"
  unfold r_law_12
  walk_at "hd"
  rw [List.length_map]
  rcases sm with _ | ⟨a0, sr⟩
  · rw [if_neg (show ¬ (0 : Int) < (((([] : List Nat).length : Nat) : Int)) by decide)]
    walk_at "hd"
    exact law13 hM hpr co hcl hcr hld hL hn q
  rw [if_pos (by simp only [List.length_cons]; omega)]
  walk_at "hd"
  obtain ⟨b0, hb0⟩ : ∃ b0 : Nat, L2.atI ((a0 :: sr).map fun (i : Nat) => PV.int (i : Int)) (-1) = some (.int (b0 : Int)) := by
    have hne : (a0 :: sr).map (fun (i : Nat) => PV.int (i : Int)) ≠ [] := by simp
    rw [at_last _ hne, List.getLast?_map]
    have hg : (a0 :: sr).getLast? = some ((a0 :: sr).getLast (by simp)) := List.getLast?_eq_some_getLast (by simp)
    rw [hg]
    exact ⟨_, rfl⟩
  refine w_ixL (x := .int (a0 : Int)) (by rw [at_pos _ (by omega)]; rfl) ?_
  walk_at "hd"
  refine w_ixL hb0 ?_
  walk_at "hd"
  rw [cutA_map]
  have hcm : inL (szF m s) (cutA L (some (a0 : Int)) (some ((b0 : Int) + 1))) := fun t ht => hL t (cut_mem ht)
  have hcn := cut_len L (some (a0 : Int)) (some ((b0 : Int) + 1))
  generalize cutA L (some (a0 : Int)) (some ((b0 : Int) + 1)) = K2 at *
  exact law13 hM hpr co hcl hcr hld hcm (Nat.le_trans hcn hn) q
theorem law9 {Γ : Ctx} {m s : Int} {rows : List TRow} (hM : Mach m s rows) (hpr : prodF m s ≤ 40000) {c : Cf} (co : CfOk m s c) (hcl : c.l.length ≤ 3) (hcr : c.r.length ≤ 3) {ds : List Int} (hld : ds.length = 12) {L : List T3} (hL : inL (szF m s) L) (hn : L.length ≤ 20)
    {x0 x4 x7 x8 x9 x10 : Option PV} {dn db dc : PNx} {M : Mem} {Q : PQ} {E : PXK} (q : ∀ M', Q (.bl true) M') :
    r_law_9 Γ (PEnds.mk dn Q E db dc) [x0, some (tapeP Γ m s rows), some (flyP Γ m s rows), some (cfP c), x4, some (.lst (ds.map .int)), some (lP L), x7, x8, x9, x10] M := by
  have bx := szF_box hM.m2 hM.s1 hpr
  have fo := full_ok (prF_ok hM)
  have hln := ln_len m c.q ⟨c.l, c.a, c.r⟩
  have hln2 : (lnL m c.q ⟨c.l, c.a, c.r⟩).length ≤ 7 := by rw [hln]; show c.l.length + 1 + c.r.length ≤ 7; omega
  have hin := ln_inF hM.m2 hM.s1 co
  have hm8 := hM.m8; have hm2 := hM.m2
  have rest : ∀ {L' : List T3} {M2 : Mem}, inL (szF m s) L' → L'.length ≤ 40 → r_law_10 Γ (PEnds.mk dn Q E db dc) [x0, some (tapeP Γ m s rows), some (flyP Γ m s rows), some (cfP c), x4, some (.lst (ds.map .int)), some (lP L'), x7, x8, x9, x10] M2 := by
    intro L' M2 hL' hn'
    unfold r_law_10
    walk_at "hd"
    refine w_ixL (at_Ik (n := 9) rfl (by omega)) ?_
    walk_at "hd"
    by_cases h2 : ds[9] % 4 = 2
    · rw [if_pos h2]
      walk_at "hd"
      refine ⟨m, s, rows, c, rfl, by omega, by omega, by omega, ?_⟩
      dsimp only
      refine w_addT (by omega) ?_
      refine law11 hM hpr co hcl hcr hld (fun t ht => ?_) (by rw [List.length_append]; omega) q
      rcases List.mem_append.mp ht with h | h
      · exact hL' t h
      · exact hin t h
    · rw [if_neg h2]
      walk_at "hd"
      exact law11 hM hpr co hcl hcr hld hL' (by omega) q
  unfold r_law_9
  walk_at "hd"
  refine w_ixL (at_Ik (n := 9) rfl (by omega)) ?_
  walk_at "hd"
  by_cases h1 : ds[9] % 4 = 1
  · rw [if_pos h1]
    rw [show flyP Γ m s rows = .obj Γ.FlyStair (flyF Γ m s rows) from rfl]
    walk_at "hd"
    rw [show partsP Γ (szF m s) (full (szF m s) (prF m s rows)) = .obj Γ.Parts (partsF (szF m s) (full (szF m s) (prF m s rows))) from rfl]
    walk_at "hd"
    refine w_ixL (at_Ik (n := 10) rfl (by omega)) ?_
    walk_at "hd"
    obtain ⟨v, hv, hv4⟩ : ∃ v : Nat, (1 : Int) + ds[10] % 4 = (v : Int) ∧ v ≤ 4 := by
      have e1 := Int.emod_nonneg ds[10] (b := 4) (by decide)
      have e2 := Int.emod_lt_of_pos ds[10] (b := 4) (by decide)
      exact ⟨(1 + ds[10] % 4).toNat, (Int.toNat_of_nonneg (by omega)).symm, by omega⟩
    rw [hv]
    show sp_Parts_run Γ [partsP Γ (szF m s) (full (szF m s) (prF m s rows)), lP L, .int (v : Int)] _ _ _
    refine ⟨szF m s, (full (szF m s) (prF m s rows)), L, v, rfl, fo, bx, hL, by omega, ?_⟩
    have g1 : inL (szF m s) (iterN (stepL (full (szF m s) (prF m s rows))) v L) := inL_iter (fun X hX => inL_strip (inL_grow bx fo hX)) v hL
    have g2 : (iterN (stepL (full (szF m s) (prF m s rows))) v L).length ≤ L.length + 2 * v := len_iter (fun X => Nat.le_trans (strip_len _) (Nat.le_of_eq (len_grow (full (szF m s) (prF m s rows)) X))) v L
    exact rest g1 (by omega)
  · rw [if_neg h1]
    walk_at "hd"
    exact rest hL (by omega)
theorem law7 {Γ : Ctx} {m s : Int} {rows : List TRow} (hM : Mach m s rows) (hpr : prodF m s ≤ 40000) {c : Cf} (co : CfOk m s c) (hcl : c.l.length ≤ 3) (hcr : c.r.length ≤ 3) {ds : List Int} (hld : ds.length = 12) {L : List T3} (hL : inL (szF m s) L) (hn : L.length ≤ 20)
    {x0 x4 x7 x8 x9 x10 : Option PV} {dn db dc : PNx} {M : Mem} {Q : PQ} {E : PXK} (q : ∀ M', Q (.bl true) M') :
    r_law_7 Γ (PEnds.mk dn Q E db dc) [x0, some (tapeP Γ m s rows), some (flyP Γ m s rows), some (cfP c), x4, some (.lst (ds.map .int)), some (lP L), x7, x8, x9, x10] M := by
  unfold r_law_7 lP
  walk_at "hd"
  rw [List.length_map]
  walk_at "hd"
  rw [Int.toNat_natCast]
  unfold rngP
  refine ⟨line_lt (by rw [List.length_map, List.length_range]; omega), lcf_map (fun (i : Nat) => PV.int (0 + (i : Int))) (fun i => !decide (((L[i]?).getD q0) = q0)) (fun (i : Nat) => PV.int (i : Int)) _ [] (fun i hi => ⟨fun R hR => ?_, fun _ R hR => ?_⟩) ?_⟩
  · have hi2 := List.mem_range.mp hi
    walk_at "hd"
    rw [Int.zero_add]
    refine w_ixT (atT (List.getElem?_eq_getElem hi2)) ?_
    walk_at "hd"
    refine w_neT (t := q0) ?_
    walk_at "hd"
    rw [List.getElem?_eq_getElem hi2] at hR
    exact hR
  · walk_at "hd"
    rw [Int.zero_add]
    exact hR
  rw [List.nil_append]
  generalize (List.range L.length).filter (fun i => !decide (((L[i]?).getD q0) = q0)) = sm
  walk_at "hd"
  unfold r_law_8
  walk_at "hd"
  rw [List.length_map]
  rcases sm with _ | ⟨a0, sr⟩
  · rw [if_neg (show ¬ (0 : Int) < (((([] : List Nat).length : Nat) : Int)) by decide)]
    walk_at "hd"
    exact law9 hM hpr co hcl hcr hld hL hn q
  rw [if_pos (by simp only [List.length_cons]; omega)]
  walk_at "hd"
  obtain ⟨b0, hb0⟩ : ∃ b0 : Nat, L2.atI ((a0 :: sr).map fun (i : Nat) => PV.int (i : Int)) (-1) = some (.int (b0 : Int)) := by
    have hne : (a0 :: sr).map (fun (i : Nat) => PV.int (i : Int)) ≠ [] := by simp
    rw [at_last _ hne, List.getLast?_map]
    have hg : (a0 :: sr).getLast? = some ((a0 :: sr).getLast (by simp)) := List.getLast?_eq_some_getLast (by simp)
    rw [hg]
    exact ⟨_, rfl⟩
  refine w_ixL (x := .int (a0 : Int)) (by rw [at_pos _ (by omega)]; rfl) ?_
  walk_at "hd"
  refine w_ixL hb0 ?_
  walk_at "hd"
  rw [cutA_map]
  have hcm : inL (szF m s) (cutA L (some (a0 : Int)) (some ((b0 : Int) + 1))) := fun t ht => hL t (cut_mem ht)
  have hcn := cut_len L (some (a0 : Int)) (some ((b0 : Int) + 1))
  generalize cutA L (some (a0 : Int)) (some ((b0 : Int) + 1)) = K2 at *
  exact law9 hM hpr co hcl hcr hld hcm (Nat.le_trans hcn hn) q
set_option maxHeartbeats 2000000 in
theorem k_law (Γ : Ctx) : Keeps (t_law Γ) 1 11 (sp_law Γ) := by
  rintro xs M Q E hl ⟨zs, rfl, hz, q⟩
  walk_at "st"
  unfold t_law
  walk_at "hd"
  refine ⟨zs, 0, rfl, hz, fun c0 => ?_⟩
  walk_at "hd"
  refine ⟨c0, 16, 200, rfl, by decide, ⟨by decide, by decide⟩, fun ns hln hns => ?_⟩
  walk_at "hd"
  refine ⟨ns, 3, rfl, by omega, by rw [hln]; decide, fun d h => (hns d h).1, ⟨by decide, by decide⟩, fun m s rows M1 hm hs hM => ?_⟩
  have hm2 := hM.m2; have hm8 := hM.m8; have hs1 := hM.s1; have hs40 := hM.s40
  have hsm : 1 * 2 ≤ s * m := Int.mul_le_mul hs1 hm2 (by omega) (by omega)
  have hpr : prodF m s ≤ 40000 := by
    unfold prodF
    have a1 : s * m ≤ 3 * 3 := Int.mul_le_mul hs hm.2 (by omega) (by omega)
    have a2 : (s + 1) * (s * m + 1) ≤ 4 * 10 := Int.mul_le_mul (by omega) (by omega) (by omega) (by omega)
    have a3 : 0 ≤ (s + 1) * (s * m + 1) := Int.mul_nonneg (by omega) (by omega)
    have b1 : m * (s + 1) ≤ 3 * 4 := Int.mul_le_mul (by omega) (by omega) (by omega) (by omega)
    have b0 : 0 ≤ m * (s + 1) := Int.mul_nonneg (by omega) (by omega)
    have a4 : (s + 1) * (s * m + 1) * (m * (s + 1)) ≤ 40 * 12 := Int.mul_le_mul a2 b1 b0 (by omega)
    have a5 : (s + 1) * (s * m + 1) * (m * (s + 1)) * (s + 1) ≤ 480 * 4 := Int.mul_le_mul a4 (by omega) (by omega) (by omega)
    omega
  walk_at "hd"
  unfold r_law_1
  walk_at "hd"
  intro y hy
  refine ⟨y, m, s, rows, rfl, hM, put_same, .inr ⟨hpr, rfl, ?_⟩⟩
  rw [put_put]
  simp only [put_same, true_and]
  walk_at "hd"
  unfold r_law_2
  walk_at "hd"
  refine ⟨zs, 1, rfl, hz, fun c1 => ?_⟩
  walk_at "hd"
  refine ⟨m, s, rows, c1, rfl, hM, fun c co hcl hcr => ?_⟩
  walk_at "hd"
  unfold r_law_3
  rw [show tapeP Γ m s rows = .obj Γ.Tape (tapeF m s rows) from rfl]
  walk_at "hd"
  refine ⟨.inr ⟨by omega, by omega⟩, ?_⟩
  walk_at "hd"
  unfold r_law_4
  walk_at "hd"
  refine ⟨zs, 2, rfl, hz, fun c2 => ?_⟩
  walk_at "hd"
  refine ⟨c2, 12, 840, rfl, by decide, ⟨by decide, by decide⟩, fun ds hld hds => ?_⟩
  walk_at "hd"
  unfold r_law_5 lI
  walk_at "hd"
  refine w_ixL (at_Ik (n := 8) rfl (by omega)) ?_
  walk_at "hd"
  have d8 := Int.emod_nonneg ds[8] (b := 4) (by decide)
  have d8' := Int.emod_lt_of_pos ds[8] (b := 4) (by decide)
  generalize ds[8] % 4 = n8 at *
  unfold rngP
  refine ⟨line_lt (by rw [List.length_map, List.length_range]; omega), lc_mapF (fun (j : Nat) => PV.int (0 + (j : Int))) (fun (j : Nat) => tP ((((ds[j]?).getD 0) % (s * m + 1) * (if decide (((ds[j]?).getD 0) / 16 % 3 = 0) = true then (1 : Int) else 0), ((ds[j]?).getD 0) / 60 % m, 0) : T3)) _ [] (fun j hj R hR => ?_) ?_⟩
  · have hj2 := List.mem_range.mp hj
    have ej : (ds[j]?).getD 0 = ds[j]'(by omega) := by rw [List.getElem?_eq_getElem (by omega)]; rfl
    rw [ej] at hR
    have hat := at_Ik (ds := ds) (n := j) (i := 0 + (j : Int)) (by omega) (by omega)
    generalize ds[j]'(by omega) = v at *
    walk_at "hd"
    refine w_ixL hat ?_
    walk_at "hd"
    try (refine ⟨by omega, ?_⟩; walk_at "hd")
    refine w_ixL hat ?_
    walk_at "hd"
    refine w_intBi rfl ?_
    refine ⟨.inr ⟨by split <;> decide, by split <;> decide⟩, ?_⟩
    walk_at "hd"
    refine w_ixL hat ?_
    walk_at "hd"
    try (refine ⟨by omega, ?_⟩; walk_at "hd")
    exact hR
  rw [List.nil_append]
  walk_at "hd"
  unfold r_law_6
  walk_at "hd"
  have hin := ln_inF hM.m2 hM.s1 co
  have hln := ln_len m c.q ⟨c.l, c.a, c.r⟩
  have hln2 : (lnL m c.q ⟨c.l, c.a, c.r⟩).length ≤ 7 := by rw [hln]; show c.l.length + 1 + c.r.length ≤ 7; omega
  show sp_law_line Γ [tapeP Γ m s rows, cfP c] _ _ _
  refine ⟨m, s, rows, c, rfl, by omega, by omega, by omega, ?_⟩
  dsimp only
  obtain ⟨A, eA, hAl, hA0⟩ : ∃ A : List T3, ((List.range n8.toNat).map fun (j : Nat) => tP ((((ds[j]?).getD 0) % (s * m + 1) * (if decide (((ds[j]?).getD 0) / 16 % 3 = 0) = true then (1 : Int) else 0), ((ds[j]?).getD 0) / 60 % m, 0) : T3)) = A.map tP ∧ A.length ≤ 3 ∧ inL (szF m s) A := by
    refine ⟨(List.range n8.toNat).map fun (j : Nat) => ((((ds[j]?).getD 0) % (s * m + 1) * (if decide (((ds[j]?).getD 0) / 16 % 3 = 0) = true then (1 : Int) else 0), ((ds[j]?).getD 0) / 60 % m, 0) : T3), by rw [List.map_map]; rfl, by rw [List.length_map, List.length_range]; omega, fun t ht => ?_⟩
    obtain ⟨j, _, rfl⟩ := List.mem_map.mp ht
    obtain ⟨z1, z2, z3⟩ := szF_ints hm2 hs1
    have ha1 : 1 * (s * m + 1) ≤ (s + 1) * (s * m + 1) := Int.mul_le_mul_of_nonneg_right (by omega) (by omega)
    have hb1 : m * 1 ≤ m * (s + 1) := Int.mul_le_mul_of_nonneg_left (by omega) (by omega)
    generalize (ds[j]?).getD 0 = v
    have e1 := Int.emod_nonneg v (b := s * m + 1) (by omega)
    have e2 := Int.emod_lt_of_pos v (b := s * m + 1) (by omega)
    have e3 := Int.emod_nonneg (v / 60) (b := m) (by omega)
    have e4 := Int.emod_lt_of_pos (v / 60) (b := m) (by omega)
    unfold inZ
    dsimp only
    rw [z1, z2, z3]
    split
    · rw [Int.mul_one]
      omega
    · rw [Int.mul_zero]
      omega
  rw [eA]
  refine w_addT (by omega) ?_
  refine law7 hM hpr co hcl hcr hld (fun t ht => ?_) (by rw [List.length_append]; omega) q
  rcases List.mem_append.mp ht with h | h
  · exact hA0 t h
  · exact hin t h
end My
set_option Elab.async false
set_option linter.all false
set_option maxRecDepth 100000
namespace My
open PySem PySem.Spec PyProof.Rows L2 PL
set_option maxHeartbeats 2000000
open TM
theorem rall_ints {K : PySem.W.Frag} {F : Hp} : ∀ ns : List Int, RAll K F (ns.map PV.int) (ns.map V.int)
  | [] => .nil
  | n :: r => .cons (.int n) (rall_ints r)
theorem top_law {K : PySem.W.Frag} {H : Hp} {a : Addr} {ns : List Int} (hl : ns.length ≤ 63) (hS : SqL K H a (ns.map V.int)) : lift K 1 sp_top [V.ref a] H (fun v _ => v = V.bl true) fun _ _ _ => False := by
  refine lift_of rfl (F := H) (M := fun _ => none) (xs := [.scr (ns.map .int)]) (Qp := fun x _ => x = .bl true) (Ep := fun _ _ _ => False) ⟨fun _ _ e => e, fun _ h => absurd rfl h, fun _ _ h => nomatch h⟩ (.cons (.scr hS (rall_ints ns)) .nil) ⟨ns, rfl, hl, fun _ => rfl⟩ ?_ ?_
  · rintro v H' ⟨F', M', x, _, r, rfl⟩
    cases r
    rfl
  · rintro cls d H' ⟨_, _, _, _, _, _, _, z⟩
    exact z
theorem top_cx {P : Program} {w : World} {H : Hp} {s s' : Shared} {e : Value} (z : L2.CX P w [] H s (fun _ _ _ => False) e s') : False := by
  obtain ⟨_, _, _, _, _, _, _, _, _, _, _, _, z⟩ := z
  exact z
section
variable {P : Program} {w : World} {K : PySem.W.Frag} {mg : Str → Option Value} {base : Heap} {Γ : Ctx}
theorem ok_is_whole {f : Addr} {fd : FuncData} (F : Fun K (PySem.Str.ofString "is_whole") "is_whole" s_is_whole f fd) (T : Txt K mg Γ)  : FnOk P w K mg base (L2.CX P w) 1 f fd ["value"] (lift K 1 (sp_is_whole Γ)) :=
  Fn.ok F sc_is_whole rfl fun cdv A outer s H E hr => ⟨_, d_is_whole T  hr, k_is_whole Γ⟩
theorem ok_is_number {f : Addr} {fd : FuncData} (F : Fun K (PySem.Str.ofString "is_number") "is_number" s_is_number f fd) (T : Txt K mg Γ) (G_is_whole : GFn P w K mg base (PySem.Str.ofString "is_whole") 1 ["value"] (sp_is_whole Γ)) : FnOk P w K mg base (L2.CX P w) 2 f fd ["value", "low", "high"] (lift K 3 (sp_is_number Γ)) :=
  Fn.ok F sc_is_number rfl fun cdv A outer s H E hr => ⟨_, d_is_number T G_is_whole hr, k_is_number Γ⟩
theorem ok_is_row {f : Addr} {fd : FuncData} (F : Fun K (PySem.Str.ofString "is_row") "is_row" s_is_row f fd) (T : Txt K mg Γ) (G_is_number : GFn P w K mg base (PySem.Str.ofString "is_number") 2 ["value", "low", "high"] (sp_is_number Γ)) : FnOk P w K mg base (L2.CX P w) 3 f fd ["row", "marks", "states"] (lift K 3 (sp_is_row Γ)) :=
  Fn.ok F sc_is_row rfl fun cdv A outer s H E hr => ⟨_, d_is_row T G_is_number hr, k_is_row Γ⟩
theorem ok_Tape_init {f : Addr} {fd : FuncData} (F : Fun K (PySem.Str.ofString "__init__") "Tape.__init__" s_Tape_init f fd) (T : Txt K mg Γ) (G_is_number : GFn P w K mg base (PySem.Str.ofString "is_number") 2 ["value", "low", "high"] (sp_is_number Γ)) (G_is_row : GFn P w K mg base (PySem.Str.ofString "is_row") 3 ["row", "marks", "states"] (sp_is_row Γ)) : FnOk P w K mg base (L2.CX P w) 4 f fd ["self", "marks", "states", "rows"] (lift K 4 (sp_Tape_init Γ)) :=
  Fn.ok F sc_Tape_init rfl fun cdv A outer s H E hr => ⟨_, d_Tape_init T G_is_number G_is_row hr, k_Tape_init Γ⟩
theorem ok_law_tape {f : Addr} {fd : FuncData} (F : Fun K (PySem.Str.ofString "_law_tape") "_law_tape" s_law_tape f fd) (T : Txt K mg Γ) (G_Tape_init : GMk P w K mg base (PySem.Str.ofString "Tape") Γ.Tape 4 ["self", "marks", "states", "rows"] (sp_Tape_init Γ)) : FnOk P w K mg base (L2.CX P w) 6 f fd ["numbers", "most_states"] (lift K 2 (sp_law_tape Γ)) :=
  Fn.ok F sc_law_tape rfl fun cdv A outer s H E hr => ⟨_, d_law_tape T G_Tape_init hr, k_law_tape Γ⟩
theorem ok_all_triples {f : Addr} {fd : FuncData} (F : Fun K (PySem.Str.ofString "all_triples") "all_triples" s_all_triples f fd) (T : Txt K mg Γ)  : FnOk P w K mg base (L2.CX P w) 1 f fd ["sizes"] (lift K 1 (sp_all_triples Γ)) :=
  Fn.ok F sc_all_triples rfl fun cdv A outer s H E hr => ⟨_, d_all_triples T  hr, k_all_triples Γ⟩
theorem ok_whole_rule {f : Addr} {fd : FuncData} (F : Fun K (PySem.Str.ofString "whole_rule") "whole_rule" s_whole_rule f fd) (T : Txt K mg Γ) (G_all_triples : GFn P w K mg base (PySem.Str.ofString "all_triples") 1 ["sizes"] (sp_all_triples Γ)) : FnOk P w K mg base (L2.CX P w) 2 f fd ["sizes", "changes"] (lift K 2 (sp_whole_rule Γ)) :=
  Fn.ok F sc_whole_rule rfl fun cdv A outer s H E hr => ⟨_, d_whole_rule T G_all_triples hr, k_whole_rule Γ⟩
theorem ok_are_numbers {f : Addr} {fd : FuncData} (F : Fun K (PySem.Str.ofString "are_numbers") "are_numbers" s_are_numbers f fd) (T : Txt K mg Γ) (G_is_number : GFn P w K mg base (PySem.Str.ofString "is_number") 2 ["value", "low", "high"] (sp_is_number Γ)) : FnOk P w K mg base (L2.CX P w) 3 f fd ["value", "low", "high"] (lift K 3 (sp_are_numbers Γ)) :=
  Fn.ok F sc_are_numbers rfl fun cdv A outer s H E hr => ⟨_, d_are_numbers T G_is_number hr, k_are_numbers Γ⟩
theorem ok_is_sizes {f : Addr} {fd : FuncData} (F : Fun K (PySem.Str.ofString "is_sizes") "is_sizes" s_is_sizes f fd) (T : Txt K mg Γ) (G_are_numbers : GFn P w K mg base (PySem.Str.ofString "are_numbers") 3 ["value", "low", "high"] (sp_are_numbers Γ)) : FnOk P w K mg base (L2.CX P w) 4 f fd ["value"] (lift K 1 (sp_is_sizes Γ)) :=
  Fn.ok F sc_is_sizes rfl fun cdv A outer s H E hr => ⟨_, d_is_sizes T G_are_numbers hr, k_is_sizes Γ⟩
theorem ok_is_triple {f : Addr} {fd : FuncData} (F : Fun K (PySem.Str.ofString "is_triple") "is_triple" s_is_triple f fd) (T : Txt K mg Γ) (G_is_number : GFn P w K mg base (PySem.Str.ofString "is_number") 2 ["value", "low", "high"] (sp_is_number Γ)) : FnOk P w K mg base (L2.CX P w) 3 f fd ["value", "sizes"] (lift K 2 (sp_is_triple Γ)) :=
  Fn.ok F sc_is_triple rfl fun cdv A outer s H E hr => ⟨_, d_is_triple T G_is_number hr, k_is_triple Γ⟩
theorem ok_Parts_init {f : Addr} {fd : FuncData} (F : Fun K (PySem.Str.ofString "__init__") "Parts.__init__" s_Parts_init f fd) (T : Txt K mg Γ) (G_whole_rule : GFn P w K mg base (PySem.Str.ofString "whole_rule") 2 ["sizes", "changes"] (sp_whole_rule Γ)) (G_is_sizes : GFn P w K mg base (PySem.Str.ofString "is_sizes") 4 ["value"] (sp_is_sizes Γ)) (G_is_triple : GFn P w K mg base (PySem.Str.ofString "is_triple") 3 ["value", "sizes"] (sp_is_triple Γ)) : FnOk P w K mg base (L2.CX P w) 5 f fd ["self", "sizes", "changes"] (lift K 3 (sp_Parts_init Γ)) :=
  Fn.ok F sc_Parts_init rfl fun cdv A outer s H E hr => ⟨_, d_Parts_init T G_whole_rule G_is_sizes G_is_triple hr, k_Parts_init Γ⟩
theorem ok_many_memories {f : Addr} {fd : FuncData} (F : Fun K (PySem.Str.ofString "many_memories") "many_memories" s_many_memories f fd) (T : Txt K mg Γ)  : FnOk P w K mg base (L2.CX P w) 1 f fd ["machine"] (lift K 1 (sp_many_memories Γ)) :=
  Fn.ok F sc_many_memories rfl fun cdv A outer s H E hr => ⟨_, d_many_memories T  hr, k_many_memories Γ⟩
theorem ok_headed {f : Addr} {fd : FuncData} (F : Fun K (PySem.Str.ofString "headed") "headed" s_headed f fd) (T : Txt K mg Γ)  : FnOk P w K mg base (L2.CX P w) 1 f fd ["marks", "state", "mark"] (lift K 3 (sp_headed Γ)) :=
  Fn.ok F sc_headed rfl fun cdv A outer s H E hr => ⟨_, d_headed T  hr, k_headed Γ⟩
theorem ok_quiet_changes {f : Addr} {fd : FuncData} (F : Fun K (PySem.Str.ofString "quiet_changes") "quiet_changes" s_quiet_changes f fd) (T : Txt K mg Γ) (G_many_memories : GFn P w K mg base (PySem.Str.ofString "many_memories") 1 ["machine"] (sp_many_memories Γ)) (G_headed : GFn P w K mg base (PySem.Str.ofString "headed") 1 ["marks", "state", "mark"] (sp_headed Γ)) : FnOk P w K mg base (L2.CX P w) 2 f fd ["machine"] (lift K 1 (sp_quiet_changes Γ)) :=
  Fn.ok F sc_quiet_changes rfl fun cdv A outer s H E hr => ⟨_, d_quiet_changes T G_many_memories G_headed hr, k_quiet_changes Γ⟩
theorem ok_Tape_row {f : Addr} {fd : FuncData} (F : Fun K (PySem.Str.ofString "row") "Tape.row" s_Tape_row f fd) (T : Txt K mg Γ) (G_is_number : GFn P w K mg base (PySem.Str.ofString "is_number") 2 ["value", "low", "high"] (sp_is_number Γ)) : FnOk P w K mg base (L2.CX P w) 3 f fd ["self", "state", "mark"] (lift K 3 (sp_Tape_row Γ)) :=
  Fn.ok F sc_Tape_row rfl fun cdv A outer s H E hr => ⟨_, d_Tape_row T G_is_number hr, k_Tape_row Γ⟩
theorem ok_memory_of {f : Addr} {fd : FuncData} (F : Fun K (PySem.Str.ofString "memory_of") "memory_of" s_memory_of f fd) (T : Txt K mg Γ)  : FnOk P w K mg base (L2.CX P w) 1 f fd ["marks", "state", "mark"] (lift K 3 (sp_memory_of Γ)) :=
  Fn.ok F sc_memory_of rfl fun cdv A outer s H E hr => ⟨_, d_memory_of T  hr, k_memory_of Γ⟩
theorem ok_row_changes {f : Addr} {fd : FuncData} (F : Fun K (PySem.Str.ofString "row_changes") "row_changes" s_row_changes f fd) (T : Txt K mg Γ) (G_Tape_row : GMt P w K mg base Γ.Tape (PySem.Str.ofString "row") 3 ["self", "state", "mark"] (sp_Tape_row Γ)) (G_memory_of : GFn P w K mg base (PySem.Str.ofString "memory_of") 1 ["marks", "state", "mark"] (sp_memory_of Γ)) (G_headed : GFn P w K mg base (PySem.Str.ofString "headed") 1 ["marks", "state", "mark"] (sp_headed Γ)) (G_many_memories : GFn P w K mg base (PySem.Str.ofString "many_memories") 1 ["machine"] (sp_many_memories Γ)) : FnOk P w K mg base (L2.CX P w) 4 f fd ["machine", "state", "mark"] (lift K 3 (sp_row_changes Γ)) :=
  Fn.ok F sc_row_changes rfl fun cdv A outer s H E hr => ⟨_, d_row_changes T G_Tape_row G_memory_of G_headed G_many_memories hr, k_row_changes Γ⟩
theorem ok_line_changes {f : Addr} {fd : FuncData} (F : Fun K (PySem.Str.ofString "line_changes") "line_changes" s_line_changes f fd) (T : Txt K mg Γ) (G_quiet_changes : GFn P w K mg base (PySem.Str.ofString "quiet_changes") 2 ["machine"] (sp_quiet_changes Γ)) (G_row_changes : GFn P w K mg base (PySem.Str.ofString "row_changes") 4 ["machine", "state", "mark"] (sp_row_changes Γ)) : FnOk P w K mg base (L2.CX P w) 5 f fd ["machine"] (lift K 1 (sp_line_changes Γ)) :=
  Fn.ok F sc_line_changes rfl fun cdv A outer s H E hr => ⟨_, d_line_changes T G_quiet_changes G_row_changes hr, k_line_changes Γ⟩
theorem ok_FlyStair_init {f : Addr} {fd : FuncData} (F : Fun K (PySem.Str.ofString "__init__") "FlyStair.__init__" s_FlyStair_init f fd) (T : Txt K mg Γ) (G_Parts_init : GMk P w K mg base (PySem.Str.ofString "Parts") Γ.Parts 5 ["self", "sizes", "changes"] (sp_Parts_init Γ)) (G_is_sizes : GFn P w K mg base (PySem.Str.ofString "is_sizes") 4 ["value"] (sp_is_sizes Γ)) (G_line_changes : GFn P w K mg base (PySem.Str.ofString "line_changes") 5 ["machine"] (sp_line_changes Γ)) (G_many_memories : GFn P w K mg base (PySem.Str.ofString "many_memories") 1 ["machine"] (sp_many_memories Γ)) : FnOk P w K mg base (L2.CX P w) 7 f fd ["self", "machine"] (lift K 2 (sp_FlyStair_init Γ)) :=
  Fn.ok F sc_FlyStair_init rfl fun cdv A outer s H E hr => ⟨_, d_FlyStair_init T G_Parts_init G_is_sizes G_line_changes G_many_memories hr, k_FlyStair_init Γ⟩
theorem ok_law_mixed {f : Addr} {fd : FuncData} (F : Fun K (PySem.Str.ofString "_law_mixed") "_law_mixed" s_law_mixed f fd) (T : Txt K mg Γ)  : FnOk P w K mg base (L2.CX P w) 1 f fd ["cell", "k"] (lift K 2 (sp_law_mixed Γ)) :=
  Fn.ok F sc_law_mixed rfl fun cdv A outer s H E hr => ⟨_, d_law_mixed T  hr, k_law_mixed Γ⟩
theorem ok_law_digits {f : Addr} {fd : FuncData} (F : Fun K (PySem.Str.ofString "_law_digits") "_law_digits" s_law_digits f fd) (T : Txt K mg Γ) (G_law_mixed : GFn P w K mg base (PySem.Str.ofString "_law_mixed") 1 ["cell", "k"] (sp_law_mixed Γ)) : FnOk P w K mg base (L2.CX P w) 2 f fd ["cell", "count", "many"] (lift K 3 (sp_law_digits Γ)) :=
  Fn.ok F sc_law_digits rfl fun cdv A outer s H E hr => ⟨_, d_law_digits T G_law_mixed hr, k_law_digits Γ⟩
theorem ok_law_trim {f : Addr} {fd : FuncData} (F : Fun K (PySem.Str.ofString "_law_trim") "_law_trim" s_law_trim f fd) (T : Txt K mg Γ)  : FnOk P w K mg base (L2.CX P w) 1 f fd ["row"] (lift K 1 (sp_law_trim Γ)) :=
  Fn.ok F sc_law_trim rfl fun cdv A outer s H E hr => ⟨_, d_law_trim T  hr, k_law_trim Γ⟩
theorem ok_law_upper {f : Addr} {fd : FuncData} (F : Fun K (PySem.Str.ofString "_law_upper") "_law_upper" s_law_upper f fd) (T : Txt K mg Γ) (G_law_digits : GFn P w K mg base (PySem.Str.ofString "_law_digits") 2 ["cell", "count", "many"] (sp_law_digits Γ)) (G_law_trim : GFn P w K mg base (PySem.Str.ofString "_law_trim") 1 ["row"] (sp_law_trim Γ)) : FnOk P w K mg base (L2.CX P w) 3 f fd ["machine", "cell"] (lift K 2 (sp_law_upper Γ)) :=
  Fn.ok F sc_law_upper rfl fun cdv A outer s H E hr => ⟨_, d_law_upper T G_law_digits G_law_trim hr, k_law_upper Γ⟩
theorem ok_head_place {f : Addr} {fd : FuncData} (F : Fun K (PySem.Str.ofString "head_place") "head_place" s_head_place f fd) (T : Txt K mg Γ)  : FnOk P w K mg base (L2.CX P w) 1 f fd ["marks", "line"] (lift K 2 (sp_head_place Γ)) :=
  Fn.ok F sc_head_place rfl fun cdv A outer s H E hr => ⟨_, d_head_place T  hr, k_head_place Γ⟩
theorem ok_trimmed {f : Addr} {fd : FuncData} (F : Fun K (PySem.Str.ofString "trimmed") "trimmed" s_trimmed f fd) (T : Txt K mg Γ)  : FnOk P w K mg base (L2.CX P w) 1 f fd ["marks"] (lift K 1 (sp_trimmed Γ)) :=
  Fn.ok F sc_trimmed rfl fun cdv A outer s H E hr => ⟨_, d_trimmed T  hr, k_trimmed Γ⟩
theorem ok_tape_at {f : Addr} {fd : FuncData} (F : Fun K (PySem.Str.ofString "tape_at") "tape_at" s_tape_at f fd) (T : Txt K mg Γ) (G_trimmed : GFn P w K mg base (PySem.Str.ofString "trimmed") 1 ["marks"] (sp_trimmed Γ)) : FnOk P w K mg base (L2.CX P w) 2 f fd ["marks", "line", "place"] (lift K 3 (sp_tape_at Γ)) :=
  Fn.ok F sc_tape_at rfl fun cdv A outer s H E hr => ⟨_, d_tape_at T G_trimmed hr, k_tape_at Γ⟩
theorem ok_FlyStair_up {f : Addr} {fd : FuncData} (F : Fun K (PySem.Str.ofString "up") "FlyStair.up" s_FlyStair_up f fd) (T : Txt K mg Γ) (G_head_place : GFn P w K mg base (PySem.Str.ofString "head_place") 1 ["marks", "line"] (sp_head_place Γ)) (G_tape_at : GFn P w K mg base (PySem.Str.ofString "tape_at") 2 ["marks", "line", "place"] (sp_tape_at Γ)) (G_many_memories : GFn P w K mg base (PySem.Str.ofString "many_memories") 1 ["machine"] (sp_many_memories Γ)) : FnOk P w K mg base (L2.CX P w) 3 f fd ["self", "configuration"] (lift K 2 (sp_FlyStair_up Γ)) :=
  Fn.ok F sc_FlyStair_up rfl fun cdv A outer s H E hr => ⟨_, d_FlyStair_up T G_head_place G_tape_at G_many_memories hr, k_FlyStair_up Γ⟩
theorem ok_FlyStair_memories {f : Addr} {fd : FuncData} (F : Fun K (PySem.Str.ofString "memories") "FlyStair.memories" s_FlyStair_memories f fd) (T : Txt K mg Γ) (G_many_memories : GFn P w K mg base (PySem.Str.ofString "many_memories") 1 ["machine"] (sp_many_memories Γ)) : FnOk P w K mg base (L2.CX P w) 2 f fd ["self", "configuration"] (lift K 2 (sp_FlyStair_memories Γ)) :=
  Fn.ok F sc_FlyStair_memories rfl fun cdv A outer s H E hr => ⟨_, d_FlyStair_memories T G_many_memories hr, k_FlyStair_memories Γ⟩
theorem ok_stripped {f : Addr} {fd : FuncData} (F : Fun K (PySem.Str.ofString "stripped") "stripped" s_stripped f fd) (T : Txt K mg Γ)  : FnOk P w K mg base (L2.CX P w) 1 f fd ["cells"] (lift K 1 (sp_stripped Γ)) :=
  Fn.ok F sc_stripped rfl fun cdv A outer s H E hr => ⟨_, d_stripped T  hr, k_stripped Γ⟩
theorem ok_gathered {f : Addr} {fd : FuncData} (F : Fun K (PySem.Str.ofString "gathered") "gathered" s_gathered f fd) (T : Txt K mg Γ)  : FnOk P w K mg base (L2.CX P w) 1 f fd ["line"] (lift K 1 (sp_gathered Γ)) :=
  Fn.ok F sc_gathered rfl fun cdv A outer s H E hr => ⟨_, d_gathered T  hr, k_gathered Γ⟩
theorem ok_Parts_back {f : Addr} {fd : FuncData} (F : Fun K (PySem.Str.ofString "back") "Parts.back" s_Parts_back f fd) (T : Txt K mg Γ) (G_stripped : GFn P w K mg base (PySem.Str.ofString "stripped") 1 ["cells"] (sp_stripped Γ)) (G_gathered : GFn P w K mg base (PySem.Str.ofString "gathered") 1 ["line"] (sp_gathered Γ)) : FnOk P w K mg base (L2.CX P w) 2 f fd ["self", "configuration"] (lift K 2 (sp_Parts_back Γ)) :=
  Fn.ok F sc_Parts_back rfl fun cdv A outer s H E hr => ⟨_, d_Parts_back T G_stripped G_gathered hr, k_Parts_back Γ⟩
theorem ok_Parts_run_back {f : Addr} {fd : FuncData} (F : Fun K (PySem.Str.ofString "run_back") "Parts.run_back" s_Parts_run_back f fd) (T : Txt K mg Γ) (G_Parts_back : GMt P w K mg base Γ.Parts (PySem.Str.ofString "back") 2 ["self", "configuration"] (sp_Parts_back Γ)) : FnOk P w K mg base (L2.CX P w) 3 f fd ["self", "configuration", "steps"] (lift K 3 (sp_Parts_run_back Γ)) :=
  Fn.ok F sc_Parts_run_back rfl fun cdv A outer s H E hr => ⟨_, d_Parts_run_back T G_Parts_back hr, k_Parts_run_back Γ⟩
theorem ok_law_past {f : Addr} {fd : FuncData} (F : Fun K (PySem.Str.ofString "_law_past") "_law_past" s_law_past f fd) (T : Txt K mg Γ) (G_FlyStair_up : GMt P w K mg base Γ.FlyStair (PySem.Str.ofString "up") 3 ["self", "configuration"] (sp_FlyStair_up Γ)) (G_FlyStair_memories : GMt P w K mg base Γ.FlyStair (PySem.Str.ofString "memories") 2 ["self", "configuration"] (sp_FlyStair_memories Γ)) (G_Parts_run_back : GMt P w K mg base Γ.Parts (PySem.Str.ofString "run_back") 3 ["self", "configuration", "steps"] (sp_Parts_run_back Γ)) : FnOk P w K mg base (L2.CX P w) 4 f fd ["stair", "line"] (lift K 2 (sp_law_past Γ)) :=
  Fn.ok F sc_law_past rfl fun cdv A outer s H E hr => ⟨_, d_law_past T G_FlyStair_up G_FlyStair_memories G_Parts_run_back hr, k_law_past Γ⟩
theorem ok_law_cell {f : Addr} {fd : FuncData} (F : Fun K (PySem.Str.ofString "_law_cell") "_law_cell" s_law_cell f fd) (T : Txt K mg Γ)  : FnOk P w K mg base (L2.CX P w) 1 f fd ["script", "k"] (lift K 2 (sp_law_cell Γ)) :=
  Fn.ok F sc_law_cell rfl fun cdv A outer s H E hr => ⟨_, d_law_cell T  hr, k_law_cell Γ⟩
theorem ok_law_line {f : Addr} {fd : FuncData} (F : Fun K (PySem.Str.ofString "_law_line") "_law_line" s_law_line f fd) (T : Txt K mg Γ)  : FnOk P w K mg base (L2.CX P w) 1 f fd ["machine", "configuration"] (lift K 2 (sp_law_line Γ)) :=
  Fn.ok F sc_law_line rfl fun cdv A outer s H E hr => ⟨_, d_law_line T  hr, k_law_line Γ⟩
theorem ok_Parts_step {f : Addr} {fd : FuncData} (F : Fun K (PySem.Str.ofString "step") "Parts.step" s_Parts_step f fd) (T : Txt K mg Γ) (G_stripped : GFn P w K mg base (PySem.Str.ofString "stripped") 1 ["cells"] (sp_stripped Γ)) (G_gathered : GFn P w K mg base (PySem.Str.ofString "gathered") 1 ["line"] (sp_gathered Γ)) : FnOk P w K mg base (L2.CX P w) 2 f fd ["self", "configuration"] (lift K 2 (sp_Parts_step Γ)) :=
  Fn.ok F sc_Parts_step rfl fun cdv A outer s H E hr => ⟨_, d_Parts_step T G_stripped G_gathered hr, k_Parts_step Γ⟩
theorem ok_Parts_run {f : Addr} {fd : FuncData} (F : Fun K (PySem.Str.ofString "run") "Parts.run" s_Parts_run f fd) (T : Txt K mg Γ) (G_Parts_step : GMt P w K mg base Γ.Parts (PySem.Str.ofString "step") 2 ["self", "configuration"] (sp_Parts_step Γ)) : FnOk P w K mg base (L2.CX P w) 3 f fd ["self", "configuration", "steps"] (lift K 3 (sp_Parts_run Γ)) :=
  Fn.ok F sc_Parts_run rfl fun cdv A outer s H E hr => ⟨_, d_Parts_run T G_Parts_step hr, k_Parts_run Γ⟩
theorem ok_past {f : Addr} {fd : FuncData} (F : Fun K (PySem.Str.ofString "past") "past" s_past f fd) (T : Txt K mg Γ) (G_FlyStair_up : GMt P w K mg base Γ.FlyStair (PySem.Str.ofString "up") 3 ["self", "configuration"] (sp_FlyStair_up Γ)) (G_Parts_run_back : GMt P w K mg base Γ.Parts (PySem.Str.ofString "run_back") 3 ["self", "configuration", "steps"] (sp_Parts_run_back Γ)) (G_FlyStair_memories : GMt P w K mg base Γ.FlyStair (PySem.Str.ofString "memories") 2 ["self", "configuration"] (sp_FlyStair_memories Γ)) : FnOk P w K mg base (L2.CX P w) 4 f fd ["stair", "line"] (lift K 2 (sp_past Γ)) :=
  Fn.ok F sc_past rfl fun cdv A outer s H E hr => ⟨_, d_past T G_FlyStair_up G_Parts_run_back G_FlyStair_memories hr, k_past Γ⟩
theorem ok_law_asked {f : Addr} {fd : FuncData} (F : Fun K (PySem.Str.ofString "_law_asked") "_law_asked" s_law_asked f fd) (T : Txt K mg Γ) (G_past : GFn P w K mg base (PySem.Str.ofString "past") 4 ["stair", "line"] (sp_past Γ)) : FnOk P w K mg base (L2.CX P w) 5 f fd ["stair", "line"] (lift K 2 (sp_law_asked Γ)) :=
  Fn.ok F sc_law_asked rfl fun cdv A outer s H E hr => ⟨_, d_law_asked T G_past hr, k_law_asked Γ⟩
theorem ok_law {f : Addr} {fd : FuncData} (F : Fun K (PySem.Str.ofString "law") "law" s_law f fd) (T : Txt K mg Γ) (G_law_tape : GFn P w K mg base (PySem.Str.ofString "_law_tape") 6 ["numbers", "most_states"] (sp_law_tape Γ)) (G_FlyStair_init : GMk P w K mg base (PySem.Str.ofString "FlyStair") Γ.FlyStair 7 ["self", "machine"] (sp_FlyStair_init Γ)) (G_law_upper : GFn P w K mg base (PySem.Str.ofString "_law_upper") 3 ["machine", "cell"] (sp_law_upper Γ)) (G_law_digits : GFn P w K mg base (PySem.Str.ofString "_law_digits") 2 ["cell", "count", "many"] (sp_law_digits Γ)) (G_law_past : GFn P w K mg base (PySem.Str.ofString "_law_past") 4 ["stair", "line"] (sp_law_past Γ)) (G_law_cell : GFn P w K mg base (PySem.Str.ofString "_law_cell") 1 ["script", "k"] (sp_law_cell Γ)) (G_law_line : GFn P w K mg base (PySem.Str.ofString "_law_line") 1 ["machine", "configuration"] (sp_law_line Γ)) (G_Parts_run : GMt P w K mg base Γ.Parts (PySem.Str.ofString "run") 3 ["self", "configuration", "steps"] (sp_Parts_run Γ)) (G_law_asked : GFn P w K mg base (PySem.Str.ofString "_law_asked") 5 ["stair", "line"] (sp_law_asked Γ)) : FnOk P w K mg base (L2.CX P w) 9 f fd ["script"] (lift K 1 (sp_law Γ)) :=
  Fn.ok F sc_law rfl fun cdv A outer s H E hr => ⟨_, d_law T G_law_tape G_FlyStair_init G_law_upper G_law_digits G_law_past G_law_cell G_law_line G_Parts_run G_law_asked hr, k_law Γ⟩
end
theorem all_mk {l : PySem.W.OpenLaw} {w : World} {K : PySem.W.Frag} {h : Heap} {mg : Str → Option Value} {fa f_is_whole f_is_number f_is_row f_Tape_init f_law_tape f_all_triples f_whole_rule f_are_numbers f_is_sizes f_is_triple f_Parts_init f_many_memories f_headed f_quiet_changes f_Tape_row f_memory_of f_row_changes f_line_changes f_FlyStair_init f_law_mixed f_law_digits f_law_trim f_law_upper f_head_place f_trimmed f_tape_at f_FlyStair_up f_FlyStair_memories f_stripped f_gathered f_Parts_back f_Parts_run_back f_law_past f_law_cell f_law_line f_Parts_step f_Parts_run f_past f_law_asked f_law C_Tape C_Parts C_FlyStair C_BackError C_BadMachine C_BadParts : Addr} (X : K.In h) (G : h.Ns mainGlobals mg) (hfa : mg "law" = some (.ref fa))
    {od_is_whole an_is_whole : Option Addr}
    {sl_is_whole : Array (Option Value)}
    {oc_is_whole kV_is_whole dc_is_whole pm_is_whole cd_is_whole ct_is_whole : Value}
    {od_is_number an_is_number : Option Addr}
    {sl_is_number : Array (Option Value)}
    {oc_is_number kV_is_number dc_is_number pm_is_number cd_is_number ct_is_number : Value}
    {od_is_row an_is_row : Option Addr}
    {sl_is_row : Array (Option Value)}
    {oc_is_row kV_is_row dc_is_row pm_is_row cd_is_row ct_is_row : Value}
    {od_Tape_init an_Tape_init : Option Addr}
    {sl_Tape_init : Array (Option Value)}
    {oc_Tape_init kV_Tape_init dc_Tape_init pm_Tape_init cd_Tape_init ct_Tape_init : Value}
    {od_law_tape an_law_tape : Option Addr}
    {sl_law_tape : Array (Option Value)}
    {oc_law_tape kV_law_tape dc_law_tape pm_law_tape cd_law_tape ct_law_tape : Value}
    {od_all_triples an_all_triples : Option Addr}
    {sl_all_triples : Array (Option Value)}
    {oc_all_triples kV_all_triples dc_all_triples pm_all_triples cd_all_triples ct_all_triples : Value}
    {od_whole_rule an_whole_rule : Option Addr}
    {sl_whole_rule : Array (Option Value)}
    {oc_whole_rule kV_whole_rule dc_whole_rule pm_whole_rule cd_whole_rule ct_whole_rule : Value}
    {od_are_numbers an_are_numbers : Option Addr}
    {sl_are_numbers : Array (Option Value)}
    {oc_are_numbers kV_are_numbers dc_are_numbers pm_are_numbers cd_are_numbers ct_are_numbers : Value}
    {od_is_sizes an_is_sizes : Option Addr}
    {sl_is_sizes : Array (Option Value)}
    {oc_is_sizes kV_is_sizes dc_is_sizes pm_is_sizes cd_is_sizes ct_is_sizes : Value}
    {od_is_triple an_is_triple : Option Addr}
    {sl_is_triple : Array (Option Value)}
    {oc_is_triple kV_is_triple dc_is_triple pm_is_triple cd_is_triple ct_is_triple : Value}
    {od_Parts_init an_Parts_init : Option Addr}
    {sl_Parts_init : Array (Option Value)}
    {oc_Parts_init kV_Parts_init dc_Parts_init pm_Parts_init cd_Parts_init ct_Parts_init : Value}
    {od_many_memories an_many_memories : Option Addr}
    {sl_many_memories : Array (Option Value)}
    {oc_many_memories kV_many_memories dc_many_memories pm_many_memories cd_many_memories ct_many_memories : Value}
    {od_headed an_headed : Option Addr}
    {sl_headed : Array (Option Value)}
    {oc_headed kV_headed dc_headed pm_headed cd_headed ct_headed : Value}
    {od_quiet_changes an_quiet_changes : Option Addr}
    {sl_quiet_changes : Array (Option Value)}
    {oc_quiet_changes kV_quiet_changes dc_quiet_changes pm_quiet_changes cd_quiet_changes ct_quiet_changes : Value}
    {od_Tape_row an_Tape_row : Option Addr}
    {sl_Tape_row : Array (Option Value)}
    {oc_Tape_row kV_Tape_row dc_Tape_row pm_Tape_row cd_Tape_row ct_Tape_row : Value}
    {od_memory_of an_memory_of : Option Addr}
    {sl_memory_of : Array (Option Value)}
    {oc_memory_of kV_memory_of dc_memory_of pm_memory_of cd_memory_of ct_memory_of : Value}
    {od_row_changes an_row_changes : Option Addr}
    {sl_row_changes : Array (Option Value)}
    {oc_row_changes kV_row_changes dc_row_changes pm_row_changes cd_row_changes ct_row_changes : Value}
    {od_line_changes an_line_changes : Option Addr}
    {sl_line_changes : Array (Option Value)}
    {oc_line_changes kV_line_changes dc_line_changes pm_line_changes cd_line_changes ct_line_changes : Value}
    {od_FlyStair_init an_FlyStair_init : Option Addr}
    {sl_FlyStair_init : Array (Option Value)}
    {oc_FlyStair_init kV_FlyStair_init dc_FlyStair_init pm_FlyStair_init cd_FlyStair_init ct_FlyStair_init : Value}
    {od_law_mixed an_law_mixed : Option Addr}
    {sl_law_mixed : Array (Option Value)}
    {oc_law_mixed kV_law_mixed dc_law_mixed pm_law_mixed cd_law_mixed ct_law_mixed : Value}
    {od_law_digits an_law_digits : Option Addr}
    {sl_law_digits : Array (Option Value)}
    {oc_law_digits kV_law_digits dc_law_digits pm_law_digits cd_law_digits ct_law_digits : Value}
    {od_law_trim an_law_trim : Option Addr}
    {sl_law_trim : Array (Option Value)}
    {oc_law_trim kV_law_trim dc_law_trim pm_law_trim cd_law_trim ct_law_trim : Value}
    {od_law_upper an_law_upper : Option Addr}
    {sl_law_upper : Array (Option Value)}
    {oc_law_upper kV_law_upper dc_law_upper pm_law_upper cd_law_upper ct_law_upper : Value}
    {od_head_place an_head_place : Option Addr}
    {sl_head_place : Array (Option Value)}
    {oc_head_place kV_head_place dc_head_place pm_head_place cd_head_place ct_head_place : Value}
    {od_trimmed an_trimmed : Option Addr}
    {sl_trimmed : Array (Option Value)}
    {oc_trimmed kV_trimmed dc_trimmed pm_trimmed cd_trimmed ct_trimmed : Value}
    {od_tape_at an_tape_at : Option Addr}
    {sl_tape_at : Array (Option Value)}
    {oc_tape_at kV_tape_at dc_tape_at pm_tape_at cd_tape_at ct_tape_at : Value}
    {od_FlyStair_up an_FlyStair_up : Option Addr}
    {sl_FlyStair_up : Array (Option Value)}
    {oc_FlyStair_up kV_FlyStair_up dc_FlyStair_up pm_FlyStair_up cd_FlyStair_up ct_FlyStair_up : Value}
    {od_FlyStair_memories an_FlyStair_memories : Option Addr}
    {sl_FlyStair_memories : Array (Option Value)}
    {oc_FlyStair_memories kV_FlyStair_memories dc_FlyStair_memories pm_FlyStair_memories cd_FlyStair_memories ct_FlyStair_memories : Value}
    {od_stripped an_stripped : Option Addr}
    {sl_stripped : Array (Option Value)}
    {oc_stripped kV_stripped dc_stripped pm_stripped cd_stripped ct_stripped : Value}
    {od_gathered an_gathered : Option Addr}
    {sl_gathered : Array (Option Value)}
    {oc_gathered kV_gathered dc_gathered pm_gathered cd_gathered ct_gathered : Value}
    {od_Parts_back an_Parts_back : Option Addr}
    {sl_Parts_back : Array (Option Value)}
    {oc_Parts_back kV_Parts_back dc_Parts_back pm_Parts_back cd_Parts_back ct_Parts_back : Value}
    {od_Parts_run_back an_Parts_run_back : Option Addr}
    {sl_Parts_run_back : Array (Option Value)}
    {oc_Parts_run_back kV_Parts_run_back dc_Parts_run_back pm_Parts_run_back cd_Parts_run_back ct_Parts_run_back : Value}
    {od_law_past an_law_past : Option Addr}
    {sl_law_past : Array (Option Value)}
    {oc_law_past kV_law_past dc_law_past pm_law_past cd_law_past ct_law_past : Value}
    {od_law_cell an_law_cell : Option Addr}
    {sl_law_cell : Array (Option Value)}
    {oc_law_cell kV_law_cell dc_law_cell pm_law_cell cd_law_cell ct_law_cell : Value}
    {od_law_line an_law_line : Option Addr}
    {sl_law_line : Array (Option Value)}
    {oc_law_line kV_law_line dc_law_line pm_law_line cd_law_line ct_law_line : Value}
    {od_Parts_step an_Parts_step : Option Addr}
    {sl_Parts_step : Array (Option Value)}
    {oc_Parts_step kV_Parts_step dc_Parts_step pm_Parts_step cd_Parts_step ct_Parts_step : Value}
    {od_Parts_run an_Parts_run : Option Addr}
    {sl_Parts_run : Array (Option Value)}
    {oc_Parts_run kV_Parts_run dc_Parts_run pm_Parts_run cd_Parts_run ct_Parts_run : Value}
    {od_past an_past : Option Addr}
    {sl_past : Array (Option Value)}
    {oc_past kV_past dc_past pm_past cd_past ct_past : Value}
    {od_law_asked an_law_asked : Option Addr}
    {sl_law_asked : Array (Option Value)}
    {oc_law_asked kV_law_asked dc_law_asked pm_law_asked cd_law_asked ct_law_asked : Value}
    {od_law an_law : Option Addr}
    {sl_law : Array (Option Value)}
    {oc_law kV_law dc_law pm_law cd_law ct_law : Value}
    {tk_MOST_CELLS : Tok}
    {ta_QUIET : Addr}
    {td_QUIET : Option Addr}
    {tn_QUIET : Nat}
    {ts_QUIET : Array (Option Value)}
    {tk_QUIET_0 : Tok}
    {tk_QUIET_1 : Tok}
    {tk_QUIET_2 : Tok}
    (A_BackError : PySem.W.nsIn K mainGlobals (PySem.Str.ofString "BackError") = some (some (.ref C_BackError)))
    (A_BadMachine : PySem.W.nsIn K mainGlobals (PySem.Str.ofString "BadMachine") = some (some (.ref C_BadMachine)))
    (A_BadParts : PySem.W.nsIn K mainGlobals (PySem.Str.ofString "BadParts") = some (some (.ref C_BadParts)))
    (A_FlyStair : PySem.W.nsIn K mainGlobals (PySem.Str.ofString "FlyStair") = some (some (.ref C_FlyStair)))
    (A_Parts : PySem.W.nsIn K mainGlobals (PySem.Str.ofString "Parts") = some (some (.ref C_Parts)))
    (A_Tape : PySem.W.nsIn K mainGlobals (PySem.Str.ofString "Tape") = some (some (.ref C_Tape)))
    (a_is_whole : PySem.W.nsIn K mainGlobals (PySem.Str.ofString "is_whole") = some (some (.ref f_is_whole)))
    (l_is_whole : K.lookup f_is_whole = some ⟨oc_is_whole, od_is_whole, .func (PySem.W.fnOf (PySem.Str.ofString "is_whole") "is_whole" (defArgs s_is_whole) (defBody s_is_whole) (defScope s_is_whole) .none kV_is_whole dc_is_whole pm_is_whole an_is_whole cd_is_whole ct_is_whole), sl_is_whole⟩)
    (c_is_whole : PySem.W.codeIn K cd_is_whole "is_whole" = true)
    (k_is_whole : PySem.W.keepIn K (.ref f_is_whole) = true)
    (a_is_number : PySem.W.nsIn K mainGlobals (PySem.Str.ofString "is_number") = some (some (.ref f_is_number)))
    (l_is_number : K.lookup f_is_number = some ⟨oc_is_number, od_is_number, .func (PySem.W.fnOf (PySem.Str.ofString "is_number") "is_number" (defArgs s_is_number) (defBody s_is_number) (defScope s_is_number) .none kV_is_number dc_is_number pm_is_number an_is_number cd_is_number ct_is_number), sl_is_number⟩)
    (c_is_number : PySem.W.codeIn K cd_is_number "is_number" = true)
    (k_is_number : PySem.W.keepIn K (.ref f_is_number) = true)
    (a_is_row : PySem.W.nsIn K mainGlobals (PySem.Str.ofString "is_row") = some (some (.ref f_is_row)))
    (l_is_row : K.lookup f_is_row = some ⟨oc_is_row, od_is_row, .func (PySem.W.fnOf (PySem.Str.ofString "is_row") "is_row" (defArgs s_is_row) (defBody s_is_row) (defScope s_is_row) .none kV_is_row dc_is_row pm_is_row an_is_row cd_is_row ct_is_row), sl_is_row⟩)
    (c_is_row : PySem.W.codeIn K cd_is_row "is_row" = true)
    (k_is_row : PySem.W.keepIn K (.ref f_is_row) = true)
    (a_Tape_init : PySem.W.findIn K (.ref C_Tape) (PySem.Str.ofString "__init__") = some (some (.ref f_Tape_init)))
    (i_Tape_init : PySem.W.isFn K (.ref f_Tape_init) = true)
    (l_Tape_init : K.lookup f_Tape_init = some ⟨oc_Tape_init, od_Tape_init, .func (PySem.W.fnOf (PySem.Str.ofString "__init__") "Tape.__init__" (defArgs s_Tape_init) (defBody s_Tape_init) (defScope s_Tape_init) .none kV_Tape_init dc_Tape_init pm_Tape_init an_Tape_init cd_Tape_init ct_Tape_init), sl_Tape_init⟩)
    (c_Tape_init : PySem.W.codeIn K cd_Tape_init "Tape.__init__" = true)
    (k_Tape_init : PySem.W.keepIn K (.ref f_Tape_init) = true)
    (a_law_tape : PySem.W.nsIn K mainGlobals (PySem.Str.ofString "_law_tape") = some (some (.ref f_law_tape)))
    (l_law_tape : K.lookup f_law_tape = some ⟨oc_law_tape, od_law_tape, .func (PySem.W.fnOf (PySem.Str.ofString "_law_tape") "_law_tape" (defArgs s_law_tape) (defBody s_law_tape) (defScope s_law_tape) .none kV_law_tape dc_law_tape pm_law_tape an_law_tape cd_law_tape ct_law_tape), sl_law_tape⟩)
    (c_law_tape : PySem.W.codeIn K cd_law_tape "_law_tape" = true)
    (k_law_tape : PySem.W.keepIn K (.ref f_law_tape) = true)
    (a_all_triples : PySem.W.nsIn K mainGlobals (PySem.Str.ofString "all_triples") = some (some (.ref f_all_triples)))
    (l_all_triples : K.lookup f_all_triples = some ⟨oc_all_triples, od_all_triples, .func (PySem.W.fnOf (PySem.Str.ofString "all_triples") "all_triples" (defArgs s_all_triples) (defBody s_all_triples) (defScope s_all_triples) .none kV_all_triples dc_all_triples pm_all_triples an_all_triples cd_all_triples ct_all_triples), sl_all_triples⟩)
    (c_all_triples : PySem.W.codeIn K cd_all_triples "all_triples" = true)
    (k_all_triples : PySem.W.keepIn K (.ref f_all_triples) = true)
    (a_whole_rule : PySem.W.nsIn K mainGlobals (PySem.Str.ofString "whole_rule") = some (some (.ref f_whole_rule)))
    (l_whole_rule : K.lookup f_whole_rule = some ⟨oc_whole_rule, od_whole_rule, .func (PySem.W.fnOf (PySem.Str.ofString "whole_rule") "whole_rule" (defArgs s_whole_rule) (defBody s_whole_rule) (defScope s_whole_rule) .none kV_whole_rule dc_whole_rule pm_whole_rule an_whole_rule cd_whole_rule ct_whole_rule), sl_whole_rule⟩)
    (c_whole_rule : PySem.W.codeIn K cd_whole_rule "whole_rule" = true)
    (k_whole_rule : PySem.W.keepIn K (.ref f_whole_rule) = true)
    (a_are_numbers : PySem.W.nsIn K mainGlobals (PySem.Str.ofString "are_numbers") = some (some (.ref f_are_numbers)))
    (l_are_numbers : K.lookup f_are_numbers = some ⟨oc_are_numbers, od_are_numbers, .func (PySem.W.fnOf (PySem.Str.ofString "are_numbers") "are_numbers" (defArgs s_are_numbers) (defBody s_are_numbers) (defScope s_are_numbers) .none kV_are_numbers dc_are_numbers pm_are_numbers an_are_numbers cd_are_numbers ct_are_numbers), sl_are_numbers⟩)
    (c_are_numbers : PySem.W.codeIn K cd_are_numbers "are_numbers" = true)
    (k_are_numbers : PySem.W.keepIn K (.ref f_are_numbers) = true)
    (a_is_sizes : PySem.W.nsIn K mainGlobals (PySem.Str.ofString "is_sizes") = some (some (.ref f_is_sizes)))
    (l_is_sizes : K.lookup f_is_sizes = some ⟨oc_is_sizes, od_is_sizes, .func (PySem.W.fnOf (PySem.Str.ofString "is_sizes") "is_sizes" (defArgs s_is_sizes) (defBody s_is_sizes) (defScope s_is_sizes) .none kV_is_sizes dc_is_sizes pm_is_sizes an_is_sizes cd_is_sizes ct_is_sizes), sl_is_sizes⟩)
    (c_is_sizes : PySem.W.codeIn K cd_is_sizes "is_sizes" = true)
    (k_is_sizes : PySem.W.keepIn K (.ref f_is_sizes) = true)
    (a_is_triple : PySem.W.nsIn K mainGlobals (PySem.Str.ofString "is_triple") = some (some (.ref f_is_triple)))
    (l_is_triple : K.lookup f_is_triple = some ⟨oc_is_triple, od_is_triple, .func (PySem.W.fnOf (PySem.Str.ofString "is_triple") "is_triple" (defArgs s_is_triple) (defBody s_is_triple) (defScope s_is_triple) .none kV_is_triple dc_is_triple pm_is_triple an_is_triple cd_is_triple ct_is_triple), sl_is_triple⟩)
    (c_is_triple : PySem.W.codeIn K cd_is_triple "is_triple" = true)
    (k_is_triple : PySem.W.keepIn K (.ref f_is_triple) = true)
    (a_Parts_init : PySem.W.findIn K (.ref C_Parts) (PySem.Str.ofString "__init__") = some (some (.ref f_Parts_init)))
    (i_Parts_init : PySem.W.isFn K (.ref f_Parts_init) = true)
    (l_Parts_init : K.lookup f_Parts_init = some ⟨oc_Parts_init, od_Parts_init, .func (PySem.W.fnOf (PySem.Str.ofString "__init__") "Parts.__init__" (defArgs s_Parts_init) (defBody s_Parts_init) (defScope s_Parts_init) .none kV_Parts_init dc_Parts_init pm_Parts_init an_Parts_init cd_Parts_init ct_Parts_init), sl_Parts_init⟩)
    (c_Parts_init : PySem.W.codeIn K cd_Parts_init "Parts.__init__" = true)
    (k_Parts_init : PySem.W.keepIn K (.ref f_Parts_init) = true)
    (a_many_memories : PySem.W.nsIn K mainGlobals (PySem.Str.ofString "many_memories") = some (some (.ref f_many_memories)))
    (l_many_memories : K.lookup f_many_memories = some ⟨oc_many_memories, od_many_memories, .func (PySem.W.fnOf (PySem.Str.ofString "many_memories") "many_memories" (defArgs s_many_memories) (defBody s_many_memories) (defScope s_many_memories) .none kV_many_memories dc_many_memories pm_many_memories an_many_memories cd_many_memories ct_many_memories), sl_many_memories⟩)
    (c_many_memories : PySem.W.codeIn K cd_many_memories "many_memories" = true)
    (k_many_memories : PySem.W.keepIn K (.ref f_many_memories) = true)
    (a_headed : PySem.W.nsIn K mainGlobals (PySem.Str.ofString "headed") = some (some (.ref f_headed)))
    (l_headed : K.lookup f_headed = some ⟨oc_headed, od_headed, .func (PySem.W.fnOf (PySem.Str.ofString "headed") "headed" (defArgs s_headed) (defBody s_headed) (defScope s_headed) .none kV_headed dc_headed pm_headed an_headed cd_headed ct_headed), sl_headed⟩)
    (c_headed : PySem.W.codeIn K cd_headed "headed" = true)
    (k_headed : PySem.W.keepIn K (.ref f_headed) = true)
    (a_quiet_changes : PySem.W.nsIn K mainGlobals (PySem.Str.ofString "quiet_changes") = some (some (.ref f_quiet_changes)))
    (l_quiet_changes : K.lookup f_quiet_changes = some ⟨oc_quiet_changes, od_quiet_changes, .func (PySem.W.fnOf (PySem.Str.ofString "quiet_changes") "quiet_changes" (defArgs s_quiet_changes) (defBody s_quiet_changes) (defScope s_quiet_changes) .none kV_quiet_changes dc_quiet_changes pm_quiet_changes an_quiet_changes cd_quiet_changes ct_quiet_changes), sl_quiet_changes⟩)
    (c_quiet_changes : PySem.W.codeIn K cd_quiet_changes "quiet_changes" = true)
    (k_quiet_changes : PySem.W.keepIn K (.ref f_quiet_changes) = true)
    (a_Tape_row : PySem.W.findIn K (.ref C_Tape) (PySem.Str.ofString "row") = some (some (.ref f_Tape_row)))
    (i_Tape_row : PySem.W.isFn K (.ref f_Tape_row) = true)
    (l_Tape_row : K.lookup f_Tape_row = some ⟨oc_Tape_row, od_Tape_row, .func (PySem.W.fnOf (PySem.Str.ofString "row") "Tape.row" (defArgs s_Tape_row) (defBody s_Tape_row) (defScope s_Tape_row) .none kV_Tape_row dc_Tape_row pm_Tape_row an_Tape_row cd_Tape_row ct_Tape_row), sl_Tape_row⟩)
    (c_Tape_row : PySem.W.codeIn K cd_Tape_row "Tape.row" = true)
    (k_Tape_row : PySem.W.keepIn K (.ref f_Tape_row) = true)
    (a_memory_of : PySem.W.nsIn K mainGlobals (PySem.Str.ofString "memory_of") = some (some (.ref f_memory_of)))
    (l_memory_of : K.lookup f_memory_of = some ⟨oc_memory_of, od_memory_of, .func (PySem.W.fnOf (PySem.Str.ofString "memory_of") "memory_of" (defArgs s_memory_of) (defBody s_memory_of) (defScope s_memory_of) .none kV_memory_of dc_memory_of pm_memory_of an_memory_of cd_memory_of ct_memory_of), sl_memory_of⟩)
    (c_memory_of : PySem.W.codeIn K cd_memory_of "memory_of" = true)
    (k_memory_of : PySem.W.keepIn K (.ref f_memory_of) = true)
    (a_row_changes : PySem.W.nsIn K mainGlobals (PySem.Str.ofString "row_changes") = some (some (.ref f_row_changes)))
    (l_row_changes : K.lookup f_row_changes = some ⟨oc_row_changes, od_row_changes, .func (PySem.W.fnOf (PySem.Str.ofString "row_changes") "row_changes" (defArgs s_row_changes) (defBody s_row_changes) (defScope s_row_changes) .none kV_row_changes dc_row_changes pm_row_changes an_row_changes cd_row_changes ct_row_changes), sl_row_changes⟩)
    (c_row_changes : PySem.W.codeIn K cd_row_changes "row_changes" = true)
    (k_row_changes : PySem.W.keepIn K (.ref f_row_changes) = true)
    (a_line_changes : PySem.W.nsIn K mainGlobals (PySem.Str.ofString "line_changes") = some (some (.ref f_line_changes)))
    (l_line_changes : K.lookup f_line_changes = some ⟨oc_line_changes, od_line_changes, .func (PySem.W.fnOf (PySem.Str.ofString "line_changes") "line_changes" (defArgs s_line_changes) (defBody s_line_changes) (defScope s_line_changes) .none kV_line_changes dc_line_changes pm_line_changes an_line_changes cd_line_changes ct_line_changes), sl_line_changes⟩)
    (c_line_changes : PySem.W.codeIn K cd_line_changes "line_changes" = true)
    (k_line_changes : PySem.W.keepIn K (.ref f_line_changes) = true)
    (a_FlyStair_init : PySem.W.findIn K (.ref C_FlyStair) (PySem.Str.ofString "__init__") = some (some (.ref f_FlyStair_init)))
    (i_FlyStair_init : PySem.W.isFn K (.ref f_FlyStair_init) = true)
    (l_FlyStair_init : K.lookup f_FlyStair_init = some ⟨oc_FlyStair_init, od_FlyStair_init, .func (PySem.W.fnOf (PySem.Str.ofString "__init__") "FlyStair.__init__" (defArgs s_FlyStair_init) (defBody s_FlyStair_init) (defScope s_FlyStair_init) .none kV_FlyStair_init dc_FlyStair_init pm_FlyStair_init an_FlyStair_init cd_FlyStair_init ct_FlyStair_init), sl_FlyStair_init⟩)
    (c_FlyStair_init : PySem.W.codeIn K cd_FlyStair_init "FlyStair.__init__" = true)
    (k_FlyStair_init : PySem.W.keepIn K (.ref f_FlyStair_init) = true)
    (a_law_mixed : PySem.W.nsIn K mainGlobals (PySem.Str.ofString "_law_mixed") = some (some (.ref f_law_mixed)))
    (l_law_mixed : K.lookup f_law_mixed = some ⟨oc_law_mixed, od_law_mixed, .func (PySem.W.fnOf (PySem.Str.ofString "_law_mixed") "_law_mixed" (defArgs s_law_mixed) (defBody s_law_mixed) (defScope s_law_mixed) .none kV_law_mixed dc_law_mixed pm_law_mixed an_law_mixed cd_law_mixed ct_law_mixed), sl_law_mixed⟩)
    (c_law_mixed : PySem.W.codeIn K cd_law_mixed "_law_mixed" = true)
    (k_law_mixed : PySem.W.keepIn K (.ref f_law_mixed) = true)
    (a_law_digits : PySem.W.nsIn K mainGlobals (PySem.Str.ofString "_law_digits") = some (some (.ref f_law_digits)))
    (l_law_digits : K.lookup f_law_digits = some ⟨oc_law_digits, od_law_digits, .func (PySem.W.fnOf (PySem.Str.ofString "_law_digits") "_law_digits" (defArgs s_law_digits) (defBody s_law_digits) (defScope s_law_digits) .none kV_law_digits dc_law_digits pm_law_digits an_law_digits cd_law_digits ct_law_digits), sl_law_digits⟩)
    (c_law_digits : PySem.W.codeIn K cd_law_digits "_law_digits" = true)
    (k_law_digits : PySem.W.keepIn K (.ref f_law_digits) = true)
    (a_law_trim : PySem.W.nsIn K mainGlobals (PySem.Str.ofString "_law_trim") = some (some (.ref f_law_trim)))
    (l_law_trim : K.lookup f_law_trim = some ⟨oc_law_trim, od_law_trim, .func (PySem.W.fnOf (PySem.Str.ofString "_law_trim") "_law_trim" (defArgs s_law_trim) (defBody s_law_trim) (defScope s_law_trim) .none kV_law_trim dc_law_trim pm_law_trim an_law_trim cd_law_trim ct_law_trim), sl_law_trim⟩)
    (c_law_trim : PySem.W.codeIn K cd_law_trim "_law_trim" = true)
    (k_law_trim : PySem.W.keepIn K (.ref f_law_trim) = true)
    (a_law_upper : PySem.W.nsIn K mainGlobals (PySem.Str.ofString "_law_upper") = some (some (.ref f_law_upper)))
    (l_law_upper : K.lookup f_law_upper = some ⟨oc_law_upper, od_law_upper, .func (PySem.W.fnOf (PySem.Str.ofString "_law_upper") "_law_upper" (defArgs s_law_upper) (defBody s_law_upper) (defScope s_law_upper) .none kV_law_upper dc_law_upper pm_law_upper an_law_upper cd_law_upper ct_law_upper), sl_law_upper⟩)
    (c_law_upper : PySem.W.codeIn K cd_law_upper "_law_upper" = true)
    (k_law_upper : PySem.W.keepIn K (.ref f_law_upper) = true)
    (a_head_place : PySem.W.nsIn K mainGlobals (PySem.Str.ofString "head_place") = some (some (.ref f_head_place)))
    (l_head_place : K.lookup f_head_place = some ⟨oc_head_place, od_head_place, .func (PySem.W.fnOf (PySem.Str.ofString "head_place") "head_place" (defArgs s_head_place) (defBody s_head_place) (defScope s_head_place) .none kV_head_place dc_head_place pm_head_place an_head_place cd_head_place ct_head_place), sl_head_place⟩)
    (c_head_place : PySem.W.codeIn K cd_head_place "head_place" = true)
    (k_head_place : PySem.W.keepIn K (.ref f_head_place) = true)
    (a_trimmed : PySem.W.nsIn K mainGlobals (PySem.Str.ofString "trimmed") = some (some (.ref f_trimmed)))
    (l_trimmed : K.lookup f_trimmed = some ⟨oc_trimmed, od_trimmed, .func (PySem.W.fnOf (PySem.Str.ofString "trimmed") "trimmed" (defArgs s_trimmed) (defBody s_trimmed) (defScope s_trimmed) .none kV_trimmed dc_trimmed pm_trimmed an_trimmed cd_trimmed ct_trimmed), sl_trimmed⟩)
    (c_trimmed : PySem.W.codeIn K cd_trimmed "trimmed" = true)
    (k_trimmed : PySem.W.keepIn K (.ref f_trimmed) = true)
    (a_tape_at : PySem.W.nsIn K mainGlobals (PySem.Str.ofString "tape_at") = some (some (.ref f_tape_at)))
    (l_tape_at : K.lookup f_tape_at = some ⟨oc_tape_at, od_tape_at, .func (PySem.W.fnOf (PySem.Str.ofString "tape_at") "tape_at" (defArgs s_tape_at) (defBody s_tape_at) (defScope s_tape_at) .none kV_tape_at dc_tape_at pm_tape_at an_tape_at cd_tape_at ct_tape_at), sl_tape_at⟩)
    (c_tape_at : PySem.W.codeIn K cd_tape_at "tape_at" = true)
    (k_tape_at : PySem.W.keepIn K (.ref f_tape_at) = true)
    (a_FlyStair_up : PySem.W.findIn K (.ref C_FlyStair) (PySem.Str.ofString "up") = some (some (.ref f_FlyStair_up)))
    (i_FlyStair_up : PySem.W.isFn K (.ref f_FlyStair_up) = true)
    (l_FlyStair_up : K.lookup f_FlyStair_up = some ⟨oc_FlyStair_up, od_FlyStair_up, .func (PySem.W.fnOf (PySem.Str.ofString "up") "FlyStair.up" (defArgs s_FlyStair_up) (defBody s_FlyStair_up) (defScope s_FlyStair_up) .none kV_FlyStair_up dc_FlyStair_up pm_FlyStair_up an_FlyStair_up cd_FlyStair_up ct_FlyStair_up), sl_FlyStair_up⟩)
    (c_FlyStair_up : PySem.W.codeIn K cd_FlyStair_up "FlyStair.up" = true)
    (k_FlyStair_up : PySem.W.keepIn K (.ref f_FlyStair_up) = true)
    (a_FlyStair_memories : PySem.W.findIn K (.ref C_FlyStair) (PySem.Str.ofString "memories") = some (some (.ref f_FlyStair_memories)))
    (i_FlyStair_memories : PySem.W.isFn K (.ref f_FlyStair_memories) = true)
    (l_FlyStair_memories : K.lookup f_FlyStair_memories = some ⟨oc_FlyStair_memories, od_FlyStair_memories, .func (PySem.W.fnOf (PySem.Str.ofString "memories") "FlyStair.memories" (defArgs s_FlyStair_memories) (defBody s_FlyStair_memories) (defScope s_FlyStair_memories) .none kV_FlyStair_memories dc_FlyStair_memories pm_FlyStair_memories an_FlyStair_memories cd_FlyStair_memories ct_FlyStair_memories), sl_FlyStair_memories⟩)
    (c_FlyStair_memories : PySem.W.codeIn K cd_FlyStair_memories "FlyStair.memories" = true)
    (k_FlyStair_memories : PySem.W.keepIn K (.ref f_FlyStair_memories) = true)
    (a_stripped : PySem.W.nsIn K mainGlobals (PySem.Str.ofString "stripped") = some (some (.ref f_stripped)))
    (l_stripped : K.lookup f_stripped = some ⟨oc_stripped, od_stripped, .func (PySem.W.fnOf (PySem.Str.ofString "stripped") "stripped" (defArgs s_stripped) (defBody s_stripped) (defScope s_stripped) .none kV_stripped dc_stripped pm_stripped an_stripped cd_stripped ct_stripped), sl_stripped⟩)
    (c_stripped : PySem.W.codeIn K cd_stripped "stripped" = true)
    (k_stripped : PySem.W.keepIn K (.ref f_stripped) = true)
    (a_gathered : PySem.W.nsIn K mainGlobals (PySem.Str.ofString "gathered") = some (some (.ref f_gathered)))
    (l_gathered : K.lookup f_gathered = some ⟨oc_gathered, od_gathered, .func (PySem.W.fnOf (PySem.Str.ofString "gathered") "gathered" (defArgs s_gathered) (defBody s_gathered) (defScope s_gathered) .none kV_gathered dc_gathered pm_gathered an_gathered cd_gathered ct_gathered), sl_gathered⟩)
    (c_gathered : PySem.W.codeIn K cd_gathered "gathered" = true)
    (k_gathered : PySem.W.keepIn K (.ref f_gathered) = true)
    (a_Parts_back : PySem.W.findIn K (.ref C_Parts) (PySem.Str.ofString "back") = some (some (.ref f_Parts_back)))
    (i_Parts_back : PySem.W.isFn K (.ref f_Parts_back) = true)
    (l_Parts_back : K.lookup f_Parts_back = some ⟨oc_Parts_back, od_Parts_back, .func (PySem.W.fnOf (PySem.Str.ofString "back") "Parts.back" (defArgs s_Parts_back) (defBody s_Parts_back) (defScope s_Parts_back) .none kV_Parts_back dc_Parts_back pm_Parts_back an_Parts_back cd_Parts_back ct_Parts_back), sl_Parts_back⟩)
    (c_Parts_back : PySem.W.codeIn K cd_Parts_back "Parts.back" = true)
    (k_Parts_back : PySem.W.keepIn K (.ref f_Parts_back) = true)
    (a_Parts_run_back : PySem.W.findIn K (.ref C_Parts) (PySem.Str.ofString "run_back") = some (some (.ref f_Parts_run_back)))
    (i_Parts_run_back : PySem.W.isFn K (.ref f_Parts_run_back) = true)
    (l_Parts_run_back : K.lookup f_Parts_run_back = some ⟨oc_Parts_run_back, od_Parts_run_back, .func (PySem.W.fnOf (PySem.Str.ofString "run_back") "Parts.run_back" (defArgs s_Parts_run_back) (defBody s_Parts_run_back) (defScope s_Parts_run_back) .none kV_Parts_run_back dc_Parts_run_back pm_Parts_run_back an_Parts_run_back cd_Parts_run_back ct_Parts_run_back), sl_Parts_run_back⟩)
    (c_Parts_run_back : PySem.W.codeIn K cd_Parts_run_back "Parts.run_back" = true)
    (k_Parts_run_back : PySem.W.keepIn K (.ref f_Parts_run_back) = true)
    (a_law_past : PySem.W.nsIn K mainGlobals (PySem.Str.ofString "_law_past") = some (some (.ref f_law_past)))
    (l_law_past : K.lookup f_law_past = some ⟨oc_law_past, od_law_past, .func (PySem.W.fnOf (PySem.Str.ofString "_law_past") "_law_past" (defArgs s_law_past) (defBody s_law_past) (defScope s_law_past) .none kV_law_past dc_law_past pm_law_past an_law_past cd_law_past ct_law_past), sl_law_past⟩)
    (c_law_past : PySem.W.codeIn K cd_law_past "_law_past" = true)
    (k_law_past : PySem.W.keepIn K (.ref f_law_past) = true)
    (a_law_cell : PySem.W.nsIn K mainGlobals (PySem.Str.ofString "_law_cell") = some (some (.ref f_law_cell)))
    (l_law_cell : K.lookup f_law_cell = some ⟨oc_law_cell, od_law_cell, .func (PySem.W.fnOf (PySem.Str.ofString "_law_cell") "_law_cell" (defArgs s_law_cell) (defBody s_law_cell) (defScope s_law_cell) .none kV_law_cell dc_law_cell pm_law_cell an_law_cell cd_law_cell ct_law_cell), sl_law_cell⟩)
    (c_law_cell : PySem.W.codeIn K cd_law_cell "_law_cell" = true)
    (k_law_cell : PySem.W.keepIn K (.ref f_law_cell) = true)
    (a_law_line : PySem.W.nsIn K mainGlobals (PySem.Str.ofString "_law_line") = some (some (.ref f_law_line)))
    (l_law_line : K.lookup f_law_line = some ⟨oc_law_line, od_law_line, .func (PySem.W.fnOf (PySem.Str.ofString "_law_line") "_law_line" (defArgs s_law_line) (defBody s_law_line) (defScope s_law_line) .none kV_law_line dc_law_line pm_law_line an_law_line cd_law_line ct_law_line), sl_law_line⟩)
    (c_law_line : PySem.W.codeIn K cd_law_line "_law_line" = true)
    (k_law_line : PySem.W.keepIn K (.ref f_law_line) = true)
    (a_Parts_step : PySem.W.findIn K (.ref C_Parts) (PySem.Str.ofString "step") = some (some (.ref f_Parts_step)))
    (i_Parts_step : PySem.W.isFn K (.ref f_Parts_step) = true)
    (l_Parts_step : K.lookup f_Parts_step = some ⟨oc_Parts_step, od_Parts_step, .func (PySem.W.fnOf (PySem.Str.ofString "step") "Parts.step" (defArgs s_Parts_step) (defBody s_Parts_step) (defScope s_Parts_step) .none kV_Parts_step dc_Parts_step pm_Parts_step an_Parts_step cd_Parts_step ct_Parts_step), sl_Parts_step⟩)
    (c_Parts_step : PySem.W.codeIn K cd_Parts_step "Parts.step" = true)
    (k_Parts_step : PySem.W.keepIn K (.ref f_Parts_step) = true)
    (a_Parts_run : PySem.W.findIn K (.ref C_Parts) (PySem.Str.ofString "run") = some (some (.ref f_Parts_run)))
    (i_Parts_run : PySem.W.isFn K (.ref f_Parts_run) = true)
    (l_Parts_run : K.lookup f_Parts_run = some ⟨oc_Parts_run, od_Parts_run, .func (PySem.W.fnOf (PySem.Str.ofString "run") "Parts.run" (defArgs s_Parts_run) (defBody s_Parts_run) (defScope s_Parts_run) .none kV_Parts_run dc_Parts_run pm_Parts_run an_Parts_run cd_Parts_run ct_Parts_run), sl_Parts_run⟩)
    (c_Parts_run : PySem.W.codeIn K cd_Parts_run "Parts.run" = true)
    (k_Parts_run : PySem.W.keepIn K (.ref f_Parts_run) = true)
    (a_past : PySem.W.nsIn K mainGlobals (PySem.Str.ofString "past") = some (some (.ref f_past)))
    (l_past : K.lookup f_past = some ⟨oc_past, od_past, .func (PySem.W.fnOf (PySem.Str.ofString "past") "past" (defArgs s_past) (defBody s_past) (defScope s_past) .none kV_past dc_past pm_past an_past cd_past ct_past), sl_past⟩)
    (c_past : PySem.W.codeIn K cd_past "past" = true)
    (k_past : PySem.W.keepIn K (.ref f_past) = true)
    (a_law_asked : PySem.W.nsIn K mainGlobals (PySem.Str.ofString "_law_asked") = some (some (.ref f_law_asked)))
    (l_law_asked : K.lookup f_law_asked = some ⟨oc_law_asked, od_law_asked, .func (PySem.W.fnOf (PySem.Str.ofString "_law_asked") "_law_asked" (defArgs s_law_asked) (defBody s_law_asked) (defScope s_law_asked) .none kV_law_asked dc_law_asked pm_law_asked an_law_asked cd_law_asked ct_law_asked), sl_law_asked⟩)
    (c_law_asked : PySem.W.codeIn K cd_law_asked "_law_asked" = true)
    (k_law_asked : PySem.W.keepIn K (.ref f_law_asked) = true)
    (a_law : PySem.W.nsIn K mainGlobals (PySem.Str.ofString "law") = some (some (.ref f_law)))
    (l_law : K.lookup f_law = some ⟨oc_law, od_law, .func (PySem.W.fnOf (PySem.Str.ofString "law") "law" (defArgs s_law) (defBody s_law) (defScope s_law) .none kV_law dc_law pm_law an_law cd_law ct_law), sl_law⟩)
    (c_law : PySem.W.codeIn K cd_law "law" = true)
    (k_law : PySem.W.keepIn K (.ref f_law) = true)
    (pg_Tape : PySem.W.plainGet K C_Tape Str.empty = true)
    (hd_Tape : PySem.W.hasDictIn K C_Tape = true)
    (po_Tape : PySem.W.plainOver K C_Tape = true)
    (sa_Tape : PySem.W.findIn K (.ref C_Tape) (PySem.Str.ofString "__setattr__") = some (some (.builtin "object.__setattr__")))
    (mk_Tape : PySem.W.makesIn K C_Tape = true)
    (kc_Tape : PySem.W.keepIn K (.ref C_Tape) = true)
    (n_Tape_rows : PySem.W.findIn K (.ref C_Tape) (PySem.Str.ofString "_rows") = some none)
    (n_Tape_marks : PySem.W.findIn K (.ref C_Tape) (PySem.Str.ofString "marks") = some none)
    (n_Tape_states : PySem.W.findIn K (.ref C_Tape) (PySem.Str.ofString "states") = some none)
    (pg_Parts : PySem.W.plainGet K C_Parts Str.empty = true)
    (hd_Parts : PySem.W.hasDictIn K C_Parts = true)
    (po_Parts : PySem.W.plainOver K C_Parts = true)
    (sa_Parts : PySem.W.findIn K (.ref C_Parts) (PySem.Str.ofString "__setattr__") = some (some (.builtin "object.__setattr__")))
    (mk_Parts : PySem.W.makesIn K C_Parts = true)
    (kc_Parts : PySem.W.keepIn K (.ref C_Parts) = true)
    (n_Parts_rule : PySem.W.findIn K (.ref C_Parts) (PySem.Str.ofString "_rule") = some none)
    (n_Parts_source : PySem.W.findIn K (.ref C_Parts) (PySem.Str.ofString "_source") = some none)
    (n_Parts_sizes : PySem.W.findIn K (.ref C_Parts) (PySem.Str.ofString "sizes") = some none)
    (pg_FlyStair : PySem.W.plainGet K C_FlyStair Str.empty = true)
    (hd_FlyStair : PySem.W.hasDictIn K C_FlyStair = true)
    (po_FlyStair : PySem.W.plainOver K C_FlyStair = true)
    (sa_FlyStair : PySem.W.findIn K (.ref C_FlyStair) (PySem.Str.ofString "__setattr__") = some (some (.builtin "object.__setattr__")))
    (mk_FlyStair : PySem.W.makesIn K C_FlyStair = true)
    (kc_FlyStair : PySem.W.keepIn K (.ref C_FlyStair) = true)
    (n_FlyStair_lower : PySem.W.findIn K (.ref C_FlyStair) (PySem.Str.ofString "lower") = some none)
    (n_FlyStair_upper : PySem.W.findIn K (.ref C_FlyStair) (PySem.Str.ofString "upper") = some none)
    (x_BadMachine : PySem.W.excIn K C_BadMachine [.type "ValueError", .type "Exception", .type "BaseException", .type "object"] "ValueError.__new__" = true)
    (xk_BadMachine : PySem.W.keepIn K (.ref C_BadMachine) = true)
    (xb_BadMachine : PySem.W.subIn K (.ref C_BadMachine) (.type "BaseException") = some true)
    (xt_BadMachine : PySem.W.typeIn K (.ref C_BadMachine) = some (.type "type"))
    (xg_BadMachine : PySem.W.findIn K (.ref C_BadMachine) "__getattribute__" = some (some (.builtin "BaseException.__getattribute__")))
    (xa_BadMachine : PySem.W.findIn K (.ref C_BadMachine) "__getattr__" = some none)
    (xd_BadMachine : PySem.W.hasDictIn K C_BadMachine = true)
    (xc_BadMachine : PySem.W.findIn K (.ref C_BadMachine) "__class__" = some (some (.builtin "object.__class__")))
    (xm_BadMachine : PySem.W.mroIn K C_BadMachine (.type "object") = some true)
    (x_BadParts : PySem.W.excIn K C_BadParts [.type "ValueError", .type "Exception", .type "BaseException", .type "object"] "ValueError.__new__" = true)
    (xk_BadParts : PySem.W.keepIn K (.ref C_BadParts) = true)
    (xb_BadParts : PySem.W.subIn K (.ref C_BadParts) (.type "BaseException") = some true)
    (xt_BadParts : PySem.W.typeIn K (.ref C_BadParts) = some (.type "type"))
    (xg_BadParts : PySem.W.findIn K (.ref C_BadParts) "__getattribute__" = some (some (.builtin "BaseException.__getattribute__")))
    (xa_BadParts : PySem.W.findIn K (.ref C_BadParts) "__getattr__" = some none)
    (xd_BadParts : PySem.W.hasDictIn K C_BadParts = true)
    (xc_BadParts : PySem.W.findIn K (.ref C_BadParts) "__class__" = some (some (.builtin "object.__class__")))
    (xm_BadParts : PySem.W.mroIn K C_BadParts (.type "object") = some true)
    (xn_0 : PySem.W.specialIn K (.builtin "object.__class__") "__get__" = some (some (.builtin "getset_descriptor.__get__")))
    (xs_0 : PySem.W.takesIn K (.builtin "object.__class__") = some true)
    (e_BadMachine_BackError : PySem.W.exmOne K (.ref C_BadMachine) (.ref C_BackError) = some true)
    (e_BadParts_BackError : PySem.W.exmOne K (.ref C_BadParts) (.ref C_BackError) = some true)
    (k_BadMachine_BadParts : PySem.W.kitOne K (.ref C_BadMachine) (.ref C_BadParts) = some false)
    (k_BadMachine_ValueError : PySem.W.kitOne K (.ref C_BadMachine) (.type "ValueError") = some true)
    (k_BadParts_BadParts : PySem.W.kitOne K (.ref C_BadParts) (.ref C_BadParts) = some true)
    (k_BadParts_ValueError : PySem.W.kitOne K (.ref C_BadParts) (.type "ValueError") = some true)
    (m_MOST_CELLS : PySem.W.nsIn K mainGlobals (PySem.Str.ofString "MOST_CELLS") = some (some (.int 40000 tk_MOST_CELLS)))
    (m_QUIET : PySem.W.nsIn K mainGlobals (PySem.Str.ofString "QUIET") = some (some (.ref ta_QUIET)))
    (tl_QUIET : K.lookup ta_QUIET = some ⟨.type "tuple", td_QUIET, .seq #[(.int 0 tk_QUIET_0), (.int 0 tk_QUIET_1), (.int 0 tk_QUIET_2)] tn_QUIET, ts_QUIET⟩)
    (z_ValueError : PySem.W.nsIn K mainGlobals (PySem.Str.ofString "ValueError") = some none)
    (z_all : PySem.W.nsIn K mainGlobals (PySem.Str.ofString "all") = some none)
    (z_any : PySem.W.nsIn K mainGlobals (PySem.Str.ofString "any") = some none)
    (z_bool : PySem.W.nsIn K mainGlobals (PySem.Str.ofString "bool") = some none)
    (z_dict : PySem.W.nsIn K mainGlobals (PySem.Str.ofString "dict") = some none)
    (z_divmod : PySem.W.nsIn K mainGlobals (PySem.Str.ofString "divmod") = some none)
    (z_enumerate : PySem.W.nsIn K mainGlobals (PySem.Str.ofString "enumerate") = some none)
    (z_int : PySem.W.nsIn K mainGlobals (PySem.Str.ofString "int") = some none)
    (z_isinstance : PySem.W.nsIn K mainGlobals (PySem.Str.ofString "isinstance") = some none)
    (z_len : PySem.W.nsIn K mainGlobals (PySem.Str.ofString "len") = some none)
    (z_list : PySem.W.nsIn K mainGlobals (PySem.Str.ofString "list") = some none)
    (z_range : PySem.W.nsIn K mainGlobals (PySem.Str.ofString "range") = some none)
    (z_tuple : PySem.W.nsIn K mainGlobals (PySem.Str.ofString "tuple") = some none)
    (z_zip : PySem.W.nsIn K mainGlobals (PySem.Str.ofString "zip") = some none)
    : ∃ fd : FuncData, (∀ (s : Shared) (v : Value), BindsTo s fd ⟨[v], []⟩ [("script", v)]) ∧ ∀ base : Heap, K.In base → base.Ns mainGlobals mg → FnOk l.prog w K mg base (L2.CX l.prog w) 9 fa fd ["script"] (lift K 1 sp_top) := by
  have e := hfa.symm.trans (PySem.W.mg_of X G a_law)
  cases e
  let Γ : Ctx := ⟨C_Tape, C_Parts, C_FlyStair, C_BackError, C_BadMachine, C_BadParts, (fun C X => if C ∈ [C_BadMachine, C_BadParts] then PySem.W.exmOne K (.ref C) (.ref X) else none), (fun C v => PySem.W.kitOne K (.ref C) v), (if_pos (by simp)).trans e_BadMachine_BackError, (if_pos (by simp)).trans e_BadParts_BackError, k_BadMachine_BadParts, k_BadMachine_ValueError, k_BadParts_BadParts, k_BadParts_ValueError⟩
  have g_BackError : mg (PySem.Str.ofString "BackError") = some (.ref C_BackError) := PySem.W.mg_of X G A_BackError
  have g_BadMachine : mg (PySem.Str.ofString "BadMachine") = some (.ref C_BadMachine) := PySem.W.mg_of X G A_BadMachine
  have g_BadParts : mg (PySem.Str.ofString "BadParts") = some (.ref C_BadParts) := PySem.W.mg_of X G A_BadParts
  have ro_BadMachine : OwnErr K C_BadMachine := ⟨x_BadMachine, xk_BadMachine, xb_BadMachine, xt_BadMachine⟩
  have xe_BadMachine : ExcC K C_BadMachine := ⟨xg_BadMachine, xa_BadMachine, xb_BadMachine, xd_BadMachine, xc_BadMachine, xn_0, xs_0, xm_BadMachine⟩
  have ro_BadParts : OwnErr K C_BadParts := ⟨x_BadParts, xk_BadParts, xb_BadParts, xt_BadParts⟩
  have xe_BadParts : ExcC K C_BadParts := ⟨xg_BadParts, xa_BadParts, xb_BadParts, xd_BadParts, xc_BadParts, xn_0, xs_0, xm_BadParts⟩
  have exm_ok : ∀ C X b, Γ.exm C X = some b → PySem.W.exmOne K (.ref C) (.ref X) = some b := fun C X b h => by
    have h' : (if C ∈ [C_BadMachine, C_BadParts] then PySem.W.exmOne K (.ref C) (.ref X) else none) = some b := h
    by_cases hc : C ∈ [C_BadMachine, C_BadParts]
    · rw [if_pos hc] at h'
      exact h'
    · rw [if_neg hc] at h'
      cases h'
  have exm_cls : ∀ C X b, Γ.exm C X = some b → ExcC K C := fun C X b h => by
    have h' : (if C ∈ [C_BadMachine, C_BadParts] then PySem.W.exmOne K (.ref C) (.ref X) else none) = some b := h
    by_cases hc : C ∈ [C_BadMachine, C_BadParts]
    · simp only [List.mem_cons, List.not_mem_nil, or_false] at hc
      rcases hc with rfl | rfl
      · exact xe_BadMachine
      · exact xe_BadParts
    · rw [if_neg hc] at h'
      cases h'
  have b_ValueError : mg (PySem.Str.ofString "ValueError") = none := PySem.W.mg_none_of X G z_ValueError
  have b_all : mg (PySem.Str.ofString "all") = none := PySem.W.mg_none_of X G z_all
  have b_any : mg (PySem.Str.ofString "any") = none := PySem.W.mg_none_of X G z_any
  have b_bool : mg (PySem.Str.ofString "bool") = none := PySem.W.mg_none_of X G z_bool
  have b_dict : mg (PySem.Str.ofString "dict") = none := PySem.W.mg_none_of X G z_dict
  have b_divmod : mg (PySem.Str.ofString "divmod") = none := PySem.W.mg_none_of X G z_divmod
  have b_enumerate : mg (PySem.Str.ofString "enumerate") = none := PySem.W.mg_none_of X G z_enumerate
  have b_int : mg (PySem.Str.ofString "int") = none := PySem.W.mg_none_of X G z_int
  have b_isinstance : mg (PySem.Str.ofString "isinstance") = none := PySem.W.mg_none_of X G z_isinstance
  have b_len : mg (PySem.Str.ofString "len") = none := PySem.W.mg_none_of X G z_len
  have b_list : mg (PySem.Str.ofString "list") = none := PySem.W.mg_none_of X G z_list
  have b_range : mg (PySem.Str.ofString "range") = none := PySem.W.mg_none_of X G z_range
  have b_tuple : mg (PySem.Str.ofString "tuple") = none := PySem.W.mg_none_of X G z_tuple
  have b_zip : mg (PySem.Str.ofString "zip") = none := PySem.W.mg_none_of X G z_zip
  have cl_Tape : ClTape K Γ.Tape := ⟨⟨pg_Tape, hd_Tape, po_Tape, sa_Tape⟩, n_Tape_rows, n_Tape_marks, n_Tape_states⟩
  have cl_Parts : ClParts K Γ.Parts := ⟨⟨pg_Parts, hd_Parts, po_Parts, sa_Parts⟩, n_Parts_rule, n_Parts_source, n_Parts_sizes⟩
  have cl_FlyStair : ClFlyStair K Γ.FlyStair := ⟨⟨pg_FlyStair, hd_FlyStair, po_FlyStair, sa_FlyStair⟩, n_FlyStair_lower, n_FlyStair_upper⟩
  have T : Txt K mg Γ := ⟨b_ValueError, b_all, b_any, b_bool, b_dict, b_divmod, b_enumerate, b_int, b_isinstance, b_len, b_list, b_range, b_tuple, b_zip, ⟨_, PySem.W.mg_of X G m_MOST_CELLS⟩, ⟨_, PySem.W.mg_of X G m_QUIET, (KIs.tup (its := [(.int 0 tk_QUIET_0), (.int 0 tk_QUIET_1), (.int 0 tk_QUIET_2)]) tl_QUIET rfl rfl (Nat.le_of_lt (small1000 (by show 3 ≤ 1000; decide))) ⟨KIs.int, ⟨KIs.int, ⟨KIs.int, trivial⟩⟩⟩)⟩, cl_Tape, cl_Parts, cl_FlyStair, g_BackError, g_BadMachine, g_BadParts, ro_BadMachine, ro_BadParts, exm_ok, exm_cls, fun C v b h => h⟩
  have F_is_whole := fun_mk (st := s_is_whole) l_is_whole c_is_whole k_is_whole
  have B_is_whole := F_is_whole.binds (ps := ["value"]) fun _ _ _ _ _ _ us hl => match us, hl with | [_], _ => rfl
  have F_is_number := fun_mk (st := s_is_number) l_is_number c_is_number k_is_number
  have B_is_number := F_is_number.binds (ps := ["value", "low", "high"]) fun _ _ _ _ _ _ us hl => match us, hl with | [_, _, _], _ => rfl
  have F_is_row := fun_mk (st := s_is_row) l_is_row c_is_row k_is_row
  have B_is_row := F_is_row.binds (ps := ["row", "marks", "states"]) fun _ _ _ _ _ _ us hl => match us, hl with | [_, _, _], _ => rfl
  have F_Tape_init := fun_mk (st := s_Tape_init) l_Tape_init c_Tape_init k_Tape_init
  have B_Tape_init := F_Tape_init.binds (ps := ["self", "marks", "states", "rows"]) fun _ _ _ _ _ _ us hl => match us, hl with | [_, _, _, _], _ => rfl
  have F_law_tape := fun_mk (st := s_law_tape) l_law_tape c_law_tape k_law_tape
  have B_law_tape := F_law_tape.binds (ps := ["numbers", "most_states"]) fun _ _ _ _ _ _ us hl => match us, hl with | [_, _], _ => rfl
  have F_all_triples := fun_mk (st := s_all_triples) l_all_triples c_all_triples k_all_triples
  have B_all_triples := F_all_triples.binds (ps := ["sizes"]) fun _ _ _ _ _ _ us hl => match us, hl with | [_], _ => rfl
  have F_whole_rule := fun_mk (st := s_whole_rule) l_whole_rule c_whole_rule k_whole_rule
  have B_whole_rule := F_whole_rule.binds (ps := ["sizes", "changes"]) fun _ _ _ _ _ _ us hl => match us, hl with | [_, _], _ => rfl
  have F_are_numbers := fun_mk (st := s_are_numbers) l_are_numbers c_are_numbers k_are_numbers
  have B_are_numbers := F_are_numbers.binds (ps := ["value", "low", "high"]) fun _ _ _ _ _ _ us hl => match us, hl with | [_, _, _], _ => rfl
  have F_is_sizes := fun_mk (st := s_is_sizes) l_is_sizes c_is_sizes k_is_sizes
  have B_is_sizes := F_is_sizes.binds (ps := ["value"]) fun _ _ _ _ _ _ us hl => match us, hl with | [_], _ => rfl
  have F_is_triple := fun_mk (st := s_is_triple) l_is_triple c_is_triple k_is_triple
  have B_is_triple := F_is_triple.binds (ps := ["value", "sizes"]) fun _ _ _ _ _ _ us hl => match us, hl with | [_, _], _ => rfl
  have F_Parts_init := fun_mk (st := s_Parts_init) l_Parts_init c_Parts_init k_Parts_init
  have B_Parts_init := F_Parts_init.binds (ps := ["self", "sizes", "changes"]) fun _ _ _ _ _ _ us hl => match us, hl with | [_, _, _], _ => rfl
  have F_many_memories := fun_mk (st := s_many_memories) l_many_memories c_many_memories k_many_memories
  have B_many_memories := F_many_memories.binds (ps := ["machine"]) fun _ _ _ _ _ _ us hl => match us, hl with | [_], _ => rfl
  have F_headed := fun_mk (st := s_headed) l_headed c_headed k_headed
  have B_headed := F_headed.binds (ps := ["marks", "state", "mark"]) fun _ _ _ _ _ _ us hl => match us, hl with | [_, _, _], _ => rfl
  have F_quiet_changes := fun_mk (st := s_quiet_changes) l_quiet_changes c_quiet_changes k_quiet_changes
  have B_quiet_changes := F_quiet_changes.binds (ps := ["machine"]) fun _ _ _ _ _ _ us hl => match us, hl with | [_], _ => rfl
  have F_Tape_row := fun_mk (st := s_Tape_row) l_Tape_row c_Tape_row k_Tape_row
  have B_Tape_row := F_Tape_row.binds (ps := ["self", "state", "mark"]) fun _ _ _ _ _ _ us hl => match us, hl with | [_, _, _], _ => rfl
  have F_memory_of := fun_mk (st := s_memory_of) l_memory_of c_memory_of k_memory_of
  have B_memory_of := F_memory_of.binds (ps := ["marks", "state", "mark"]) fun _ _ _ _ _ _ us hl => match us, hl with | [_, _, _], _ => rfl
  have F_row_changes := fun_mk (st := s_row_changes) l_row_changes c_row_changes k_row_changes
  have B_row_changes := F_row_changes.binds (ps := ["machine", "state", "mark"]) fun _ _ _ _ _ _ us hl => match us, hl with | [_, _, _], _ => rfl
  have F_line_changes := fun_mk (st := s_line_changes) l_line_changes c_line_changes k_line_changes
  have B_line_changes := F_line_changes.binds (ps := ["machine"]) fun _ _ _ _ _ _ us hl => match us, hl with | [_], _ => rfl
  have F_FlyStair_init := fun_mk (st := s_FlyStair_init) l_FlyStair_init c_FlyStair_init k_FlyStair_init
  have B_FlyStair_init := F_FlyStair_init.binds (ps := ["self", "machine"]) fun _ _ _ _ _ _ us hl => match us, hl with | [_, _], _ => rfl
  have F_law_mixed := fun_mk (st := s_law_mixed) l_law_mixed c_law_mixed k_law_mixed
  have B_law_mixed := F_law_mixed.binds (ps := ["cell", "k"]) fun _ _ _ _ _ _ us hl => match us, hl with | [_, _], _ => rfl
  have F_law_digits := fun_mk (st := s_law_digits) l_law_digits c_law_digits k_law_digits
  have B_law_digits := F_law_digits.binds (ps := ["cell", "count", "many"]) fun _ _ _ _ _ _ us hl => match us, hl with | [_, _, _], _ => rfl
  have F_law_trim := fun_mk (st := s_law_trim) l_law_trim c_law_trim k_law_trim
  have B_law_trim := F_law_trim.binds (ps := ["row"]) fun _ _ _ _ _ _ us hl => match us, hl with | [_], _ => rfl
  have F_law_upper := fun_mk (st := s_law_upper) l_law_upper c_law_upper k_law_upper
  have B_law_upper := F_law_upper.binds (ps := ["machine", "cell"]) fun _ _ _ _ _ _ us hl => match us, hl with | [_, _], _ => rfl
  have F_head_place := fun_mk (st := s_head_place) l_head_place c_head_place k_head_place
  have B_head_place := F_head_place.binds (ps := ["marks", "line"]) fun _ _ _ _ _ _ us hl => match us, hl with | [_, _], _ => rfl
  have F_trimmed := fun_mk (st := s_trimmed) l_trimmed c_trimmed k_trimmed
  have B_trimmed := F_trimmed.binds (ps := ["marks"]) fun _ _ _ _ _ _ us hl => match us, hl with | [_], _ => rfl
  have F_tape_at := fun_mk (st := s_tape_at) l_tape_at c_tape_at k_tape_at
  have B_tape_at := F_tape_at.binds (ps := ["marks", "line", "place"]) fun _ _ _ _ _ _ us hl => match us, hl with | [_, _, _], _ => rfl
  have F_FlyStair_up := fun_mk (st := s_FlyStair_up) l_FlyStair_up c_FlyStair_up k_FlyStair_up
  have B_FlyStair_up := F_FlyStair_up.binds (ps := ["self", "configuration"]) fun _ _ _ _ _ _ us hl => match us, hl with | [_, _], _ => rfl
  have F_FlyStair_memories := fun_mk (st := s_FlyStair_memories) l_FlyStair_memories c_FlyStair_memories k_FlyStair_memories
  have B_FlyStair_memories := F_FlyStair_memories.binds (ps := ["self", "configuration"]) fun _ _ _ _ _ _ us hl => match us, hl with | [_, _], _ => rfl
  have F_stripped := fun_mk (st := s_stripped) l_stripped c_stripped k_stripped
  have B_stripped := F_stripped.binds (ps := ["cells"]) fun _ _ _ _ _ _ us hl => match us, hl with | [_], _ => rfl
  have F_gathered := fun_mk (st := s_gathered) l_gathered c_gathered k_gathered
  have B_gathered := F_gathered.binds (ps := ["line"]) fun _ _ _ _ _ _ us hl => match us, hl with | [_], _ => rfl
  have F_Parts_back := fun_mk (st := s_Parts_back) l_Parts_back c_Parts_back k_Parts_back
  have B_Parts_back := F_Parts_back.binds (ps := ["self", "configuration"]) fun _ _ _ _ _ _ us hl => match us, hl with | [_, _], _ => rfl
  have F_Parts_run_back := fun_mk (st := s_Parts_run_back) l_Parts_run_back c_Parts_run_back k_Parts_run_back
  have B_Parts_run_back := F_Parts_run_back.binds (ps := ["self", "configuration", "steps"]) fun _ _ _ _ _ _ us hl => match us, hl with | [_, _, _], _ => rfl
  have F_law_past := fun_mk (st := s_law_past) l_law_past c_law_past k_law_past
  have B_law_past := F_law_past.binds (ps := ["stair", "line"]) fun _ _ _ _ _ _ us hl => match us, hl with | [_, _], _ => rfl
  have F_law_cell := fun_mk (st := s_law_cell) l_law_cell c_law_cell k_law_cell
  have B_law_cell := F_law_cell.binds (ps := ["script", "k"]) fun _ _ _ _ _ _ us hl => match us, hl with | [_, _], _ => rfl
  have F_law_line := fun_mk (st := s_law_line) l_law_line c_law_line k_law_line
  have B_law_line := F_law_line.binds (ps := ["machine", "configuration"]) fun _ _ _ _ _ _ us hl => match us, hl with | [_, _], _ => rfl
  have F_Parts_step := fun_mk (st := s_Parts_step) l_Parts_step c_Parts_step k_Parts_step
  have B_Parts_step := F_Parts_step.binds (ps := ["self", "configuration"]) fun _ _ _ _ _ _ us hl => match us, hl with | [_, _], _ => rfl
  have F_Parts_run := fun_mk (st := s_Parts_run) l_Parts_run c_Parts_run k_Parts_run
  have B_Parts_run := F_Parts_run.binds (ps := ["self", "configuration", "steps"]) fun _ _ _ _ _ _ us hl => match us, hl with | [_, _, _], _ => rfl
  have F_past := fun_mk (st := s_past) l_past c_past k_past
  have B_past := F_past.binds (ps := ["stair", "line"]) fun _ _ _ _ _ _ us hl => match us, hl with | [_, _], _ => rfl
  have F_law_asked := fun_mk (st := s_law_asked) l_law_asked c_law_asked k_law_asked
  have B_law_asked := F_law_asked.binds (ps := ["stair", "line"]) fun _ _ _ _ _ _ us hl => match us, hl with | [_, _], _ => rfl
  have F_law := fun_mk (st := s_law) l_law c_law k_law
  have B_law := F_law.binds (ps := ["script"]) fun _ _ _ _ _ _ us hl => match us, hl with | [_], _ => rfl
  refine ⟨PySem.W.fnOf "law" "law" (defArgs s_law) (defBody s_law) (defScope s_law) .none kV_law dc_law pm_law an_law cd_law ct_law, fun s v => .of_eq rfl, fun base _ _ => ?_⟩
  have G_is_whole : GFn l.prog w K mg base (PySem.Str.ofString "is_whole") 1 ["value"] (sp_is_whole Γ) := ⟨⟨f_is_whole, _, ok_is_whole F_is_whole T , PySem.W.mg_of X G a_is_whole, k_is_whole, B_is_whole⟩⟩
  have G_is_number : GFn l.prog w K mg base (PySem.Str.ofString "is_number") 2 ["value", "low", "high"] (sp_is_number Γ) := ⟨⟨f_is_number, _, ok_is_number F_is_number T G_is_whole, PySem.W.mg_of X G a_is_number, k_is_number, B_is_number⟩⟩
  have G_is_row : GFn l.prog w K mg base (PySem.Str.ofString "is_row") 3 ["row", "marks", "states"] (sp_is_row Γ) := ⟨⟨f_is_row, _, ok_is_row F_is_row T G_is_number, PySem.W.mg_of X G a_is_row, k_is_row, B_is_row⟩⟩
  have G_Tape_init : GMk l.prog w K mg base (PySem.Str.ofString "Tape") Γ.Tape 4 ["self", "marks", "states", "rows"] (sp_Tape_init Γ) := ⟨⟨f_Tape_init, _, ok_Tape_init F_Tape_init T G_is_number G_is_row, PySem.W.mg_of X G A_Tape, ⟨mk_Tape, a_Tape_init, i_Tape_init, kc_Tape⟩, B_Tape_init⟩⟩
  have G_law_tape : GFn l.prog w K mg base (PySem.Str.ofString "_law_tape") 6 ["numbers", "most_states"] (sp_law_tape Γ) := ⟨⟨f_law_tape, _, ok_law_tape F_law_tape T G_Tape_init, PySem.W.mg_of X G a_law_tape, k_law_tape, B_law_tape⟩⟩
  have G_all_triples : GFn l.prog w K mg base (PySem.Str.ofString "all_triples") 1 ["sizes"] (sp_all_triples Γ) := ⟨⟨f_all_triples, _, ok_all_triples F_all_triples T , PySem.W.mg_of X G a_all_triples, k_all_triples, B_all_triples⟩⟩
  have G_whole_rule : GFn l.prog w K mg base (PySem.Str.ofString "whole_rule") 2 ["sizes", "changes"] (sp_whole_rule Γ) := ⟨⟨f_whole_rule, _, ok_whole_rule F_whole_rule T G_all_triples, PySem.W.mg_of X G a_whole_rule, k_whole_rule, B_whole_rule⟩⟩
  have G_are_numbers : GFn l.prog w K mg base (PySem.Str.ofString "are_numbers") 3 ["value", "low", "high"] (sp_are_numbers Γ) := ⟨⟨f_are_numbers, _, ok_are_numbers F_are_numbers T G_is_number, PySem.W.mg_of X G a_are_numbers, k_are_numbers, B_are_numbers⟩⟩
  have G_is_sizes : GFn l.prog w K mg base (PySem.Str.ofString "is_sizes") 4 ["value"] (sp_is_sizes Γ) := ⟨⟨f_is_sizes, _, ok_is_sizes F_is_sizes T G_are_numbers, PySem.W.mg_of X G a_is_sizes, k_is_sizes, B_is_sizes⟩⟩
  have G_is_triple : GFn l.prog w K mg base (PySem.Str.ofString "is_triple") 3 ["value", "sizes"] (sp_is_triple Γ) := ⟨⟨f_is_triple, _, ok_is_triple F_is_triple T G_is_number, PySem.W.mg_of X G a_is_triple, k_is_triple, B_is_triple⟩⟩
  have G_Parts_init : GMk l.prog w K mg base (PySem.Str.ofString "Parts") Γ.Parts 5 ["self", "sizes", "changes"] (sp_Parts_init Γ) := ⟨⟨f_Parts_init, _, ok_Parts_init F_Parts_init T G_whole_rule G_is_sizes G_is_triple, PySem.W.mg_of X G A_Parts, ⟨mk_Parts, a_Parts_init, i_Parts_init, kc_Parts⟩, B_Parts_init⟩⟩
  have G_many_memories : GFn l.prog w K mg base (PySem.Str.ofString "many_memories") 1 ["machine"] (sp_many_memories Γ) := ⟨⟨f_many_memories, _, ok_many_memories F_many_memories T , PySem.W.mg_of X G a_many_memories, k_many_memories, B_many_memories⟩⟩
  have G_headed : GFn l.prog w K mg base (PySem.Str.ofString "headed") 1 ["marks", "state", "mark"] (sp_headed Γ) := ⟨⟨f_headed, _, ok_headed F_headed T , PySem.W.mg_of X G a_headed, k_headed, B_headed⟩⟩
  have G_quiet_changes : GFn l.prog w K mg base (PySem.Str.ofString "quiet_changes") 2 ["machine"] (sp_quiet_changes Γ) := ⟨⟨f_quiet_changes, _, ok_quiet_changes F_quiet_changes T G_many_memories G_headed, PySem.W.mg_of X G a_quiet_changes, k_quiet_changes, B_quiet_changes⟩⟩
  have G_Tape_row : GMt l.prog w K mg base Γ.Tape (PySem.Str.ofString "row") 3 ["self", "state", "mark"] (sp_Tape_row Γ) := ⟨⟨f_Tape_row, _, ok_Tape_row F_Tape_row T G_is_number, ⟨a_Tape_row, i_Tape_row, k_Tape_row⟩, B_Tape_row⟩⟩
  have G_memory_of : GFn l.prog w K mg base (PySem.Str.ofString "memory_of") 1 ["marks", "state", "mark"] (sp_memory_of Γ) := ⟨⟨f_memory_of, _, ok_memory_of F_memory_of T , PySem.W.mg_of X G a_memory_of, k_memory_of, B_memory_of⟩⟩
  have G_row_changes : GFn l.prog w K mg base (PySem.Str.ofString "row_changes") 4 ["machine", "state", "mark"] (sp_row_changes Γ) := ⟨⟨f_row_changes, _, ok_row_changes F_row_changes T G_Tape_row G_memory_of G_headed G_many_memories, PySem.W.mg_of X G a_row_changes, k_row_changes, B_row_changes⟩⟩
  have G_line_changes : GFn l.prog w K mg base (PySem.Str.ofString "line_changes") 5 ["machine"] (sp_line_changes Γ) := ⟨⟨f_line_changes, _, ok_line_changes F_line_changes T G_quiet_changes G_row_changes, PySem.W.mg_of X G a_line_changes, k_line_changes, B_line_changes⟩⟩
  have G_FlyStair_init : GMk l.prog w K mg base (PySem.Str.ofString "FlyStair") Γ.FlyStair 7 ["self", "machine"] (sp_FlyStair_init Γ) := ⟨⟨f_FlyStair_init, _, ok_FlyStair_init F_FlyStair_init T G_Parts_init G_is_sizes G_line_changes G_many_memories, PySem.W.mg_of X G A_FlyStair, ⟨mk_FlyStair, a_FlyStair_init, i_FlyStair_init, kc_FlyStair⟩, B_FlyStair_init⟩⟩
  have G_law_mixed : GFn l.prog w K mg base (PySem.Str.ofString "_law_mixed") 1 ["cell", "k"] (sp_law_mixed Γ) := ⟨⟨f_law_mixed, _, ok_law_mixed F_law_mixed T , PySem.W.mg_of X G a_law_mixed, k_law_mixed, B_law_mixed⟩⟩
  have G_law_digits : GFn l.prog w K mg base (PySem.Str.ofString "_law_digits") 2 ["cell", "count", "many"] (sp_law_digits Γ) := ⟨⟨f_law_digits, _, ok_law_digits F_law_digits T G_law_mixed, PySem.W.mg_of X G a_law_digits, k_law_digits, B_law_digits⟩⟩
  have G_law_trim : GFn l.prog w K mg base (PySem.Str.ofString "_law_trim") 1 ["row"] (sp_law_trim Γ) := ⟨⟨f_law_trim, _, ok_law_trim F_law_trim T , PySem.W.mg_of X G a_law_trim, k_law_trim, B_law_trim⟩⟩
  have G_law_upper : GFn l.prog w K mg base (PySem.Str.ofString "_law_upper") 3 ["machine", "cell"] (sp_law_upper Γ) := ⟨⟨f_law_upper, _, ok_law_upper F_law_upper T G_law_digits G_law_trim, PySem.W.mg_of X G a_law_upper, k_law_upper, B_law_upper⟩⟩
  have G_head_place : GFn l.prog w K mg base (PySem.Str.ofString "head_place") 1 ["marks", "line"] (sp_head_place Γ) := ⟨⟨f_head_place, _, ok_head_place F_head_place T , PySem.W.mg_of X G a_head_place, k_head_place, B_head_place⟩⟩
  have G_trimmed : GFn l.prog w K mg base (PySem.Str.ofString "trimmed") 1 ["marks"] (sp_trimmed Γ) := ⟨⟨f_trimmed, _, ok_trimmed F_trimmed T , PySem.W.mg_of X G a_trimmed, k_trimmed, B_trimmed⟩⟩
  have G_tape_at : GFn l.prog w K mg base (PySem.Str.ofString "tape_at") 2 ["marks", "line", "place"] (sp_tape_at Γ) := ⟨⟨f_tape_at, _, ok_tape_at F_tape_at T G_trimmed, PySem.W.mg_of X G a_tape_at, k_tape_at, B_tape_at⟩⟩
  have G_FlyStair_up : GMt l.prog w K mg base Γ.FlyStair (PySem.Str.ofString "up") 3 ["self", "configuration"] (sp_FlyStair_up Γ) := ⟨⟨f_FlyStair_up, _, ok_FlyStair_up F_FlyStair_up T G_head_place G_tape_at G_many_memories, ⟨a_FlyStair_up, i_FlyStair_up, k_FlyStair_up⟩, B_FlyStair_up⟩⟩
  have G_FlyStair_memories : GMt l.prog w K mg base Γ.FlyStair (PySem.Str.ofString "memories") 2 ["self", "configuration"] (sp_FlyStair_memories Γ) := ⟨⟨f_FlyStair_memories, _, ok_FlyStair_memories F_FlyStair_memories T G_many_memories, ⟨a_FlyStair_memories, i_FlyStair_memories, k_FlyStair_memories⟩, B_FlyStair_memories⟩⟩
  have G_stripped : GFn l.prog w K mg base (PySem.Str.ofString "stripped") 1 ["cells"] (sp_stripped Γ) := ⟨⟨f_stripped, _, ok_stripped F_stripped T , PySem.W.mg_of X G a_stripped, k_stripped, B_stripped⟩⟩
  have G_gathered : GFn l.prog w K mg base (PySem.Str.ofString "gathered") 1 ["line"] (sp_gathered Γ) := ⟨⟨f_gathered, _, ok_gathered F_gathered T , PySem.W.mg_of X G a_gathered, k_gathered, B_gathered⟩⟩
  have G_Parts_back : GMt l.prog w K mg base Γ.Parts (PySem.Str.ofString "back") 2 ["self", "configuration"] (sp_Parts_back Γ) := ⟨⟨f_Parts_back, _, ok_Parts_back F_Parts_back T G_stripped G_gathered, ⟨a_Parts_back, i_Parts_back, k_Parts_back⟩, B_Parts_back⟩⟩
  have G_Parts_run_back : GMt l.prog w K mg base Γ.Parts (PySem.Str.ofString "run_back") 3 ["self", "configuration", "steps"] (sp_Parts_run_back Γ) := ⟨⟨f_Parts_run_back, _, ok_Parts_run_back F_Parts_run_back T G_Parts_back, ⟨a_Parts_run_back, i_Parts_run_back, k_Parts_run_back⟩, B_Parts_run_back⟩⟩
  have G_law_past : GFn l.prog w K mg base (PySem.Str.ofString "_law_past") 4 ["stair", "line"] (sp_law_past Γ) := ⟨⟨f_law_past, _, ok_law_past F_law_past T G_FlyStair_up G_FlyStair_memories G_Parts_run_back, PySem.W.mg_of X G a_law_past, k_law_past, B_law_past⟩⟩
  have G_law_cell : GFn l.prog w K mg base (PySem.Str.ofString "_law_cell") 1 ["script", "k"] (sp_law_cell Γ) := ⟨⟨f_law_cell, _, ok_law_cell F_law_cell T , PySem.W.mg_of X G a_law_cell, k_law_cell, B_law_cell⟩⟩
  have G_law_line : GFn l.prog w K mg base (PySem.Str.ofString "_law_line") 1 ["machine", "configuration"] (sp_law_line Γ) := ⟨⟨f_law_line, _, ok_law_line F_law_line T , PySem.W.mg_of X G a_law_line, k_law_line, B_law_line⟩⟩
  have G_Parts_step : GMt l.prog w K mg base Γ.Parts (PySem.Str.ofString "step") 2 ["self", "configuration"] (sp_Parts_step Γ) := ⟨⟨f_Parts_step, _, ok_Parts_step F_Parts_step T G_stripped G_gathered, ⟨a_Parts_step, i_Parts_step, k_Parts_step⟩, B_Parts_step⟩⟩
  have G_Parts_run : GMt l.prog w K mg base Γ.Parts (PySem.Str.ofString "run") 3 ["self", "configuration", "steps"] (sp_Parts_run Γ) := ⟨⟨f_Parts_run, _, ok_Parts_run F_Parts_run T G_Parts_step, ⟨a_Parts_run, i_Parts_run, k_Parts_run⟩, B_Parts_run⟩⟩
  have G_past : GFn l.prog w K mg base (PySem.Str.ofString "past") 4 ["stair", "line"] (sp_past Γ) := ⟨⟨f_past, _, ok_past F_past T G_FlyStair_up G_Parts_run_back G_FlyStair_memories, PySem.W.mg_of X G a_past, k_past, B_past⟩⟩
  have G_law_asked : GFn l.prog w K mg base (PySem.Str.ofString "_law_asked") 5 ["stair", "line"] (sp_law_asked Γ) := ⟨⟨f_law_asked, _, ok_law_asked F_law_asked T G_past, PySem.W.mg_of X G a_law_asked, k_law_asked, B_law_asked⟩⟩
  have r := ok_law (P := l.prog) (w := w) (base := base) F_law T G_law_tape G_FlyStair_init G_law_upper G_law_digits G_law_past G_law_cell G_law_line G_Parts_run G_law_asked
  exact r
theorem walk {l : PySem.W.OpenLaw} {q : Program} {loose : List Str} {XP : (Str → Option Value) → Heap → Prop} {YP : World → Heap → Prop} {d : DefRec} {K : Params → PySem.W.Frag} (hn : l.most = some 63) (hdf : d.params.defaults = [])
    (hY : ∀ (w : World) (h : Heap), YP w h → (K w.params).In h)
    (F : ∀ (w : World) (mg : Str → Option Value) (fa : Addr) (h : Heap), (K w.params).In h → h.Ns mainGlobals mg → mg d.name = some (.ref fa) →
      ∃ fd : FuncData, (∀ (s : Shared) (u : Value), BindsTo s fd ⟨[u], []⟩ [("script", u)]) ∧ ∀ base : Heap, (K w.params).In base → base.Ns mainGlobals mg → FnOk l.prog w (K w.params) mg base (L2.CX l.prog w) 9 fa fd ["script"] (lift (K w.params) 1 sp_top)) :
    PySem.W.WalkO q loose XP YP l.row.toRowW d [] (fun f vs => PySem.call f vs) :=
  L2.walk_of (n := 63) (k := 9) (x := "script") (CX := fun w => L2.CX l.prog w) (sp := fun w => lift (K w.params) 1 sp_top) hn (by decide) hdf ⟨rfl, by decide, by decide⟩ hY F (fun w H a ns hl _ hS => top_law hl hS) fun _ _ _ _ _ z => top_cx z
end My
set_option Elab.async false
set_option linter.all false
open PySem PySem.W PyProof.Rows
set_option maxRecDepth 100000 in
set_option maxHeartbeats 0 in
theorem PySem.Challenge.cw_backstair_k66_pasts_that_are_none_holds : PySem.Challenge.rw_backstair_k66_pasts_that_are_none.Holds := by
  w_on; refine My.early fun said => ?_
  k_head; (case hw => w_witness2)
  k_fill
  refine My.walk (l := PySem.Challenge.rw_backstair_k66_pasts_that_are_none) rfl rfl (fun w h Y => PySem.W.kIn_of Y) ?F
  case F =>
    intro w mg fa h KX G hmg
    refine' My.all_mk KX G hmg ?A_BackError ?A_BadMachine ?A_BadParts ?A_FlyStair ?A_Parts ?A_Tape ?a_is_whole ?l_is_whole ?c_is_whole ?k_is_whole ?a_is_number ?l_is_number ?c_is_number ?k_is_number ?a_is_row ?l_is_row ?c_is_row ?k_is_row ?a_Tape_init ?i_Tape_init ?l_Tape_init ?c_Tape_init ?k_Tape_init ?a_law_tape ?l_law_tape ?c_law_tape ?k_law_tape ?a_all_triples ?l_all_triples ?c_all_triples ?k_all_triples ?a_whole_rule ?l_whole_rule ?c_whole_rule ?k_whole_rule ?a_are_numbers ?l_are_numbers ?c_are_numbers ?k_are_numbers ?a_is_sizes ?l_is_sizes ?c_is_sizes ?k_is_sizes ?a_is_triple ?l_is_triple ?c_is_triple ?k_is_triple ?a_Parts_init ?i_Parts_init ?l_Parts_init ?c_Parts_init ?k_Parts_init ?a_many_memories ?l_many_memories ?c_many_memories ?k_many_memories ?a_headed ?l_headed ?c_headed ?k_headed ?a_quiet_changes ?l_quiet_changes ?c_quiet_changes ?k_quiet_changes ?a_Tape_row ?i_Tape_row ?l_Tape_row ?c_Tape_row ?k_Tape_row ?a_memory_of ?l_memory_of ?c_memory_of ?k_memory_of ?a_row_changes ?l_row_changes ?c_row_changes ?k_row_changes ?a_line_changes ?l_line_changes ?c_line_changes ?k_line_changes ?a_FlyStair_init ?i_FlyStair_init ?l_FlyStair_init ?c_FlyStair_init ?k_FlyStair_init ?a_law_mixed ?l_law_mixed ?c_law_mixed ?k_law_mixed ?a_law_digits ?l_law_digits ?c_law_digits ?k_law_digits ?a_law_trim ?l_law_trim ?c_law_trim ?k_law_trim ?a_law_upper ?l_law_upper ?c_law_upper ?k_law_upper ?a_head_place ?l_head_place ?c_head_place ?k_head_place ?a_trimmed ?l_trimmed ?c_trimmed ?k_trimmed ?a_tape_at ?l_tape_at ?c_tape_at ?k_tape_at ?a_FlyStair_up ?i_FlyStair_up ?l_FlyStair_up ?c_FlyStair_up ?k_FlyStair_up ?a_FlyStair_memories ?i_FlyStair_memories ?l_FlyStair_memories ?c_FlyStair_memories ?k_FlyStair_memories ?a_stripped ?l_stripped ?c_stripped ?k_stripped ?a_gathered ?l_gathered ?c_gathered ?k_gathered ?a_Parts_back ?i_Parts_back ?l_Parts_back ?c_Parts_back ?k_Parts_back ?a_Parts_run_back ?i_Parts_run_back ?l_Parts_run_back ?c_Parts_run_back ?k_Parts_run_back ?a_law_past ?l_law_past ?c_law_past ?k_law_past ?a_law_cell ?l_law_cell ?c_law_cell ?k_law_cell ?a_law_line ?l_law_line ?c_law_line ?k_law_line ?a_Parts_step ?i_Parts_step ?l_Parts_step ?c_Parts_step ?k_Parts_step ?a_Parts_run ?i_Parts_run ?l_Parts_run ?c_Parts_run ?k_Parts_run ?a_past ?l_past ?c_past ?k_past ?a_law_asked ?l_law_asked ?c_law_asked ?k_law_asked ?a_law ?l_law ?c_law ?k_law ?pg_Tape ?hd_Tape ?po_Tape ?sa_Tape ?mk_Tape ?kc_Tape ?n_Tape_rows ?n_Tape_marks ?n_Tape_states ?pg_Parts ?hd_Parts ?po_Parts ?sa_Parts ?mk_Parts ?kc_Parts ?n_Parts_rule ?n_Parts_source ?n_Parts_sizes ?pg_FlyStair ?hd_FlyStair ?po_FlyStair ?sa_FlyStair ?mk_FlyStair ?kc_FlyStair ?n_FlyStair_lower ?n_FlyStair_upper ?x_BadMachine ?xk_BadMachine ?xb_BadMachine ?xt_BadMachine ?xg_BadMachine ?xa_BadMachine ?xd_BadMachine ?xc_BadMachine ?xm_BadMachine ?x_BadParts ?xk_BadParts ?xb_BadParts ?xt_BadParts ?xg_BadParts ?xa_BadParts ?xd_BadParts ?xc_BadParts ?xm_BadParts ?xn_0 ?xs_0 ?e_BadMachine_BackError ?e_BadParts_BackError ?k_BadMachine_BadParts ?k_BadMachine_ValueError ?k_BadParts_BadParts ?k_BadParts_ValueError ?m_MOST_CELLS ?m_QUIET ?tl_QUIET ?z_ValueError ?z_all ?z_any ?z_bool ?z_dict ?z_divmod ?z_enumerate ?z_int ?z_isinstance ?z_len ?z_list ?z_range ?z_tuple ?z_zip
    (case A_BackError => k_is)
    (case A_BadMachine => k_is)
    (case A_BadParts => k_is)
    (case A_FlyStair => k_is)
    (case A_Parts => k_is)
    (case A_Tape => k_is)
    (case a_is_whole => k_is)
    (case l_is_whole => k_is)
    (case c_is_whole => k_is)
    (case k_is_whole => k_is)
    (case a_is_number => k_is)
    (case l_is_number => k_is)
    (case c_is_number => k_is)
    (case k_is_number => k_is)
    (case a_is_row => k_is)
    (case l_is_row => k_is)
    (case c_is_row => k_is)
    (case k_is_row => k_is)
    (case a_Tape_init => k_is)
    (case i_Tape_init => k_is)
    (case l_Tape_init => k_is)
    (case c_Tape_init => k_is)
    (case k_Tape_init => k_is)
    (case a_law_tape => k_is)
    (case l_law_tape => k_is)
    (case c_law_tape => k_is)
    (case k_law_tape => k_is)
    (case a_all_triples => k_is)
    (case l_all_triples => k_is)
    (case c_all_triples => k_is)
    (case k_all_triples => k_is)
    (case a_whole_rule => k_is)
    (case l_whole_rule => k_is)
    (case c_whole_rule => k_is)
    (case k_whole_rule => k_is)
    (case a_are_numbers => k_is)
    (case l_are_numbers => k_is)
    (case c_are_numbers => k_is)
    (case k_are_numbers => k_is)
    (case a_is_sizes => k_is)
    (case l_is_sizes => k_is)
    (case c_is_sizes => k_is)
    (case k_is_sizes => k_is)
    (case a_is_triple => k_is)
    (case l_is_triple => k_is)
    (case c_is_triple => k_is)
    (case k_is_triple => k_is)
    (case a_Parts_init => k_is)
    (case i_Parts_init => k_is)
    (case l_Parts_init => k_is)
    (case c_Parts_init => k_is)
    (case k_Parts_init => k_is)
    (case a_many_memories => k_is)
    (case l_many_memories => k_is)
    (case c_many_memories => k_is)
    (case k_many_memories => k_is)
    (case a_headed => k_is)
    (case l_headed => k_is)
    (case c_headed => k_is)
    (case k_headed => k_is)
    (case a_quiet_changes => k_is)
    (case l_quiet_changes => k_is)
    (case c_quiet_changes => k_is)
    (case k_quiet_changes => k_is)
    (case a_Tape_row => k_is)
    (case i_Tape_row => k_is)
    (case l_Tape_row => k_is)
    (case c_Tape_row => k_is)
    (case k_Tape_row => k_is)
    (case a_memory_of => k_is)
    (case l_memory_of => k_is)
    (case c_memory_of => k_is)
    (case k_memory_of => k_is)
    (case a_row_changes => k_is)
    (case l_row_changes => k_is)
    (case c_row_changes => k_is)
    (case k_row_changes => k_is)
    (case a_line_changes => k_is)
    (case l_line_changes => k_is)
    (case c_line_changes => k_is)
    (case k_line_changes => k_is)
    (case a_FlyStair_init => k_is)
    (case i_FlyStair_init => k_is)
    (case l_FlyStair_init => k_is)
    (case c_FlyStair_init => k_is)
    (case k_FlyStair_init => k_is)
    (case a_law_mixed => k_is)
    (case l_law_mixed => k_is)
    (case c_law_mixed => k_is)
    (case k_law_mixed => k_is)
    (case a_law_digits => k_is)
    (case l_law_digits => k_is)
    (case c_law_digits => k_is)
    (case k_law_digits => k_is)
    (case a_law_trim => k_is)
    (case l_law_trim => k_is)
    (case c_law_trim => k_is)
    (case k_law_trim => k_is)
    (case a_law_upper => k_is)
    (case l_law_upper => k_is)
    (case c_law_upper => k_is)
    (case k_law_upper => k_is)
    (case a_head_place => k_is)
    (case l_head_place => k_is)
    (case c_head_place => k_is)
    (case k_head_place => k_is)
    (case a_trimmed => k_is)
    (case l_trimmed => k_is)
    (case c_trimmed => k_is)
    (case k_trimmed => k_is)
    (case a_tape_at => k_is)
    (case l_tape_at => k_is)
    (case c_tape_at => k_is)
    (case k_tape_at => k_is)
    (case a_FlyStair_up => k_is)
    (case i_FlyStair_up => k_is)
    (case l_FlyStair_up => k_is)
    (case c_FlyStair_up => k_is)
    (case k_FlyStair_up => k_is)
    (case a_FlyStair_memories => k_is)
    (case i_FlyStair_memories => k_is)
    (case l_FlyStair_memories => k_is)
    (case c_FlyStair_memories => k_is)
    (case k_FlyStair_memories => k_is)
    (case a_stripped => k_is)
    (case l_stripped => k_is)
    (case c_stripped => k_is)
    (case k_stripped => k_is)
    (case a_gathered => k_is)
    (case l_gathered => k_is)
    (case c_gathered => k_is)
    (case k_gathered => k_is)
    (case a_Parts_back => k_is)
    (case i_Parts_back => k_is)
    (case l_Parts_back => k_is)
    (case c_Parts_back => k_is)
    (case k_Parts_back => k_is)
    (case a_Parts_run_back => k_is)
    (case i_Parts_run_back => k_is)
    (case l_Parts_run_back => k_is)
    (case c_Parts_run_back => k_is)
    (case k_Parts_run_back => k_is)
    (case a_law_past => k_is)
    (case l_law_past => k_is)
    (case c_law_past => k_is)
    (case k_law_past => k_is)
    (case a_law_cell => k_is)
    (case l_law_cell => k_is)
    (case c_law_cell => k_is)
    (case k_law_cell => k_is)
    (case a_law_line => k_is)
    (case l_law_line => k_is)
    (case c_law_line => k_is)
    (case k_law_line => k_is)
    (case a_Parts_step => k_is)
    (case i_Parts_step => k_is)
    (case l_Parts_step => k_is)
    (case c_Parts_step => k_is)
    (case k_Parts_step => k_is)
    (case a_Parts_run => k_is)
    (case i_Parts_run => k_is)
    (case l_Parts_run => k_is)
    (case c_Parts_run => k_is)
    (case k_Parts_run => k_is)
    (case a_past => k_is)
    (case l_past => k_is)
    (case c_past => k_is)
    (case k_past => k_is)
    (case a_law_asked => k_is)
    (case l_law_asked => k_is)
    (case c_law_asked => k_is)
    (case k_law_asked => k_is)
    (case a_law => k_is)
    (case l_law => k_is)
    (case c_law => k_is)
    (case k_law => k_is)
    (case pg_Tape => k_is)
    (case hd_Tape => k_is)
    (case po_Tape => k_is)
    (case sa_Tape => k_is)
    (case mk_Tape => k_is)
    (case kc_Tape => k_is)
    (case n_Tape_rows => k_is)
    (case n_Tape_marks => k_is)
    (case n_Tape_states => k_is)
    (case pg_Parts => k_is)
    (case hd_Parts => k_is)
    (case po_Parts => k_is)
    (case sa_Parts => k_is)
    (case mk_Parts => k_is)
    (case kc_Parts => k_is)
    (case n_Parts_rule => k_is)
    (case n_Parts_source => k_is)
    (case n_Parts_sizes => k_is)
    (case pg_FlyStair => k_is)
    (case hd_FlyStair => k_is)
    (case po_FlyStair => k_is)
    (case sa_FlyStair => k_is)
    (case mk_FlyStair => k_is)
    (case kc_FlyStair => k_is)
    (case n_FlyStair_lower => k_is)
    (case n_FlyStair_upper => k_is)
    (case x_BadMachine => k_exc)
    (case xk_BadMachine => k_is)
    (case xb_BadMachine => k_is)
    (case xt_BadMachine => k_is)
    (case xg_BadMachine => k_is)
    (case xa_BadMachine => k_is)
    (case xd_BadMachine => k_is)
    (case xc_BadMachine => k_is)
    (case xm_BadMachine => k_is)
    (case x_BadParts => k_exc)
    (case xk_BadParts => k_is)
    (case xb_BadParts => k_is)
    (case xt_BadParts => k_is)
    (case xg_BadParts => k_is)
    (case xa_BadParts => k_is)
    (case xd_BadParts => k_is)
    (case xc_BadParts => k_is)
    (case xm_BadParts => k_is)
    (case xn_0 => k_is)
    (case xs_0 => k_is)
    (case e_BadMachine_BackError => kts_exm)
    (case e_BadParts_BackError => kts_exm)
    (case k_BadMachine_BadParts => kit_is)
    (case k_BadMachine_ValueError => kit_is)
    (case k_BadParts_BadParts => kit_is)
    (case k_BadParts_ValueError => kit_is)
    (case m_MOST_CELLS => k_is)
    (case m_QUIET => k_is)
    (case tl_QUIET => k_is)
    (case z_ValueError => k_is)
    (case z_all => k_is)
    (case z_any => k_is)
    (case z_bool => k_is)
    (case z_dict => k_is)
    (case z_divmod => k_is)
    (case z_enumerate => k_is)
    (case z_int => k_is)
    (case z_isinstance => k_is)
    (case z_len => k_is)
    (case z_list => k_is)
    (case z_range => k_is)
    (case z_tuple => k_is)
    (case z_zip => k_is)
