import PyProof.Rows.All
import Wide.All
import OpenK.AllK
import Wide.FinOn
import KE.KeyNested
import PyProof.DictRoadsH
import HandS.Dict
import HandS.ForMost
import HandS.ForExc
import HandS.TupAny
import HandS.Rev
import HandS.Conv
import HandS.IsInst
import HandS.EndBits
import PyProof.WalksMore
import HandS.TupMul
import HandS.ExcInit
import HandS.ExcIs
import HandS.ExcOwn
import HandS.Style
import HandS.SortInts
import HandS.Flow
import PyProof.P3In
import HandS.Zip
import HandS.RevRange
import HandS.Text
import HandS.ExcField
import HandS.FStr
import HandS.Deep
import HandS.Codes
import HandS.Sort
import HandS.Strs
import KE.SortData
import PySem.Challenge.RW_backstair_k05_where_a_machine_forgets
set_option Elab.async false
set_option linter.all false
set_option maxRecDepth 100000
set_option maxHeartbeats 2000000
/-! PD: dicts whose keys are any values up to ==: ints beside (nested) tuples, in one dict. -/
namespace PD
open PySem
open Sem (wp)
abbrev Row := NestedKey × Value × Value
def ent (w : World) (x : Row) : DictEntry := ⟨x.1.hash w, x.2.1, x.2.2⟩
def Keyed (h : Heap) (xs : List Row) : Prop := ∀ x ∈ xs, NestedIs h x.1 x.2.1 ∧ x.1.depth ≤ 8
def Tab (w : World) (h : Heap) (d : Addr) (xs : List Row) : Prop :=
  ∃ ob es ep, h.get? d = some ob ∧ ob.ExactDict ∧ ob.data = .dict es ep ∧ es.toList = xs.map (ent w) ∧ (xs.map (·.1)).Nodup
def at_ (xs : List Row) (k : NestedKey) : Option Value := (xs.find? fun x => decide (x.1 = k)).map (·.2.2)
theorem ent_at {w : World} {es : Array DictEntry} {xs : List Row} (hE : es.toList = xs.map (ent w)) (j : Nat) : es[j]? = (xs[j]?).map (ent w) := by
  have h := congrArg (fun l => l[j]?) hE
  simp only [List.getElem?_map] at h
  rw [← h]
  simp
theorem ent_size {w : World} {es : Array DictEntry} {xs : List Row} (hE : es.toList = xs.map (ent w)) : es.size = xs.length := by
  have h := congrArg List.length hE
  simpa using h
theorem mem_places {n : Nat} {f : Nat → Option Int} {h : Int} {i : Nat} : i ∈ placesWithHash n f h ↔ i < n ∧ f i = some h := by
  unfold placesWithHash
  rw [List.mem_filter, List.mem_range, beq_iff_eq]
theorem at_some : ∀ {xs : List Row} {j : Nat} {k : NestedKey} {p : Value × Value}, (xs.map (·.1)).Nodup → xs[j]? = some (k, p) → at_ xs k = some p.2
  | [], _, _, _, _, h => by simp at h
  | x :: r, 0, k, p, _, h => by
    have e : x = (k, p) := by simpa using h
    subst e
    unfold at_
    rw [List.find?_cons, decide_eq_true rfl]
    rfl
  | x :: r, j + 1, k, p, hn, h => by
    rw [List.map_cons, List.nodup_cons] at hn
    have h' : r[j]? = some (k, p) := h
    have ne : x.1 ≠ k := fun e => hn.1 (by rw [e]; exact List.mem_map.mpr ⟨_, List.mem_of_getElem? h', rfl⟩)
    have ih := at_some hn.2 h'
    unfold at_ at ih ⊢
    rw [List.find?_cons, decide_eq_false ne]
    exact ih
theorem at_none {xs : List Row} {k : NestedKey} (h : ∀ (j : Nat) (p : Value × Value), xs[j]? ≠ some (k, p)) : at_ xs k = none := by
  unfold at_
  rw [Option.map_eq_none_iff, List.find?_eq_none]
  intro x hx
  obtain ⟨j, hj⟩ := List.getElem?_of_mem hx
  intro e
  have e' : x.1 = k := by simpa using e
  exact h j x.2 (by rw [hj, ← e'])
section
variable {prog : Program} {w : World} {A : Around} {E : Value → Shared → Prop} {s : Shared}
/-- u == v of keys -/
theorem eq_keys {x y : NestedKey} {a b : Value} {Q : Bool → Shared → Prop} (hu : A.units + 8 < cLine) (hx : NestedIs s.heap x a) (hy : NestedIs s.heap y b) (dx : x.depth ≤ 8) (hQ : Q (decide (x = y)) s) : wpAny (model prog w) A (eqBool a b) Q E s :=
  eqAt_key x y A s _ _ hx hy (by omega) _ _ _ _ (by rw [← NestedKey.decide_eq]; exact hQ)
/-- the walk over the places of one hash -/
theorem walk_plain {d : Addr} {ob : Obj} {es : Array DictEntry} {ep : Nat} {xs : List Row} {k : NestedKey} {v : Value} {Q : Option Nat → Shared → Prop} (hu : A.units + 8 < cLine) (hk : NestedIs s.heap k v)
    (hO : s.heap.get? d = some ob) (hD : ob.data = .dict es ep) (hE : es.toList = xs.map (ent w)) (hI : Keyed s.heap xs)
    (h0 : (∀ (j : Nat) (p : Value × Value), xs[j]? ≠ some (k, p)) → Q none s) (h1 : ∀ (j : Nat) (p : Value × Value), xs[j]? = some (k, p) → Q (some j) s) :
    wpAny (model prog w) A (dictWalkPlain d v (k.hash w) es (placesWithHash es.size (fun i => es[i]?.map (·.hash)) (k.hash w))) Q E s := by
  generalize hpl : placesWithHash es.size (fun i => es[i]?.map (·.hash)) (k.hash w) = places
  have hp : ∀ i, i ∈ places ↔ i < es.size ∧ es[i]?.map (·.hash) = some (k.hash w) := fun i => by rw [← hpl]; exact mem_places
  unfold dictWalkPlain
  refine wpAny_bind ?_
  refine wpAny_forIn_list _ (fun rest r s' => s' = s ∧ r = (none, ()) ∧ ∃ pre, places = pre ++ rest ∧ ∀ j ∈ pre, ∀ p, xs[j]? ≠ some (k, p)) _ ?_ ?_ _ _ ⟨rfl, rfl, [], rfl, fun _ h => absurd h List.not_mem_nil⟩
  · rintro i rest r s' ⟨rfl, rfl, pre, hpre, hno⟩
    obtain ⟨hi, hh⟩ := (hp i).mp (by rw [hpre]; simp)
    obtain ⟨⟨k', u, x⟩, hx⟩ : ∃ y, xs[i]? = some y := ⟨_, List.getElem?_eq_getElem (by rw [← ent_size hE]; exact hi)⟩
    have hex : es[i]? = some ⟨k'.hash w, u, x⟩ := by rw [ent_at hE, hx]; rfl
    obtain ⟨ik, dk⟩ := hI _ (List.mem_of_getElem? hx)
    rw [hex] at hh ⊢
    dsimp only
    have hh' : k'.hash w = k.hash w := by simpa using hh
    rw [if_pos (by rw [hh']; simp)]
    refine wpAny_bind (wpAny_dictEpoch hO hD (wpAny_bind (eq_keys hu ik hk dk (wpAny_bind (wpAny_dictEpoch hO hD ?_)))))
    rw [if_neg (by simp)]
    by_cases e : k' = k
    · rw [if_pos (decide_eq_true e)]
      subst e
      exact wpAny_bind (wpAny_rule (wpAny_pure (wpAny_pure (h1 i _ hx))))
    · rw [if_neg (by rw [decide_eq_false e]; exact Bool.false_ne_true)]
      refine wpAny_bind (wpAny_rule (wpAny_pure ⟨rfl, rfl, pre ++ [i], by rw [hpre, List.append_assoc]; rfl, fun j hj p hxj => ?_⟩))
      rcases List.mem_append.mp hj with h | h
      · exact hno j h p hxj
      · rw [List.mem_singleton.mp h, hx] at hxj
        cases hxj
        exact e rfl
  · rintro r s' ⟨rfl, rfl, pre, hpre, hno⟩
    refine wpAny_pure (h0 fun j p hj => ?_)
    have hlt : j < es.size := by rw [ent_size hE]; exact (List.getElem?_eq_some_iff.mp hj).1
    have hmem : j ∈ places := (hp j).mpr ⟨hlt, by rw [ent_at hE, hj]; rfl⟩
    rw [hpre, List.append_nil] at hmem
    exact hno j hmem p hj
theorem may_tell {k : NestedKey} {v : Value} {stored : List Value} {Q : Bool → Shared → Prop} (hk : NestedIs s.heap k v) (kd : k.depth ≤ 8) (hst : ∀ u ∈ stored, ∃ k', NestedIs s.heap k' u ∧ k'.depth ≤ 8) (hQ : Q false s) :
    wpAny (model prog w) A (tableMayTell v stored) Q E s := by
  unfold tableMayTell
  split
  · exact wpAny_pure hQ
  refine wpAny_bind (quiet_key k v 8 s hk kd _ _ _ ?_)
  rw [if_neg (by simp)]
  refine wpAny_bind ?_
  refine wpAny_forIn_list _ (fun rest r s' => (s' = s ∧ r = (none, ())) ∧ ∀ u ∈ rest, ∃ k', NestedIs s.heap k' u ∧ k'.depth ≤ 8) _ ?_ ?_ _ _ ⟨⟨rfl, rfl⟩, hst⟩
  · rintro x rest r s' ⟨⟨rfl, rfl⟩, hr⟩
    obtain ⟨k', ik, dk⟩ := hr x List.mem_cons_self
    refine wpAny_bind (quiet_key k' x 8 s' ik dk _ _ _ ?_)
    rw [if_neg (by simp)]
    exact wpAny_pure ⟨⟨rfl, rfl⟩, fun u hu' => hr u (List.mem_cons_of_mem _ hu')⟩
  · rintro r s' ⟨⟨rfl, rfl⟩, _⟩
    exact wpAny_pure hQ
def notText : NestedKey → Prop
  | .text _ => False
  | _ => True
theorem find_key {d : Addr} {ob : Obj} {es : Array DictEntry} {ep : Nat} {xs : List Row} {k : NestedKey} {v : Value} {Q : Option Nat → Shared → Prop} (hu : A.units + 8 < cLine) (hk : NestedIs s.heap k v) (kd : k.depth ≤ 8) (nt : notText k)
    (hO : s.heap.get? d = some ob) (hD : ob.data = .dict es ep) (hE : es.toList = xs.map (ent w)) (hI : Keyed s.heap xs) (hN : (xs.map (·.1)).Nodup)
    (h0 : (∀ (j : Nat) (p : Value × Value), xs[j]? ≠ some (k, p)) → Q none s) (h1 : ∀ (j : Nat) (p : Value × Value), xs[j]? = some (k, p) → Q (some j) s) :
    wpAny (model prog w) A (dictFind d v (k.hash w)) Q E s := by
  have plain := walk_plain (prog := prog) (w := w) (A := A) (E := E) (s := s) (Q := Q) hu hk hO hD hE hI h0 h1
  have hmem : ∀ e ∈ es, ∃ x ∈ xs, e = ent w x := by
    intro e he
    have h2 : e ∈ es.toList := Array.mem_toList_iff.mpr he
    rw [hE] at h2
    obtain ⟨x, hx, rfl⟩ := List.mem_map.mp h2
    exact ⟨x, hx, rfl⟩
  have hstored : ∀ u ∈ (placesWithHash es.size (fun i => es[i]?.map (·.hash)) (k.hash w)).filterMap (fun i => es[i]?.map (·.key)), ∃ k', NestedIs s.heap k' u ∧ k'.depth ≤ 8 := by
    intro u hu2
    obtain ⟨i, _, h3⟩ := List.mem_filterMap.mp hu2
    obtain ⟨e, he, rfl⟩ := Option.map_eq_some_iff.mp h3
    obtain ⟨x, hx, rfl⟩ := hmem e (Array.mem_of_getElem? he)
    exact ⟨x.1, hI x hx⟩
  unfold dictFind
  try with_reducible refine wpAny_holding ?_
  refine wpAny_bind (wpAny_dictEntries hO hD ?_)
  have notStr : ∀ (x : Str) (t : Tok), v ≠ .str x t := by
    rintro x t rfl
    cases hk
    exact nt
  have hpn : (placesWithHash es.size (fun i => es[i]?.map (·.hash)) (k.hash w)).Nodup := by
    unfold placesWithHash
    exact List.nodup_range.filter _
  have hp : ∀ i, i ∈ placesWithHash es.size (fun i => es[i]?.map (·.hash)) (k.hash w) ↔ i < es.size ∧ es[i]?.map (·.hash) = some (k.hash w) := fun i => mem_places
  have uniq : ∀ {i j : Nat} {p q : Value × Value}, xs[i]? = some (k, p) → xs[j]? = some (k, q) → i = j := by
    intro i j p q hi hj
    have hi' : (xs.map (·.1))[i]? = some k := by rw [List.getElem?_map, hi]; rfl
    have hj' : (xs.map (·.1))[j]? = some k := by rw [List.getElem?_map, hj]; rfl
    exact (List.getElem?_inj (List.getElem?_eq_some_iff.mp hi').1 hN).mp (hi'.trans hj'.symm)
  have same_hash : ∀ e ∈ es, ∀ a, v = .ref a → e.key = v → e.hash = k.hash w := by
    rintro e he a rfl ek
    obtain ⟨x, hx, rfl⟩ := hmem e he
    have := (hI x hx).1
    rw [show x.2.1 = Value.ref a from ek] at this
    show x.1.hash w = _
    rw [NestedIs.inj _ _ _ this hk]
  dsimp only at plain ⊢
  generalize placesWithHash es.size (fun i => es[i]?.map (·.hash)) (k.hash w) = places at hp hpn plain hstored ⊢
  generalize hst : places.filterMap (fun i => es[i]?.map (·.key)) = stored at hstored ⊢
  have reach : ∀ {jp : Unit → Sem (Option Nat)}, wpAny (model prog w) A (jp ()) Q E s → wpAny (model prog w) A (match v with
      | .ref a => if (es.any fun e => e.key == v && e.hash != k.hash w) = true then do
            let r ← unsupported "dict.find:a-stored-key-whose-hash-has-changed"
            jp r
          else jp ()
      | x => jp ()) Q E s := by
    intro jp h
    split
    · rename_i a
      rw [if_neg]
      · exact h
      · rw [← Array.any_toList, List.any_eq_true]
        rintro ⟨e, he, hc⟩
        rw [Bool.and_eq_true] at hc
        have ek : e.key = Value.ref a := eq_of_beq hc.1
        have := same_hash e (Array.mem_toList_iff.mp he) a rfl ek
        rw [this] at hc
        exact absurd hc.2 (by rw [bne_self_eq_false]; exact Bool.false_ne_true)
    · exact h
  split
  · rename_i x t
    exact absurd rfl (notStr x t)
  · by_cases hall : (v :: stored).all carriedByValue = true
    · rw [if_pos hall]
      exact plain
    · rw [if_neg hall]
      refine reach ?_
      have tells : ∀ {jp : Bool → Sem (Option Nat)}, wpAny (model prog w) A (jp false) Q E s → wpAny (model prog w) A (if (stored == [v]) = true then do
            let t ← pure false
            jp t
          else do
            let t ← tableMayTell v stored
            jp t) Q E s := by
        intro jp h
        split
        · exact wpAny_bind (wpAny_pure h)
        · exact wpAny_bind (may_tell hk kd hstored h)
      refine tells ?_
      rw [if_neg (by simp)]
      refine wpAny_bind ?_
      refine wpAny_forIn_list _ (fun rest r s' => s' = s ∧ ∃ hit, r = (none, hit) ∧ ∃ pre, places = pre ++ rest ∧
        ((hit = none ∧ ∀ j ∈ pre, ∀ p, xs[j]? ≠ some (k, p)) ∨ ∃ j p, hit = some j ∧ j ∈ pre ∧ xs[j]? = some (k, p))) _ ?_ ?_ _ _ ⟨rfl, none, rfl, [], rfl, .inl ⟨rfl, fun _ h => absurd h List.not_mem_nil⟩⟩
      · rintro i rest r s' ⟨rfl, hit, rfl, pre, hpre, hH⟩
        obtain ⟨hi, hh⟩ := (hp i).mp (by rw [hpre]; simp)
        obtain ⟨⟨k', u, x⟩, hx⟩ : ∃ y, xs[i]? = some y := ⟨_, List.getElem?_eq_getElem (by rw [← ent_size hE]; exact hi)⟩
        have hex : es[i]? = some ⟨k'.hash w, u, x⟩ := by rw [ent_at hE, hx]; rfl
        obtain ⟨ik, dk⟩ := hI _ (List.mem_of_getElem? hx)
        have inot : i ∉ pre := by
          rw [hpre, List.nodup_append] at hpn
          exact fun h => hpn.2.2 i h i List.mem_cons_self rfl
        rw [hex] at hh
        have hh' : k'.hash w = k.hash w := by simpa using hh
        dsimp only
        rw [hex]
        dsimp only
        rw [if_pos (by rw [hh']; simp)]
        refine wpAny_bind (wpAny_dictEpoch hO hD (wpAny_bind (eq_keys hu ik hk dk (wpAny_bind (wpAny_dictEpoch hO hD ?_)))))
        rw [if_neg (by simp)]
        by_cases e : k' = k
        · rw [if_pos (decide_eq_true e)]
          subst e
          rcases hH with ⟨rfl, hno⟩ | ⟨j, p, rfl, hj, hxj⟩
          · rw [if_neg (by simp)]
            refine wpAny_bind (wpAny_rule ?_)
            split
            · exact wpAny_pure (wpAny_pure (h1 i _ hx))
            · exact wpAny_pure ⟨rfl, some i, rfl, pre ++ [i], by rw [hpre, List.append_assoc]; rfl, .inr ⟨i, _, rfl, by simp, hx⟩⟩
          · exact absurd (uniq hxj hx ▸ hj) inot
        · rw [if_neg (by rw [decide_eq_false e]; exact Bool.false_ne_true)]
          refine wpAny_bind (wpAny_rule ?_)
          rw [if_neg (by simp)]
          refine wpAny_pure ⟨rfl, hit, rfl, pre ++ [i], by rw [hpre, List.append_assoc]; rfl, ?_⟩
          rcases hH with ⟨h2, hno⟩ | ⟨j, p, h2, hj, hxj⟩
          · refine .inl ⟨h2, fun j hj p hxj => ?_⟩
            rcases List.mem_append.mp hj with h | h
            · exact hno j h p hxj
            · rw [List.mem_singleton.mp h, hx] at hxj
              cases hxj
              exact e rfl
          · exact .inr ⟨j, p, h2, List.mem_append_left _ hj, hxj⟩
      · rintro r s' ⟨rfl, hit, rfl, pre, hpre, hH⟩
        rcases hH with ⟨rfl, hno⟩ | ⟨j, p, rfl, _, hxj⟩
        · refine wpAny_pure (h0 fun j p hj => ?_)
          have hlt : j < es.size := by rw [ent_size hE]; exact (List.getElem?_eq_some_iff.mp hj).1
          have hm : j ∈ places := (hp j).mpr ⟨hlt, by rw [ent_at hE, hj]; rfl⟩
          rw [hpre, List.append_nil] at hm
          exact hno j hm p hj
        · exact wpAny_pure (h1 j p hxj)
theorem get_key {d : Addr} {xs : List Row} {k : NestedKey} {v : Value} {Q : Option Value → Shared → Prop} (hu : A.units + 8 < cLine) (hk : NestedIs s.heap k v) (kd : k.depth ≤ 8) (nt : notText k)
    (hT : Tab w s.heap d xs) (hI : Keyed s.heap xs) (h : Q (at_ xs k) { s with toks := s.toks + k.draws }) : wpAny (model prog w) A (dictGet d v) Q E s := by
  obtain ⟨ob, es, ep, hO, _, hD, hE, hN⟩ := hT
  unfold dictGet
  try with_reducible refine wpAny_holding ?_
  refine wpAny_bind (pyHash_key k v A s _ hk (by omega) (wpAny_bind (find_key (s := { s with toks := s.toks + k.draws }) hu hk kd nt hO hD hE hI hN ?_ ?_)))
  · intro hno
    rw [at_none hno] at h
    exact wpAny_pure h
  · intro j p hj
    rw [at_some hN hj] at h
    refine wpAny_bind (wpAny_dictEntries (s := { s with toks := s.toks + k.draws }) hO hD ?_)
    rw [ent_at hE j, hj]
    exact wpAny_pure h
def repl (xs : List Row) (k : NestedKey) (x : Value) : List Row := xs.map fun y => if y.1 = k then (y.1, y.2.1, x) else y
def put (xs : List Row) (k : NestedKey) (v x : Value) : List Row := if (at_ xs k).isSome then repl xs k x else xs ++ [(k, v, x)]
theorem repl_keys (xs : List Row) (k : NestedKey) (x : Value) : (repl xs k x).map (·.1) = xs.map (·.1) := by
  unfold repl
  rw [List.map_map]
  refine List.map_congr_left fun y _ => ?_
  show (if y.1 = k then _ else _ : Row).1 = _
  split <;> rfl
theorem repl_modify {xs : List Row} {k : NestedKey} {p : Value × Value} {x : Value} {j : Nat} (hN : (xs.map (·.1)).Nodup) (hj : xs[j]? = some (k, p)) :
    (xs.map (ent w)).modify j (fun e : DictEntry => { e with val := x }) = (repl xs k x).map (ent w) := by
  refine List.ext_getElem? fun i => ?_
  rw [List.getElem?_modify]
  unfold repl
  rw [List.getElem?_map, List.getElem?_map, List.getElem?_map]
  cases hi : xs[i]? with
  | none => simp
  | some y =>
    by_cases e : j = i
    · subst e
      rw [hj] at hi
      cases hi
      simp [ent]
    · have ne : y.1 ≠ k := fun z => by
        have hi' : (xs.map (·.1))[i]? = some k := by rw [List.getElem?_map, hi, ← z]; rfl
        have hj' : (xs.map (·.1))[j]? = some k := by rw [List.getElem?_map, hj]; rfl
        exact e ((List.getElem?_inj (List.getElem?_eq_some_iff.mp hj').1 hN).mp (hj'.trans hi'.symm))
      simp [e, ne]
theorem set_key {d : Addr} {xs : List Row} {k : NestedKey} {v x : Value} {Q : Unit → Shared → Prop} (hu : A.units + 8 < cLine) (hk : NestedIs s.heap k v) (kd : k.depth ≤ 8) (nt : notText k)
    (hT : Tab w s.heap d xs) (hI : Keyed s.heap xs) (hz : xs.length ≤ sizeLine) (hQ : ∀ h', Tab w h' d (put xs k v x) → Heap.SameBut d s.heap h' → Q () { s with heap := h', toks := s.toks + k.draws }) :
    wpAny (model prog w) A (dictSet d v x) Q E s := by
  obtain ⟨ob, es, ep, hO, hX, hD, hE, hN⟩ := hT
  have hes : es.size ≤ sizeLine := by rw [ent_size hE]; exact hz
  unfold dictSet
  try with_reducible refine wpAny_holding ?_
  refine wpAny_bind (pyHash_key k v A s _ hk (by omega) ?_)
  unfold dictSetHashed
  try with_reducible refine wpAny_holding ?_
  refine wpAny_bind (find_key (s := { s with toks := s.toks + k.draws }) hu hk kd nt hO hD hE hI hN ?_ ?_)
  · intro hno
    have en := at_none hno
    have hnot : k ∉ xs.map (·.1) := by
      intro hm
      obtain ⟨y, hy, ey⟩ := List.mem_map.mp hm
      obtain ⟨j, hj⟩ := List.getElem?_of_mem hy
      exact hno j y.2 (by rw [hj, ← ey])
    refine wpAny_bind (wpAny_rule (wpAny_updateDictKeys (hz := hes) (s := { s with toks := s.toks + k.draws }) hO hD (hQ _ ⟨_, _, ep + 1, Heap.get?_update_self _ hO (Obj.isFreed_of_dict (Obj.data_mapDictKeys hD _)),
      hX.mapDictKeys _, Obj.data_mapDictKeys hD _, ?_, ?_⟩ (Heap.SameBut.update ..))))
    · unfold put
      rw [en, if_neg (by simp)]
      simp [hE, ent]
    · unfold put
      rw [en, if_neg (by simp), List.map_append, List.nodup_append]
      refine ⟨hN, by simp, fun a ha b hb => ?_⟩
      have : b = k := by simpa using hb
      subst this
      exact fun e => hnot (e ▸ ha)
  · intro j p hj
    have en := at_some hN hj
    refine wpAny_bind (wpAny_rule (wpAny_bind (wpAny_updateDict (s := { s with toks := s.toks + k.draws }) hO hD (wpAny_point (hQ _ ⟨_, _, ep, Heap.get?_update_self _ hO (Obj.isFreed_of_dict (Obj.data_mapDict hD _)),
      hX.mapDict _, Obj.data_mapDict hD _, ?_, ?_⟩ (Heap.SameBut.update ..))))))
    · unfold put
      rw [en, if_pos (show (some p.2).isSome = true from rfl), ← repl_modify hN hj, ← hE]
      simp
    · unfold put
      rw [en, if_pos (show (some p.2).isSome = true from rfl), repl_keys]
      exact hN
theorem Tab.typeIs {d : Addr} {xs : List Row} (h : Tab w s.heap d xs) : s.TypeIs (.ref d) "dict" := by
  obtain ⟨ob, _, _, hO, hX, _⟩ := h
  exact ⟨ob, hO, hX.1⟩
/-- d[k] -/
theorem getItem_key {d : Addr} {xs : List Row} {k : NestedKey} {v x : Value} {Q : Value → Shared → Prop} (hu : A.units + 9 < cLine) (hk : NestedIs s.heap k v) (kd : k.depth ≤ 8) (nt : notText k)
    (hT : Tab w s.heap d xs) (hI : Keyed s.heap xs) (hx : at_ xs k = some x) (h : Q x { s with toks := s.toks + k.draws }) : wpAny (model prog w) A (getItem (.ref d) v) Q E s := by
  unfold getItem
  try with_reducible refine wpAny_holding ?_
  refine wpAny_bind (wpAny_sequenceKey hT.typeIs (by decide) ?_)
  refine wpAny_bind (wpAny_callSpecial?_slot (name := Str.ofString "__getitem__") hT.typeIs slot_dict_getitem
    (wpAny_call_entry slot_dict_getitem hT.typeIs entry_dict_getitem ?_ (args_dict_getitem _ _)))
  show wpAny _ _ (dictGet d v >>= _) _ _ s
  refine wpAny_bind (get_key (by rw [Around.in1_units]; omega) hk kd nt hT hI ?_)
  rw [hx]
  exact wpAny_pure ⟨x, rfl, wpAny_pure h⟩
/-- d[k] = x -/
theorem setItem_key {d : Addr} {xs : List Row} {k : NestedKey} {v x : Value} {Q : Unit → Shared → Prop} (hu : A.units + 9 < cLine) (hk : NestedIs s.heap k v) (kd : k.depth ≤ 8) (nt : notText k)
    (hT : Tab w s.heap d xs) (hI : Keyed s.heap xs) (hz : xs.length ≤ sizeLine) (hQ : ∀ h', Tab w h' d (put xs k v x) → Heap.SameBut d s.heap h' → Q () { s with heap := h', toks := s.toks + k.draws }) :
    wpAny (model prog w) A (setItem (.ref d) v x) Q E s := by
  unfold setItem
  try with_reducible refine wpAny_holding ?_
  refine wpAny_bind (wpAny_sequenceKey hT.typeIs (by decide) ?_)
  refine wpAny_bind (wpAny_callSpecial?_slot (name := Str.ofString "__setitem__") hT.typeIs slot_dict_setitem
    (wpAny_call_entry slot_dict_setitem hT.typeIs entry_dict_setitem ?_ (args_dict_setitem _ _ _)))
  show wpAny _ _ (Builtin.Dict.notOrdered "__setitem__" ⟨[.ref d, v, x], []⟩ >>= _) _ _ s
  refine wpAny_bind (wpAny_notOrdered_dict hT.typeIs ?_)
  show wpAny _ _ (dictSet d v x >>= _) _ _ s
  exact wpAny_bind (set_key (by rw [Around.in1_units]; omega) hk kd nt hT hI hz fun h' q1 q2 => wpAny_pure ⟨.none, rfl, wpAny_pure (hQ h' q1 q2)⟩)
/-- d.get(k), d.get(k, x) -/
theorem meet_get {d : Addr} {v : Value} (hd : (d == sysModules) = false) :
    MeetsIn prog w (Builtin.«dict.get» ⟨[.ref d, v], []⟩) (fun A R s => A.units + 9 < cLine ∧ ∃ k xs, NestedIs s.heap k v ∧ k.depth ≤ 8 ∧ notText k ∧ Tab w s.heap d xs ∧ Keyed s.heap xs ∧
      R (.ok (.ret ((at_ xs k).getD .none))) { s with toks := s.toks + k.draws }) :=
  .of_wp fun A R s ⟨hu, k, xs, hk, kd, nt, hT, hI, h⟩ => by
    show wpAny _ _ (dictGet d v >>= _) _ _ s
    refine wpAny_bind (get_key (by rw [Around.in1_units]; omega) hk kd nt hT hI ?_)
    cases hf : at_ xs k with
    | some y =>
      rw [hf] at h
      exact wpAny_pure ⟨y, rfl, h⟩
    | none =>
      rw [hf] at h
      show wpAny _ _ (Builtin.Dict.missed d v >>= _) _ _ _
      exact wpAny_bind (wpAny_missed_other hd (wpAny_pure ⟨.none, rfl, h⟩))
theorem meet_get2 {d : Addr} {v x : Value} (hd : (d == sysModules) = false) :
    MeetsIn prog w (Builtin.«dict.get» ⟨[.ref d, v, x], []⟩) (fun A R s => A.units + 9 < cLine ∧ ∃ k xs, NestedIs s.heap k v ∧ k.depth ≤ 8 ∧ notText k ∧ Tab w s.heap d xs ∧ Keyed s.heap xs ∧
      R (.ok (.ret ((at_ xs k).getD x))) { s with toks := s.toks + k.draws }) :=
  .of_wp fun A R s ⟨hu, k, xs, hk, kd, nt, hT, hI, h⟩ => by
    show wpAny _ _ (dictGet d v >>= _) _ _ s
    refine wpAny_bind (get_key (by rw [Around.in1_units]; omega) hk kd nt hT hI ?_)
    cases hf : at_ xs k with
    | some y =>
      rw [hf] at h
      exact wpAny_pure ⟨y, rfl, h⟩
    | none =>
      rw [hf] at h
      show wpAny _ _ (Builtin.Dict.missed d v >>= _) _ _ _
      exact wpAny_bind (wpAny_missed_other hd (wpAny_pure ⟨x, rfl, h⟩))
/-- k in d -/
theorem in_key {d : Addr} {xs : List Row} {k : NestedKey} {v : Value} {Q : Value → Shared → Prop} (hu : A.units + 9 < cLine) (hd : (d == sysModules) = false) (hk : NestedIs s.heap k v) (kd : k.depth ≤ 8) (nt : notText k)
    (hT : Tab w s.heap d xs) (hI : Keyed s.heap xs) (h : Q (.bool (at_ xs k).isSome) { s with toks := s.toks + k.draws }) : wpAny (model prog w) A (compareOp .In v (.ref d)) Q E s := by
  show wpAny _ _ (do return .bool (← contains (.ref d) v)) Q E s
  refine wpAny_bind ?_
  unfold contains
  try with_reducible refine wpAny_holding ?_
  refine wpAny_bind (wpAny_specialOf hT.typeIs slot_dict_contains.lookup ?_)
  show wpAny _ _ (if (some (Value.builtin "dict.__contains__") == some Value.none) = true then _ else _) _ E s
  rw [if_neg (by rw [beq_builtin_none]; exact Bool.false_ne_true)]
  refine wpAny_bind (wpAny_callSpecialUnlessNone?_slot (name := Str.ofString "__contains__") hT.typeIs slot_dict_contains
    (wpAny_call_entry slot_dict_contains hT.typeIs entry_dict_contains ?_ (args_dict_contains _ _)))
  show wpAny _ _ (dictGet d v >>= _) _ _ s
  refine wpAny_bind (get_key (by rw [Around.in1_units]; omega) hk kd nt hT hI ?_)
  cases hf : at_ xs k with
  | some p =>
    rw [hf] at h
    show wpAny _ _ (ret (.bool true)) _ _ _
    exact wpAny_pure ⟨_, rfl, wpAny_truthy_bool (wpAny_pure h)⟩
  | none =>
    rw [hf] at h
    show wpAny _ _ (Builtin.Dict.pendingKey? d v >>= _) _ _ _
    exact wpAny_bind (wpAny_pendingKey_other hd (wpAny_pure ⟨_, rfl, wpAny_truthy_bool (wpAny_pure h)⟩))
end
/-! the hash of a key without texts is the same in every world -/
mutual
def plainK : NestedKey → Prop
  | .none => True
  | .num _ => True
  | .text _ => False
  | .tup ks => plainKs ks
def plainKs : List NestedKey → Prop
  | [] => True
  | k :: ks => plainK k ∧ plainKs ks
end
mutual
theorem hash_any (w w' : World) : ∀ k : NestedKey, plainK k → k.hash w = k.hash w'
  | .none, _ => rfl
  | .num _, _ => rfl
  | .text _, h => h.elim
  | .tup ks, h => by
    show reduceHash (Builtin.Tuple.tupleHashOf (NestedKey.hashes w ks)) = reduceHash (Builtin.Tuple.tupleHashOf (NestedKey.hashes w' ks))
    rw [hashes_any w w' ks h]
theorem hashes_any (w w' : World) : ∀ ks : List NestedKey, plainKs ks → NestedKey.hashes w ks = NestedKey.hashes w' ks
  | [], _ => rfl
  | k :: ks, h => by
    show k.hash w :: NestedKey.hashes w ks = k.hash w' :: NestedKey.hashes w' ks
    rw [hash_any w w' k h.1, hashes_any w w' ks h.2]
end
theorem plainK.notText : ∀ {k : NestedKey}, plainK k → notText k
  | .none, _ => trivial
  | .num _, _ => trivial
  | .text _, h => h.elim
  | .tup _, _ => trivial
theorem Tab.world {w w' : World} {h : Heap} {d : Addr} {xs : List Row} (hp : ∀ x ∈ xs, plainK x.1) (t : Tab w h d xs) : Tab w' h d xs := by
  obtain ⟨ob, es, ep, a, b, c, e, f⟩ := t
  refine ⟨ob, es, ep, a, b, c, ?_, f⟩
  rw [e]
  refine List.map_congr_left fun x hx => ?_
  show (⟨x.1.hash w, x.2.1, x.2.2⟩ : DictEntry) = ⟨x.1.hash w', x.2.1, x.2.2⟩
  rw [hash_any w w' x.1 (hp x hx)]
end PD
namespace PD
open PySem PySem.Spec PyProof.Rows L2
/-- a key that may be asked for -/
def okK (k : NestedKey) : Prop := plainK k ∧ k.depth ≤ 8
abbrev VRow := NestedKey × V × V
def Same2 (p : VRow) (q : Row) : Prop := p.1 = q.1 ∧ RelV p.2.1 q.2.1 ∧ RelV p.2.2 q.2.2
def dPhi (a : Addr) (es : List VRow) (h : Heap) : Prop := es.length ≤ sizeLine ∧ (a == sysModules) = false ∧ (∀ x ∈ es, okK x.1) ∧ ∃ (w : World) (xs : List Row), Paired Same2 es xs ∧ Tab w h a xs
def dO (a : Addr) (es : List VRow) : HO := .ext (dPhi a es)
theorem Paired.same_keys {es : List VRow} {xs : List Row} (r : Paired Same2 es xs) : ∀ x ∈ xs, ∃ e ∈ es, e.1 = x.1 := by
  induction r with
  | nil => exact fun _ h => absurd h List.not_mem_nil
  | cons h t ih =>
    rename_i a b l1 l2
    intro x hx
    rcases List.mem_cons.mp hx with e | e
    · rw [e]; exact ⟨a, List.mem_cons_self, h.1⟩
    · obtain ⟨y, hy, ey⟩ := ih x e
      exact ⟨y, List.mem_cons_of_mem _ hy, ey⟩
theorem dPhi.at {a : Addr} {es : List VRow} {h h' : Heap} (p : dPhi a es h) (hh : ∀ o, h.get? a = some o → h'.get? a = some o) : dPhi a es h' := by
  obtain ⟨h1, h2, h3, w, xs, r, ob, en, ep, q1, q2⟩ := p
  exact ⟨h1, h2, h3, w, xs, r, ob, en, ep, hh _ q1, q2⟩
theorem dO_ok {P : Program} {w : World} {H : Hp} {h : Heap} {a : Addr} {es : List VRow} (p : dPhi a es h) : ObjOk P w H h a (dO a es) := by
  obtain ⟨h1, h2, h3, w', xs, r, ob, en, ep, q1, q2⟩ := p
  exact ⟨⟨h1, h2, h3, w', xs, r, ob, en, ep, q1, q2⟩, ⟨ob, q1⟩, fun h1 h2 p hh => p.at hh⟩
theorem dO_phi {P : Program} {w : World} {H : Hp} {h : Heap} {a : Addr} {es : List VRow} (p : ObjOk P w H h a (dO a es)) : dPhi a es h := p.1
end PD
set_option Elab.async false
set_option linter.all false
set_option maxRecDepth 100000
/-! PL: values as trees over what never changes, a small store of what may; readings that compute. -/
namespace PL
open PySem PySem.Spec PyProof.Rows L2

inductive PV where
  | non | bl (b : Bool) | int (i : Int) | str (x : Str) | ty (n : String)
  | tup (xs : List PV) | lst (xs : List PV) | scr (xs : List PV)
  | obj (C : Addr) (fs : List (Str × PV))
  | ptr (a : Addr)
  | dct (kvs : List (NestedKey × PV))
  /-- a caught exception at a, with its fields, which lie at d -/
  | exc (a d : Addr) (fs : List (Str × PV))
  /-- a range object: lo, lo + 1, .. below hi -/
  | rng (lo hi : Int)
  /-- a tuple that the program made, of which it is known that it has no dict -/
  | tpd (xs : List PV)
mutual
/-- the value of a key -/
def pvK : NestedKey → PV
  | .none => .non
  | .num i => .int i
  | .text x => .str x
  | .tup ks => .tup (pvKs ks)
def pvKs : List NestedKey → List PV
  | [] => []
  | k :: ks => pvK k :: pvKs ks
end

mutual
inductive R (K : PySem.W.Frag) (F : Hp) : PV → V → Prop
  | non : R K F .non .non
  | bl (b : Bool) : R K F (.bl b) (.bl b)
  | int (i : Int) : R K F (.int i) (.int i)
  | str (x : Str) : R K F (.str x) (.str x)
  | ty (n : String) : R K F (.ty n) (.ty n)
  | tup {a : Addr} {xs : List PV} {vs : List V} : SqT K F a vs → RAll K F xs vs → R K F (.tup xs) (.ref a)
  | lst {a : Addr} {xs : List PV} {vs : List V} : F a = some (.lst vs) → RAll K F xs vs → R K F (.lst xs) (.ref a)
  | scr {a : Addr} {xs : List PV} {vs : List V} : SqL K F a vs → RAll K F xs vs → R K F (.scr xs) (.ref a)
  | obj {a C dx : Addr} {fs : List (Str × PV)} {vs : List (Str × V)} : F a = some (.ins C dx vs) → RFs K F fs vs → R K F (.obj C fs) (.ref a)
  | ptr (a : Addr) : R K F (.ptr a) (.ref a)
  | dct {a : Addr} {kvs : List (NestedKey × PV)} {es : List PD.VRow} : F a = some (PD.dO a es) → RKs K F kvs es → R K F (.dct kvs) (.ref a)
  | exc {a d : Addr} {fs : List (Str × PV)} {vs : List (Str × V)} : F d = some (.xd vs) → RFs K F fs vs → R K F (.exc a d fs) (.ref a)
  | rng {a : Addr} {lo hi : Int} : F a = some (.rng lo hi) → R K F (.rng lo hi) (.ref a)
  | tpd {a : Addr} {o : Obj} {xs : List PV} {vs : List V} : F a = some (.frz o (.tup vs)) → o.dict = none → RAll K F xs vs → R K F (.tpd xs) (.ref a)
inductive RAll (K : PySem.W.Frag) (F : Hp) : List PV → List V → Prop
  | nil : RAll K F [] []
  | cons {x : PV} {xs : List PV} {v : V} {vs : List V} : R K F x v → RAll K F xs vs → RAll K F (x :: xs) (v :: vs)
inductive RFs (K : PySem.W.Frag) (F : Hp) : List (Str × PV) → List (Str × V) → Prop
  | nil : RFs K F [] []
  | cons {n : Str} {x : PV} {fs : List (Str × PV)} {v : V} {vs : List (Str × V)} : R K F x v → RFs K F fs vs → RFs K F ((n, x) :: fs) ((n, v) :: vs)
inductive RKs (K : PySem.W.Frag) (F : Hp) : List (NestedKey × PV) → List PD.VRow → Prop
  | nil : RKs K F [] []
  | cons {k : NestedKey} {x : PV} {kvs : List (NestedKey × PV)} {u v : V} {es : List PD.VRow} : R K F (pvK k) u → R K F x v → RKs K F kvs es → RKs K F ((k, x) :: kvs) ((k, u, v) :: es)
end

theorem sqT_same {K : PySem.W.Frag} {H H' : Hp} {a : Addr} {xs : List V} (e : Same H H') (h : SqT K H a xs) : SqT K H' a xs := by
  rcases h with h | h
  · rcases h with h | ⟨o, h⟩
    · exact .inl (.inl (e _ _ h))
    · exact .inl (.inr ⟨o, e _ _ h⟩)
  · exact .inr h

mutual
theorem R.same {K : PySem.W.Frag} {F F' : Hp} (e : Same F F') : ∀ {x : PV} {v : V}, R K F x v → R K F' x v
  | _, _, .non => .non
  | _, _, .bl b => .bl b
  | _, _, .int i => .int i
  | _, _, .str x => .str x
  | _, _, .ty n => .ty n
  | _, _, .tup h r => .tup (sqT_same e h) (RAll.same e r)
  | _, _, .lst h r => .lst (e _ _ h) (RAll.same e r)
  | _, _, .scr h r => .scr (e.seq h) (RAll.same e r)
  | _, _, .obj h r => .obj (e _ _ h) (RFs.same e r)
  | _, _, .ptr a => .ptr a
  | _, _, .dct h r => .dct (e _ _ h) (RKs.same e r)
  | _, _, .exc h r => .exc (e _ _ h) (RFs.same e r)
  | _, _, .rng h => .rng (e _ _ h)
  | _, _, .tpd h d r => .tpd (e _ _ h) d (RAll.same e r)
theorem RAll.same {K : PySem.W.Frag} {F F' : Hp} (e : Same F F') : ∀ {xs : List PV} {vs : List V}, RAll K F xs vs → RAll K F' xs vs
  | _, _, .nil => .nil
  | _, _, .cons r t => .cons (R.same e r) (RAll.same e t)
theorem RFs.same {K : PySem.W.Frag} {F F' : Hp} (e : Same F F') : ∀ {xs : List (Str × PV)} {vs : List (Str × V)}, RFs K F xs vs → RFs K F' xs vs
  | _, _, .nil => .nil
  | _, _, .cons r t => .cons (R.same e r) (RFs.same e t)
theorem RKs.same {K : PySem.W.Frag} {F F' : Hp} (e : Same F F') : ∀ {kvs : List (NestedKey × PV)} {es : List PD.VRow}, RKs K F kvs es → RKs K F' kvs es
  | _, _, .nil => .nil
  | _, _, .cons r s t => .cons (R.same e r) (R.same e s) (RKs.same e t)
end

section
variable {K : PySem.W.Frag} {F F' : Hp}
theorem RAll.length : ∀ {xs : List PV} {vs : List V}, RAll K F xs vs → xs.length = vs.length
  | _, _, .nil => rfl
  | _, _, .cons _ t => congrArg (· + 1) (RAll.length t)
theorem RAll.get : ∀ {xs : List PV} {vs : List V} {i : Nat} {x : PV}, RAll K F xs vs → xs[i]? = some x → ∃ v, vs[i]? = some v ∧ R K F x v
  | _, _, 0, _, .cons r _, e => ⟨_, rfl, by cases e; exact r⟩
  | _, _, i + 1, x, .cons _ t, e => RAll.get (i := i) (x := x) t e
  | _, _, _, _, .nil, e => by simp at e
theorem RAll.at : ∀ {xs : List PV} {vs : List V} {i : Nat} {v : V}, RAll K F xs vs → vs[i]? = some v → ∃ x, xs[i]? = some x ∧ R K F x v
  | _, _, 0, _, .cons r _, e => ⟨_, rfl, by cases e; exact r⟩
  | _, _, i + 1, x, .cons _ t, e => RAll.at (i := i) (v := x) t e
  | _, _, _, _, .nil, e => by simp at e
theorem RAll.append : ∀ {xs ys : List PV} {vs ws : List V}, RAll K F xs vs → RAll K F ys ws → RAll K F (xs ++ ys) (vs ++ ws)
  | _, _, _, _, .nil, s => s
  | _, _, _, _, .cons r t, s => .cons r (RAll.append t s)
theorem RAll.take : ∀ {xs : List PV} {vs : List V} (n : Nat), RAll K F xs vs → RAll K F (xs.take n) (vs.take n)
  | _, _, 0, _ => .nil
  | _, _, _ + 1, .nil => .nil
  | _, _, n + 1, .cons r t => .cons r (RAll.take n t)
theorem RAll.drop : ∀ {xs : List PV} {vs : List V} (n : Nat), RAll K F xs vs → RAll K F (xs.drop n) (vs.drop n)
  | _, _, 0, r => r
  | _, _, _ + 1, .nil => .nil
  | _, _, n + 1, .cons _ t => RAll.drop n t
theorem RAll.reverse : ∀ {xs : List PV} {vs : List V}, RAll K F xs vs → RAll K F xs.reverse vs.reverse
  | _, _, .nil => .nil
  | _, _, .cons r t => by
    rw [List.reverse_cons, List.reverse_cons]
    exact RAll.append (RAll.reverse t) (.cons r .nil)
theorem RAll.set {x : PV} {v : V} (r : R K F x v) : ∀ {xs : List PV} {vs : List V} (n : Nat), RAll K F xs vs → RAll K F (xs.set n x) (vs.set n v)
  | _, _, _, .nil => .nil
  | _, _, 0, .cons _ t => .cons r t
  | _, _, n + 1, .cons q t => .cons q (RAll.set r n t)
theorem RAll.ints : ∀ {ns : List Int}, RAll K F (ns.map PV.int) (ns.map V.int)
  | [] => .nil
  | n :: r => .cons (.int n) RAll.ints
theorem RFs.get : ∀ {fs : List (Str × PV)} {vs : List (Str × V)} {f : Str} {x : PV}, RFs K F fs vs → fs.lookup f = some x → ∃ v, vs.lookup f = some v ∧ R K F x v
  | _, _, f, x, .nil, e => by simp at e
  | (n, y) :: fs, (_, w) :: vs, f, x, .cons r t, e => by
    rw [List.lookup_cons] at e ⊢
    cases hb : f == n with
    | true =>
      rw [hb] at e
      cases e
      exact ⟨w, rfl, r⟩
    | false =>
      rw [hb] at e
      exact RFs.get t e
theorem RFs.none : ∀ {fs : List (Str × PV)} {vs : List (Str × V)} {f : Str}, RFs K F fs vs → fs.lookup f = none → vs.lookup f = none
  | _, _, f, .nil, e => rfl
  | (n, y) :: fs, (_, w) :: vs, f, .cons r t, e => by
    rw [List.lookup_cons] at e ⊢
    cases hb : f == n with
    | true =>
      rw [hb] at e
      cases e
    | false =>
      rw [hb] at e
      exact RFs.none t e
def putP (f : Str) (v : PV) : List (Str × PV) → List (Str × PV)
  | [] => [(f, v)]
  | (g, x) :: r => if g = f then (g, v) :: r else (g, x) :: putP f v r
theorem RFs.put {f : Str} {x : PV} {v : V} (r : R K F x v) : ∀ {fs : List (Str × PV)} {vs : List (Str × V)}, RFs K F fs vs → RFs K F (putP f x fs) (putF f v vs)
  | _, _, .nil => .cons r .nil
  | (n, y) :: fs, (_, w) :: vs, .cons q t => by
    unfold putP putF
    by_cases h : n = f
    · rw [if_pos h, if_pos h]
      exact .cons r t
    · rw [if_neg h, if_neg h]
      exact .cons q (RFs.put r t)
theorem RFs.length : ∀ {fs : List (Str × PV)} {vs : List (Str × V)}, RFs K F fs vs → fs.length = vs.length
  | _, _, .nil => rfl
  | _, _, .cons _ t => congrArg (· + 1) (RFs.length t)
end

/-! ### the store -/
inductive MO where
  | lst (xs : List PV)
  | obj (C : Addr) (fs : List (Str × PV))
  | dct (a : Addr) (kvs : List (NestedKey × PV))
abbrev Mem := Addr → Option MO
def Mem.put (M : Mem) (a : Addr) (o : MO) : Mem := fun b => if b = a then some o else M b
def Mem.drop (M : Mem) (a : Addr) : Mem := fun b => if b = a then none else M b
theorem put_same {M : Mem} {a : Addr} {o : MO} : M.put a o a = some o := if_pos rfl
theorem put_ne {M : Mem} {a b : Addr} {o : MO} (h : b ≠ a) : M.put a o b = M b := if_neg h
theorem drop_same {M : Mem} {a : Addr} : M.drop a a = none := if_pos rfl
theorem drop_ne {M : Mem} {a b : Addr} (h : b ≠ a) : M.drop a b = M b := if_neg h
theorem put_put {M : Mem} {a : Addr} {o u : MO} : (M.put a o).put a u = M.put a u := by
  funext b
  by_cases e : b = a
  · subst e; rw [put_same, put_same]
  · rw [put_ne e, put_ne e, put_ne e]
theorem put_drop {M : Mem} {a : Addr} {o : MO} (h : M a = none) : (M.put a o).drop a = M := by
  funext b
  by_cases e : b = a
  · subst e; rw [drop_same, h]
  · rw [drop_ne e, put_ne e]
theorem put_put_drop {M : Mem} {a : Addr} {o u : MO} (h : M a = none) : ((M.put a o).put a u).drop a = M := by
  rw [put_put, put_drop h]
theorem put_self {M : Mem} {a : Addr} {o : MO} (h : M a = some o) : M.put a o = M := by
  funext b
  by_cases e : b = a
  · subst e; rw [put_same, h]
  · rw [put_ne e]
theorem put_swap {M : Mem} {a b : Addr} {o u : MO} (h : a ≠ b) : (M.put a o).put b u = (M.put b u).put a o := by
  funext c
  by_cases e : c = b
  · subst e; rw [put_same, put_ne (Ne.symm h), put_same]
  · rw [put_ne e]
    by_cases e2 : c = a
    · subst e2; rw [put_same, put_same]
    · rw [put_ne e2, put_ne e2, put_ne e]
theorem put_drop_swap {M : Mem} {a b : Addr} {o : MO} (h : a ≠ b) : (M.put a o).drop b = (M.drop b).put a o := by
  funext c
  by_cases e : c = b
  · subst e; rw [drop_same, put_ne (Ne.symm h), drop_same]
  · rw [drop_ne e]
    by_cases e2 : c = a
    · subst e2; rw [put_same, put_same]
    · rw [put_ne e2, put_ne e2, drop_ne e]
theorem drop_none {M : Mem} {a : Addr} (h : M a = none) : M.drop a = M := by
  funext b
  by_cases e : b = a
  · subst e; rw [drop_same, h]
  · rw [drop_ne e]

inductive RO (K : PySem.W.Frag) (F : Hp) : MO → HO → Prop
  | lst {xs : List PV} {vs : List V} : RAll K F xs vs → RO K F (.lst xs) (.lst vs)
  | obj {C dx : Addr} {fs : List (Str × PV)} {vs : List (Str × V)} : RFs K F fs vs → RO K F (.obj C fs) (.ins C dx vs)
  | dct {a : Addr} {kvs : List (NestedKey × PV)} {es : List PD.VRow} : RKs K F kvs es → RO K F (.dct a kvs) (PD.dO a es)
theorem RO.same {K : PySem.W.Frag} {F F' : Hp} (e : Same F F') {m : MO} {o : HO} (r : RO K F m o) : RO K F' m o := by
  cases r with
  | lst r => exact .lst (r.same e)
  | obj r => exact .obj (r.same e)
  | dct r => exact .dct (r.same e)
theorem RO.mut {K : PySem.W.Frag} {F : Hp} {m : MO} {o : HO} (r : RO K F m o) : Mut (some o) := by
  cases r <;> exact trivial

/-- F: what never changes; M: what may; both in H -/
structure RM (K : PySem.W.Frag) (F : Hp) (M : Mem) (H : Hp) : Prop where
  fr : Same F H
  dj : ∀ a, M a ≠ none → F a = none
  mu : ∀ a m, M a = some m → ∃ o, H a = some o ∧ RO K F m o
/-- what may have changed -/
structure Fr (M : Mem) (H : Hp) (M' : Mem) (H' : Hp) : Prop where
  keep : ∀ b o, H b = some o → M b = none → H' b = some o
  grow : ∀ b, M' b ≠ none → M b ≠ none ∨ H b = none
  there : ∀ b, H b ≠ none → H' b ≠ none

section
variable {K : PySem.W.Frag} {F F' F2 : Hp} {M M' M2 : Mem} {H H' H2 : Hp} {p : Addr} {o : HO}
theorem Fr.refl : Fr M H M H := ⟨fun _ _ h _ => h, fun _ h => .inl h, fun _ h => h⟩
theorem Fr.trans (a : Fr M H M' H') (b : Fr M' H' M2 H2) : Fr M H M2 H2 where
  keep := fun c u h n => by
    refine b.keep c u (a.keep c u h n) ?_
    cases q : M' c with
    | none => rfl
    | some m =>
      rcases a.grow c (by rw [q]; exact Option.some_ne_none _) with z | z
      · exact absurd n z
      · rw [h] at z; cases z
  grow := fun c h => by
    rcases b.grow c h with z | z
    · exact a.grow c z
    · right
      cases q : H c with
      | none => rfl
      | some u => exact absurd z (a.there c (by rw [q]; exact Option.some_ne_none _))
  there := fun c h => b.there c (a.there c h)
theorem RM.nones (r : RM K F M H) (n : H p = Option.none) : F p = Option.none ∧ M p = Option.none := by
  constructor
  · exact r.fr.free n
  · cases q : M p with
    | none => rfl
    | some m =>
      obtain ⟨o, e, _⟩ := r.mu p m q
      rw [n] at e; cases e
theorem same_upd {F : Hp} (n : F p = Option.none) : Same F (upd F p o) := fun b u e => by
  rw [upd_ne (ne_of_none e n)]; exact e
/-- a new thing that never changes -/
theorem RM.fresh (r : RM K F M H) (n : H p = Option.none) : Same F (upd F p o) ∧ RM K (upd F p o) M (upd H p o) ∧ Fr M H M (upd H p o) := by
  obtain ⟨nF, nM⟩ := r.nones n
  have sm : Same F (upd F p o) := same_upd nF
  refine ⟨sm, ⟨fun b u e => ?_, fun b h => ?_, fun b m e => ?_⟩, ⟨fun b u e _ => ?_, fun b h => .inl h, fun b h => ?_⟩⟩
  · by_cases hb : b = p
    · subst hb; rw [upd_same] at e; rw [upd_same]; exact e
    · rw [upd_ne hb] at e; rw [upd_ne hb]; exact r.fr b u e
  · have hb : b ≠ p := fun z => h (by rw [z]; exact nM)
    rw [upd_ne hb]; exact r.dj b h
  · have hb : b ≠ p := fun z => by rw [z, nM] at e; cases e
    obtain ⟨u, e1, e2⟩ := r.mu b m e
    exact ⟨u, by rw [upd_ne hb]; exact e1, e2.same sm⟩
  · rw [upd_ne (ne_of_none e n)]; exact e
  · by_cases hb : b = p
    · subst hb; rw [upd_same]; exact Option.some_ne_none _
    · rw [upd_ne hb]; exact h
/-- a new thing that may change -/
theorem RM.new {m : MO} (r : RM K F M H) (n : H p = Option.none) (q : RO K F m o) : RM K F (M.put p m) (upd H p o) ∧ Fr M H (M.put p m) (upd H p o) := by
  obtain ⟨nF, nM⟩ := r.nones n
  refine ⟨⟨fun b u e => ?_, fun b h => ?_, fun b m' e => ?_⟩, ⟨fun b u e _ => ?_, fun b h => ?_, fun b h => ?_⟩⟩
  · have hb : b ≠ p := fun z => by rw [z, nF] at e; cases e
    rw [upd_ne hb]; exact r.fr b u e
  · by_cases hb : b = p
    · subst hb; exact nF
    · rw [put_ne hb] at h; exact r.dj b h
  · by_cases hb : b = p
    · subst hb; rw [put_same] at e; cases e; exact ⟨o, upd_same, q⟩
    · rw [put_ne hb] at e
      obtain ⟨u, e1, e2⟩ := r.mu b m' e
      exact ⟨u, by rw [upd_ne hb]; exact e1, e2⟩
  · rw [upd_ne (ne_of_none e n)]; exact e
  · by_cases hb : b = p
    · subst hb; exact .inr n
    · rw [put_ne hb] at h; exact .inl h
  · by_cases hb : b = p
    · subst hb; rw [upd_same]; exact Option.some_ne_none _
    · rw [upd_ne hb]; exact h
/-- a change -/
theorem RM.write {m m' : MO} (r : RM K F M H) (e : M p = some m) (q : RO K F m' o) : RM K F (M.put p m') (upd H p o) ∧ Fr M H (M.put p m') (upd H p o) := by
  have nF : F p = Option.none := r.dj p (by rw [e]; exact Option.some_ne_none _)
  refine ⟨⟨fun b u e => ?_, fun b h => ?_, fun b m' e => ?_⟩, ⟨fun b u e1 n1 => ?_, fun b h => ?_, fun b h => ?_⟩⟩
  · have hb : b ≠ p := fun z => by rw [z, nF] at e; cases e
    rw [upd_ne hb]; exact r.fr b u e
  · by_cases hb : b = p
    · subst hb; exact nF
    · rw [put_ne hb] at h; exact r.dj b h
  · by_cases hb : b = p
    · subst hb; rw [put_same] at e; cases e; exact ⟨o, upd_same, q⟩
    · rw [put_ne hb] at e
      obtain ⟨u, e1, e2⟩ := r.mu b m' e
      exact ⟨u, by rw [upd_ne hb]; exact e1, e2⟩
  · have hb : b ≠ p := fun z => by rw [z, e] at n1; cases n1
    rw [upd_ne hb]; exact e1
  · by_cases hb : b = p
    · subst hb; exact .inl (by rw [e]; exact Option.some_ne_none _)
    · rw [put_ne hb] at h; exact .inl h
  · by_cases hb : b = p
    · subst hb; rw [upd_same]; exact Option.some_ne_none _
    · rw [upd_ne hb]; exact h
/-- it is forgotten -/
theorem RM.drop (r : RM K F M H) : RM K F (M.drop p) H ∧ Fr M H (M.drop p) H := by
  refine ⟨⟨r.fr, fun b h => r.dj b ?_, fun b m e => r.mu b m ?_⟩, ⟨fun _ _ h _ => h, fun b h => .inl ?_, fun _ h => h⟩⟩
  · by_cases hb : b = p
    · subst hb; exact absurd drop_same h
    · rw [drop_ne hb] at h; exact h
  · by_cases hb : b = p
    · subst hb; rw [drop_same] at e; cases e
    · rw [drop_ne hb] at e; exact e
  · by_cases hb : b = p
    · subst hb; exact absurd drop_same h
    · rw [drop_ne hb] at h; exact h
/-- from now on it never changes -/
theorem RM.freeze {m : MO} (r : RM K F M H) (e : M p = some m) : ∃ o, Same F (upd F p o) ∧ RM K (upd F p o) (M.drop p) H ∧ Fr M H (M.drop p) H ∧ RO K F m o := by
  obtain ⟨o, e1, q⟩ := r.mu p m e
  have nF : F p = Option.none := r.dj p (by rw [e]; exact Option.some_ne_none _)
  have sm : Same F (upd F p o) := same_upd nF
  obtain ⟨r2, f2⟩ := r.drop (p := p)
  refine ⟨o, sm, ⟨fun b u e => ?_, fun b h => ?_, fun b m e => ?_⟩, f2, q⟩
  · by_cases hb : b = p
    · subst hb; rw [upd_same] at e; cases e; exact e1
    · rw [upd_ne hb] at e; exact r.fr b u e
  · have hb : b ≠ p := fun z => h (by rw [z]; exact drop_same)
    rw [upd_ne hb]; exact r2.dj b h
  · obtain ⟨u, e1, e2⟩ := r2.mu b m e
    exact ⟨u, e1, e2.same sm⟩
end

/-! ### slots -/
abbrev PSt := List (Option PV)
structure RS (K : PySem.W.Frag) (F : Hp) (σ : PSt) (σv : L2.St) : Prop where
  len : σ.length = σv.length
  at_ : ∀ (i : Nat) (x : PV), σ[i]? = some (some x) → ∃ v, σv[i]? = some (some v) ∧ R K F x v
section
variable {K : PySem.W.Frag} {F F' : Hp} {σ : PSt} {σv : L2.St}
theorem RS.same (r : RS K F σ σv) (e : Same F F') : RS K F' σ σv := ⟨r.len, fun i x h => let ⟨v, h1, h2⟩ := r.at_ i x h; ⟨v, h1, h2.same e⟩⟩
theorem RS.set {x : PV} {v : V} (r : RS K F σ σv) (i : Nat) (q : R K F x v) : RS K F (σ.set i (some x)) (σv.set i (some v)) := by
  refine ⟨by rw [List.length_set, List.length_set, r.len], fun j y h => ?_⟩
  by_cases hj : i = j
  · subst hj
    by_cases hl : i < σ.length
    · rw [List.getElem?_set_self hl] at h
      cases h
      exact ⟨v, List.getElem?_set_self (r.len ▸ hl), q⟩
    · rw [List.getElem?_eq_none (by rw [List.length_set]; omega)] at h
      cases h
  · rw [List.getElem?_set_ne hj] at h
    obtain ⟨w, h1, h2⟩ := r.at_ j y h
    exact ⟨w, by rw [List.getElem?_set_ne hj]; exact h1, h2⟩
end
def pstart (n : Nat) (xs : List PV) : PSt := xs.map some ++ List.replicate (n - xs.length) none
theorem RS.start {K : PySem.W.Frag} {F : Hp} {N : List Str} {xs : List PV} {vs : List V} (r : RAll K F xs vs) : RS K F (pstart N.length xs) (L2.start N vs) := by
  unfold pstart L2.start
  have hl := r.length
  refine ⟨by simp [hl], fun i x h => ?_⟩
  by_cases hi : i < xs.length
  · rw [List.getElem?_append_left (by simpa using hi), List.getElem?_map] at h
    cases hx : xs[i]? with
    | none => rw [hx] at h; cases h
    | some y =>
      rw [hx] at h
      cases h
      obtain ⟨v, h1, h2⟩ := r.get hx
      refine ⟨v, ?_, h2⟩
      rw [List.getElem?_append_left (by rw [List.length_map, ← hl]; exact hi), List.getElem?_map, h1]
      rfl
  · rw [List.getElem?_append_right (by simpa using Nat.le_of_not_lt hi), List.getElem?_replicate] at h
    split at h <;> cases h
end PL
set_option Elab.async false
set_option linter.all false
set_option maxRecDepth 100000
namespace PL
open PySem PySem.Spec PyProof.Rows L2

abbrev PQ := PV → Mem → Prop
/-- an exception: its class, its attributes -/
abbrev PXK := Addr → List (Str × PV) → Mem → Prop
abbrev PTE := PXK → PSt → Mem → PQ → Prop
abbrev PTA := PXK → PSt → Mem → (List PV → Mem → Prop) → Prop
abbrev PTT := PXK → PSt → Mem → (Bool → Mem → Prop) → Prop

def WE (X : Cx) (e : Expr) (σ : L2.St) (H : Hp) (Q : VK) : Prop := ∀ pins s, Inv X pins σ H s → wpAny (model X.prog X.w) X.A (eval e X.env) (EP X pins σ Q) X.xe s
def WT (X : Cx) (e : Expr) (σ : L2.St) (H : Hp) (Q : Bool → Hp → Prop) : Prop := ∀ pins s, Inv X pins σ H s → wpAny (model X.prog X.w) X.A (isTrue e X.env (eval e X.env)) (TP X pins σ Q) X.xe s
def WW (X : Cx) (e : Expr) (σ : L2.St) (H : Hp) (Q : Bool → Hp → Prop) : Prop := ∀ (whole : Sem Value) pins s, Inv X pins σ H s → wpAny (model X.prog X.w) X.A (isTrue e X.env whole) (TP X pins σ Q) X.xe s
def WA (X : Cx) (es : List Expr) (σ : L2.St) (H : Hp) (Q : List V → Hp → Prop) : Prop := ∀ (pos : Pos) pins s, Inv X pins σ H s → wpAny (model X.prog X.w) X.A (spliced (backTo pos (starEach es X.env))) (AP X pins σ Q) X.xe s
theorem WE.pe {X : Cx} {e : Expr} : PE X e (WE X e) := ⟨fun pins s σ H Q I h => h pins s I⟩
theorem WT.pt {X : Cx} {e : Expr} : PT X e (WT X e) := ⟨fun pins s σ H Q I h => h pins s I⟩
theorem WW.pw {X : Cx} {e : Expr} : PW X e (WW X e) := ⟨fun wh pins s σ H Q I h => h wh pins s I⟩
theorem WA.pa {X : Cx} {es : List Expr} : PA X es (WA X es) := ⟨fun pos pins s σ H Q I h => h pos pins s I⟩
theorem WE.of {X : Cx} {e : Expr} {t : TE} (p : PE X e t) {σ : L2.St} {H : Hp} {Q : VK} (h : t σ H Q) : WE X e σ H Q := fun pins s I => p.run pins s σ H Q I h
theorem WT.of {X : Cx} {e : Expr} {t : TT} (p : PT X e t) {σ : L2.St} {H : Hp} {Q : Bool → Hp → Prop} (h : t σ H Q) : WT X e σ H Q := fun pins s I => p.run pins s σ H Q I h
theorem WW.of {X : Cx} {e : Expr} {t : TT} (p : PW X e t) {σ : L2.St} {H : Hp} {Q : Bool → Hp → Prop} (h : t σ H Q) : WW X e σ H Q := fun wh pins s I => p.run wh pins s σ H Q I h
theorem WA.of {X : Cx} {es : List Expr} {t : TA} (p : PA X es t) {σ : L2.St} {H : Hp} {Q : List V → Hp → Prop} (h : t σ H Q) : WA X es σ H Q := fun pos pins s I => p.run pos pins s σ H Q I h
theorem WE.mono {X : Cx} {e : Expr} {σ : L2.St} {H : Hp} {Q Q' : VK} (h : WE X e σ H Q) (m : ∀ v H', Q v H' → Q' v H') : WE X e σ H Q' := fun pins s I =>
  thn (h pins s I) fun _ _ ⟨v, H', I', r, q⟩ => ⟨v, H', I', r, m v H' q⟩
theorem WT.mono {X : Cx} {e : Expr} {σ : L2.St} {H : Hp} {Q Q' : Bool → Hp → Prop} (h : WT X e σ H Q) (m : ∀ v H', Q v H' → Q' v H') : WT X e σ H Q' := fun pins s I =>
  thn (h pins s I) fun b _ ⟨H', I', q⟩ => ⟨H', I', m b H' q⟩
theorem WW.mono {X : Cx} {e : Expr} {σ : L2.St} {H : Hp} {Q Q' : Bool → Hp → Prop} (h : WW X e σ H Q) (m : ∀ v H', Q v H' → Q' v H') : WW X e σ H Q' := fun wh pins s I =>
  thn (h wh pins s I) fun b _ ⟨H', I', q⟩ => ⟨H', I', m b H' q⟩
theorem WA.mono {X : Cx} {es : List Expr} {σ : L2.St} {H : Hp} {Q Q' : List V → Hp → Prop} (h : WA X es σ H Q) (m : ∀ v H', Q v H' → Q' v H') : WA X es σ H Q' := fun pos pins s I =>
  thn (h pos pins s I) fun _ _ ⟨v, H', I', r, q⟩ => ⟨v, H', I', r, m v H' q⟩
/-- with the state at hand -/
theorem WE.inv {X : Cx} {e : Expr} {σ : L2.St} {H : Hp} {Q : VK} (h : (∃ pins s, Inv X pins σ H s) → WE X e σ H Q) : WE X e σ H Q := fun pins s I => h ⟨pins, s, I⟩ pins s I

/-- behind: what never changed stays, what may is as Q says -/
structure Beh (K : PySem.W.Frag) (F : Hp) (M : Mem) (H : Hp) (F' : Hp) (M' : Mem) (H' : Hp) : Prop where
  sm : Same F F'
  rm : RM K F' M' H'
  fr : Fr M H M' H'
  fg : ∀ b, F' b ≠ none → F b ≠ none ∨ M b ≠ none ∨ H b = none
theorem Beh.refl {K : PySem.W.Frag} {F H : Hp} {M : Mem} (r : RM K F M H) : Beh K F M H F M H := ⟨Same.refl F, r, Fr.refl, fun _ h => .inl h⟩
theorem Beh.trans {K : PySem.W.Frag} {F F1 F2 H H1 H2 : Hp} {M M1 M2 : Mem} (a : Beh K F M H F1 M1 H1) (b : Beh K F1 M1 H1 F2 M2 H2) : Beh K F M H F2 M2 H2 := by
  have back : ∀ c, H1 c = none → H c = none := fun c z => by
    cases q : H c with
    | none => rfl
    | some u => exact absurd z (a.fr.there c (by rw [q]; exact Option.some_ne_none _))
  refine ⟨a.sm.trans b.sm, b.rm, a.fr.trans b.fr, fun c h => ?_⟩
  rcases b.fg c h with z | z | z
  · exact a.fg c z
  · rcases a.fr.grow c z with y | y
    · exact .inr (.inl y)
    · exact .inr (.inr y)
  · exact .inr (.inr (back c z))
theorem fg_upd {F H : Hp} {M : Mem} {p : Addr} {o : HO} (n : H p = none ∨ M p ≠ none) : ∀ b, upd F p o b ≠ none → F b ≠ none ∨ M b ≠ none ∨ H b = none := fun b h => by
  by_cases hb : b = p
  · subst hb
    rcases n with n | n
    · exact .inr (.inr n)
    · exact .inr (.inl n)
  · rw [upd_ne hb] at h
    exact .inl h
theorem RM.beh {K : PySem.W.Frag} {F H : Hp} {M : Mem} {p : Addr} {o : HO} (r : RM K F M H) (n : H p = none) : Beh K F M H (upd F p o) M (upd H p o) := ⟨(r.fresh n).1, (r.fresh n).2.1, (r.fresh n).2.2, fg_upd (.inl n)⟩
theorem RM.behNew {K : PySem.W.Frag} {F H : Hp} {M : Mem} {p : Addr} {o : HO} {m : MO} (r : RM K F M H) (n : H p = none) (q : RO K F m o) : Beh K F M H F (M.put p m) (upd H p o) := ⟨Same.refl F, (r.new n q).1, (r.new n q).2, fun _ h => .inl h⟩
theorem RM.behWrite {K : PySem.W.Frag} {F H : Hp} {M : Mem} {p : Addr} {o : HO} {m m' : MO} (r : RM K F M H) (e : M p = some m) (q : RO K F m' o) : Beh K F M H F (M.put p m') (upd H p o) := ⟨Same.refl F, (r.write e q).1, (r.write e q).2, fun _ h => .inl h⟩
theorem RM.behDrop {K : PySem.W.Frag} {F H : Hp} {M : Mem} {p : Addr} (r : RM K F M H) : Beh K F M H F (M.drop p) H := ⟨Same.refl F, r.drop.1, r.drop.2, fun _ h => .inl h⟩
theorem RM.behFreeze {K : PySem.W.Frag} {F H : Hp} {M : Mem} {p : Addr} {m : MO} (r : RM K F M H) (e : M p = some m) : ∃ o, Beh K F M H (upd F p o) (M.drop p) H ∧ RO K F m o := by
  obtain ⟨o, a, b, c, d⟩ := r.freeze e
  exact ⟨o, ⟨a, b, c, fg_upd (.inr (by rw [e]; exact Option.some_ne_none _))⟩, d⟩
/-- a thing of the machine's own -/
theorem RM.behHid {K : PySem.W.Frag} {F H : Hp} {M : Mem} {p : Addr} {o : HO} (r : RM K F M H) (nF : F p = none) (nM : M p = none) : RM K F M (upd H p o) ∧ (H p = none → Beh K F M H F M (upd H p o)) := by
  have x : RM K F M (upd H p o) := ⟨fun b u e => by rw [upd_ne (ne_of_none e nF)]; exact r.fr b u e, r.dj, fun b m e => by
    have hb : b ≠ p := fun z => by rw [z, nM] at e; cases e
    obtain ⟨u, e1, e2⟩ := r.mu b m e
    exact ⟨u, by rw [upd_ne hb]; exact e1, e2⟩⟩
  exact ⟨x, fun n => ⟨Same.refl F, x, (r.fresh n).2.2, fun _ h => .inl h⟩⟩

def LQ (K : PySem.W.Frag) (F : Hp) (M : Mem) (H : Hp) (Q : PQ) : VK := fun v H' => ∃ F' M' x, Beh K F M H F' M' H' ∧ R K F' x v ∧ Q x M'
def LB (K : PySem.W.Frag) (F : Hp) (M : Mem) (H : Hp) (Q : Bool → Mem → Prop) : Bool → Hp → Prop := fun b H' => ∃ F' M', Beh K F M H F' M' H' ∧ Q b M'
def LL (K : PySem.W.Frag) (F : Hp) (M : Mem) (H : Hp) (Q : List PV → Mem → Prop) : List V → Hp → Prop := fun vs H' => ∃ F' M' xs, Beh K F M H F' M' H' ∧ RAll K F' xs vs ∧ Q xs M'
theorem LQ.tr {K : PySem.W.Frag} {F F1 H H1 : Hp} {M M1 : Mem} {Q : PQ} (b : Beh K F M H F1 M1 H1) {v : V} {H2 : Hp} : LQ K F1 M1 H1 Q v H2 → LQ K F M H Q v H2
  | ⟨F2, M2, x, b2, r, q⟩ => ⟨F2, M2, x, b.trans b2, r, q⟩
theorem LB.tr {K : PySem.W.Frag} {F F1 H H1 : Hp} {M M1 : Mem} {Q : Bool → Mem → Prop} (b : Beh K F M H F1 M1 H1) {v : Bool} {H2 : Hp} : LB K F1 M1 H1 Q v H2 → LB K F M H Q v H2
  | ⟨F2, M2, b2, q⟩ => ⟨F2, M2, b.trans b2, q⟩
theorem LL.tr {K : PySem.W.Frag} {F F1 H H1 : Hp} {M M1 : Mem} {Q : List PV → Mem → Prop} (b : Beh K F M H F1 M1 H1) {v : List V} {H2 : Hp} : LL K F1 M1 H1 Q v H2 → LL K F M H Q v H2
  | ⟨F2, M2, x, b2, r, q⟩ => ⟨F2, M2, x, b.trans b2, r, q⟩
theorem LQ.now {K : PySem.W.Frag} {F H : Hp} {M : Mem} {Q : PQ} {v : V} {x : PV} (r : RM K F M H) (q : R K F x v) (h : Q x M) : LQ K F M H Q v H := ⟨F, M, x, Beh.refl r, q, h⟩

/-- how the exception's attributes lie -/
def XA (K : PySem.W.Frag) (F : Hp) (fs : List (Str × PV)) (d : Option Addr) (H : Hp) : Prop := match d with
  | none => fs = []
  | some a => fs ≠ [] ∧ ∃ vs, H a = some (.xd vs) ∧ F a = some (.xd vs) ∧ RFs K F fs vs
def LX (K : PySem.W.Frag) (F : Hp) (M : Mem) (H : Hp) (E : PXK) : XK := fun cls d H' => ∃ F' M' C fs, cls = .ref C ∧ Beh K F M H F' M' H' ∧ XA K F' fs d H' ∧ E C fs M'
theorem LX.tr {K : PySem.W.Frag} {F F1 H H1 : Hp} {M M1 : Mem} {E : PXK} (b : Beh K F M H F1 M1 H1) {cls : Value} {d : Option Addr} {H2 : Hp} : LX K F1 M1 H1 E cls d H2 → LX K F M H E cls d H2
  | ⟨F2, M2, C, fs, h1, b2, h3, h4⟩ => ⟨F2, M2, C, fs, h1, b.trans b2, h3, h4⟩
/-- such exceptions may leave -/
def PTk (X : Cx) (F : Hp) (M : Mem) (H : Hp) (E : PXK) : Prop := Takes X (fun cls d _ H' => LX X.K F M H E cls d H')
theorem PTk.tr {X : Cx} {F F1 H H1 : Hp} {M M1 : Mem} {E : PXK} (tk : PTk X F M H E) (b : Beh X.K F M H F1 M1 H1) : PTk X F1 M1 H1 E := tk.imp fun _ _ _ _ h => h.tr b
def noX : PXK := fun _ _ _ => False
theorem PTk.no {X : Cx} {F H : Hp} {M : Mem} : PTk X F M H noX := fun _ _ ⟨_, _, _, _, _, _, _, _, _, _, _, _, _, _, _, _, _, _, _, _, _, _, _, z⟩ => z.elim

structure LE (X : Cx) (e : Expr) (t : PTE) : Prop where
  run : ∀ (σv : L2.St) (H : Hp) (σ : PSt) (F : Hp) (M : Mem) (Q : PQ) (E : PXK), PTk X F M H E → RM X.K F M H → RS X.K F σ σv → t E σ M Q → WE X e σv H (LQ X.K F M H Q)
structure LT (X : Cx) (e : Expr) (t : PTT) : Prop where
  run : ∀ (σv : L2.St) (H : Hp) (σ : PSt) (F : Hp) (M : Mem) (Q : Bool → Mem → Prop) (E : PXK), PTk X F M H E → RM X.K F M H → RS X.K F σ σv → t E σ M Q → WT X e σv H (LB X.K F M H Q)
structure LW (X : Cx) (e : Expr) (t : PTT) : Prop where
  run : ∀ (σv : L2.St) (H : Hp) (σ : PSt) (F : Hp) (M : Mem) (Q : Bool → Mem → Prop) (E : PXK), PTk X F M H E → RM X.K F M H → RS X.K F σ σv → t E σ M Q → WW X e σv H (LB X.K F M H Q)
structure LA (X : Cx) (es : List Expr) (t : PTA) : Prop where
  run : ∀ (σv : L2.St) (H : Hp) (σ : PSt) (F : Hp) (M : Mem) (Q : List PV → Mem → Prop) (E : PXK), PTk X F M H E → RM X.K F M H → RS X.K F σ σv → t E σ M Q → WA X es σv H (fun vs H' => vs.length = es.length ∧ LL X.K F M H Q vs H')
theorem LW.lt {X : Cx} {e : Expr} {t : PTT} (h : LW X e t) : LT X e t := ⟨fun σv H σ F M Q E tk r s q pins s' I => h.run σv H σ F M Q E tk r s q _ pins s' I⟩

/-! ### small words of the readings -/
def need {α : Type} (o : Option α) (k : α → Prop) : Prop := match o with | some a => k a | none => False
theorem need_some {α : Type} {a : α} {k : α → Prop} : need (some a) k = k a := rfl
theorem need_none {α : Type} {k : α → Prop} : need none k = False := rfl
theorem need_of {α : Type} {o : Option α} {k : α → Prop} (h : need o k) : ∃ a, o = some a ∧ k a := by
  cases o with
  | some a => exact ⟨a, rfl, h⟩
  | none => exact h.elim
theorem need_by {α : Type} {o : Option α} {a : α} {k : α → Prop} (e : o = some a) (h : k a) : need o k := by rw [e]; exact h

section
variable {X : Cx} {a b c e : Expr} {ta tb tc : PTE} {pos : Pos} {σv : L2.St} {H : Hp} {σ : PSt} {F : Hp} {M : Mem}

/-- two in a row -/
theorem seq2 (ha : LE X a ta) (hb : LE X b tb) {E : PXK} (tk : PTk X F M H E) (r : RM X.K F M H) (s : RS X.K F σ σv) {k : PV → PV → Mem → Prop} (h : ta E σ M fun x M1 => tb E σ M1 fun y M2 => k x y M2)
    {Q : V → V → Hp → Prop} (hk : ∀ x y xv yv F2 M2 H2, Beh X.K F M H F2 M2 H2 → R X.K F2 x xv → R X.K F2 y yv → k x y M2 → Q xv yv H2) :
    WE X a σv H fun xv H1 => WE X b σv H1 fun yv H2 => Q xv yv H2 := by
  refine (ha.run σv H σ F M _ E tk r s h).mono ?_
  rintro xv H1 ⟨F1, M1, x, b1, rx, h1⟩
  refine (hb.run σv H1 σ F1 M1 _ E (tk.tr b1) b1.rm (s.same b1.sm) h1).mono ?_
  rintro yv H2 ⟨F2, M2, y, b2, ry, h2⟩
  exact hk x y xv yv F2 M2 H2 (b1.trans b2) (rx.same b2.sm) ry h2

/-! ### names, constants -/
def pVar (i : Nat) : PTE := fun E σ M Q => match σ[i]? with | some (some x) => Q x M | _ => False
def pC (x : PV) : PTE := fun _ _ M Q => Q x M
theorem LE.var (i : Nat) {x : Str} (hN : X.N[i]? = some x := by rfl) (hv : Vis X.env.scope x := by first | exact Or.inl rfl | exact Or.inr (Or.inl rfl) | exact Or.inr (Or.inr rfl))
    (hd : (x == ("__debug__" : Str)) = false := by decide) (hcd : (x == ("__classdict__" : Str)) = false := by decide) : LE X (.Name x pos) (pVar i) := by
  refine ⟨fun σv H σ F M Q E tk r s h => WE.of (pe_var (i := i) hN hv hd hcd) ?_⟩
  unfold pVar at h
  split at h
  · rename_i x hx
    obtain ⟨v, h1, h2⟩ := s.at_ i x hx
    exact ⟨v, h1, LQ.now r h2 h⟩
  · exact h.elim
theorem LE.int {i j} : LE X (.Constant (.int i) j pos) (pC (.int i)) := ⟨fun σv H σ F M Q E tk r s h => WE.of pe_int (LQ.now r (.int i) h)⟩
theorem LE.bl {b j} : LE X (.Constant (.bool b) j pos) (pC (.bl b)) := ⟨fun σv H σ F M Q E tk r s h => WE.of pe_bl (LQ.now r (.bl b) h)⟩
theorem LE.non {j} : LE X (.Constant .none j pos) (pC .non) := ⟨fun σv H σ F M Q E tk r s h => WE.of pe_non (LQ.now r .non h)⟩
theorem LE.str {x j} : LE X (.Constant (.str x) j pos) (pC (.str x)) := ⟨fun σv H σ F M Q E tk r s h => WE.of pe_str (LQ.now r (.str x) h)⟩

/-! ### operators -/
abbrev PO2 := PV → PV → Mem → PQ → Prop
def POp (K : PySem.W.Frag) (r : R2) (o : PO2) : Prop := ∀ (F : Hp) (M : Mem) (H : Hp) (x y : PV) (xv yv : V) (Q : PQ) (Qv : VK), RM K F M H → R K F x xv → R K F y yv → o x y M Q →
  (∀ v H', LQ K F M H Q v H' → Qv v H') → r xv yv H Qv
def pBin (o : PO2) (ta tb : PTE) : PTE := fun E σ M Q => ta E σ M fun x M1 => tb E σ M1 fun y M2 => o x y M2 Q
theorem LE.bin {op : Operator} {r : R2} {o : PO2} (ho : OpR X (binaryOp op) r) (hp : POp X.K r o) (ha : LE X a ta) (hb : LE X b tb) : LE X (.BinOp a op b pos) (pBin o ta tb) := by
  refine ⟨fun σv H σ F M Q E tk rm rs h => WE.of (pe_op ho WE.pe WE.pe) ?_⟩
  exact seq2 ha hb tk rm rs h fun x y xv yv F2 M2 H2 bh rx ry h2 => hp F2 M2 H2 x y xv yv Q _ bh.rm rx ry h2 fun v H' q => q.tr bh
theorem LE.cmp {op : CmpOp} {r : R2} {o : PO2} (ho : OpR X (compareOp op) r) (hp : POp X.K r o) (hm : behindInMarks op b = false) (ha : LE X a ta) (hb : LE X b tb) : LE X (.Compare a [op] [b] pos) (pBin o ta tb) := by
  refine ⟨fun σv H σ F M Q E tk rm rs h => WE.of (pe_cmpR ho WE.pe WE.pe hm) ?_⟩
  exact seq2 ha hb tk rm rs h fun x y xv yv F2 M2 H2 bh rx ry h2 => hp F2 M2 H2 x y xv yv Q _ bh.rm rx ry h2 fun v H' q => q.tr bh
/-- a value that is a bool, as a test's -/
def kB (x : PV) (k : Bool → Prop) : Prop := match x with | .bl b => k b | _ => False
theorem kB_bl {b : Bool} {k : Bool → Prop} : kB (.bl b) k = k b := rfl
theorem R.bl_inv {K : PySem.W.Frag} {F : Hp} {x : PV} {v : V} {k : Bool → Prop} (r : R K F x v) (h : kB x k) : ∃ c, v = .bl c ∧ k c := by
  cases r <;> first | exact h.elim | exact ⟨_, rfl, h⟩
def pTest (t : PTE) : PTT := fun E σ M Q => t E σ M fun x M1 => kB x fun b => Q b M1
theorem LT.cmp {op : CmpOp} {r : R2} {o : PO2} (ho : OpR X (compareOp op) r) (hp : POp X.K r o) (hm : behindInMarks op b = false) (ha : LE X a ta) (hb : LE X b tb) : LT X (.Compare a [op] [b] pos) (pTest (pBin o ta tb)) := by
  refine ⟨fun σv H σ F M Q E tk rm rs h => WT.of (pt_cmpR ho WE.pe WE.pe hm) ?_⟩
  refine seq2 ha hb tk rm rs h fun x y xv yv F2 M2 H2 bh rx ry h2 => hp F2 M2 H2 x y xv yv _ _ bh.rm rx ry h2 fun v H' q => ?_
  obtain ⟨F3, M3, z, b3, rz, hz⟩ := q
  obtain ⟨c, rfl, hc⟩ := rz.bl_inv hz
  exact ⟨c, rfl, F3, M3, bh.trans b3, hc⟩
/-- any expression that hands back a bool, as a test -/
theorem LT.val (h : LE X e ta) (he : ∀ whole, isTrue e X.env whole = (do let v ← whole; standAt e.pos; holding [v] (truthy v)) := by intro _; rfl) : LT X e (pTest ta) := by
  refine ⟨fun σv H σ F M Q E tk rm rs hh => WT.of (pt_val WE.pe he) ?_⟩
  refine (h.run σv H σ F M _ E tk rm rs hh).mono ?_
  rintro v H1 ⟨F1, M1, x, b1, rx, hx⟩
  obtain ⟨c, rfl, hc⟩ := rx.bl_inv hx
  exact ⟨c, rfl, F1, M1, b1, hc⟩

/-! ### ints -/
def oI (C : Int → Int → Prop) (g : Int → Int → PV) : PO2 := fun x y M Q => match x, y with | .int i, .int j => C i j ∧ Q (g i j) M | _, _ => False
def oI0 (g : Int → Int → PV) : PO2 := fun x y M Q => match x, y with | .int i, .int j => Q (g i j) M | _, _ => False
theorem pop_I {K : PySem.W.Frag} {C : Int → Int → Prop} {g : Int → Int → PV} {gv : Int → Int → V} (hg : ∀ F i j, R K F (g i j) (gv i j)) : POp K (rI C gv) (oI C g) := by
  intro F M H x y xv yv Q Qv rm rx ry h k
  cases rx <;> cases ry <;> first
    | exact h.elim
    | exact ⟨_, _, rfl, rfl, h.1, k _ _ (LQ.now rm (hg _ _ _) h.2)⟩
theorem pop_I0 {K : PySem.W.Frag} {g : Int → Int → PV} {gv : Int → Int → V} (hg : ∀ F i j, R K F (g i j) (gv i j)) : POp K (rI0 gv) (oI0 g) := by
  intro F M H x y xv yv Q Qv rm rx ry h k
  cases rx <;> cases ry <;> first
    | exact h.elim
    | exact ⟨_, _, rfl, rfl, k _ _ (LQ.now rm (hg _ _ _) h)⟩
abbrev oSub := oI0 fun i j => .int (i - j)
abbrev oMul := oI CMul fun i j => .int (i * j)
abbrev oDiv := oI CDiv fun i j => .int (i / j)
abbrev oMod := oI (fun _ j => 0 < j) fun i j => .int (i % j)
abbrev oPow := oI CPow fun i j => .int (i ^ j.toNat)
abbrev oLt := oI0 fun i j => .bl (decide (i < j))
abbrev oLe := oI0 fun i j => .bl (decide (i ≤ j))
abbrev oGt := oI0 fun i j => .bl (decide (j < i))
abbrev oGe := oI0 fun i j => .bl (decide (j ≤ i))
theorem LE.sub (ha : LE X a ta) (hb : LE X b tb) : LE X (.BinOp a .Sub b pos) (pBin oSub ta tb) := LE.bin op_sub (pop_I0 fun _ _ _ => .int _) ha hb
theorem LE.mul (ha : LE X a ta) (hb : LE X b tb) : LE X (.BinOp a .Mult b pos) (pBin oMul ta tb) := LE.bin op_mul (pop_I fun _ _ _ => .int _) ha hb
theorem LE.div (ha : LE X a ta) (hb : LE X b tb) : LE X (.BinOp a .FloorDiv b pos) (pBin oDiv ta tb) := LE.bin op_fdiv (pop_I fun _ _ _ => .int _) ha hb
theorem LE.mod (ha : LE X a ta) (hb : LE X b tb) : LE X (.BinOp a .Mod b pos) (pBin oMod ta tb) := LE.bin op_mod (pop_I fun _ _ _ => .int _) ha hb
theorem LE.pow (ha : LE X a ta) (hb : LE X b tb) : LE X (.BinOp a .Pow b pos) (pBin oPow ta tb) := LE.bin op_pow (pop_I fun _ _ _ => .int _) ha hb
theorem LE.lt (ha : LE X a ta) (hb : LE X b tb) : LE X (.Compare a [.Lt] [b] pos) (pBin oLt ta tb) := LE.cmp op_lt (pop_I0 fun _ _ _ => .bl _) (nomark _) ha hb
theorem LE.le (ha : LE X a ta) (hb : LE X b tb) : LE X (.Compare a [.LtE] [b] pos) (pBin oLe ta tb) := LE.cmp op_le (pop_I0 fun _ _ _ => .bl _) (nomark _) ha hb
theorem LE.gt (ha : LE X a ta) (hb : LE X b tb) : LE X (.Compare a [.Gt] [b] pos) (pBin oGt ta tb) := LE.cmp op_gt (pop_I0 fun _ _ _ => .bl _) (nomark _) ha hb
theorem LE.ge (ha : LE X a ta) (hb : LE X b tb) : LE X (.Compare a [.GtE] [b] pos) (pBin oGe ta tb) := LE.cmp op_ge (pop_I0 fun _ _ _ => .bl _) (nomark _) ha hb
theorem LT.lt (ha : LE X a ta) (hb : LE X b tb) : LT X (.Compare a [.Lt] [b] pos) (pTest (pBin oLt ta tb)) := LT.cmp op_lt (pop_I0 fun _ _ _ => .bl _) (nomark _) ha hb
theorem LT.le (ha : LE X a ta) (hb : LE X b tb) : LT X (.Compare a [.LtE] [b] pos) (pTest (pBin oLe ta tb)) := LT.cmp op_le (pop_I0 fun _ _ _ => .bl _) (nomark _) ha hb
theorem LT.gt (ha : LE X a ta) (hb : LE X b tb) : LT X (.Compare a [.Gt] [b] pos) (pTest (pBin oGt ta tb)) := LT.cmp op_gt (pop_I0 fun _ _ _ => .bl _) (nomark _) ha hb
theorem LT.ge (ha : LE X a ta) (hb : LE X b tb) : LT X (.Compare a [.GtE] [b] pos) (pTest (pBin oGe ta tb)) := LT.cmp op_ge (pop_I0 fun _ _ _ => .bl _) (nomark _) ha hb
def pNeg (ta : PTE) : PTE := fun E σ M Q => ta E σ M fun x M1 => match x with | .int i => Q (.int (-i)) M1 | _ => False
theorem LE.neg (ha : LE X a ta) : LE X (.UnaryOp .USub a pos) (pNeg ta) := by
  refine ⟨fun σv H σ F M Q E tk rm rs h => WE.of (pe_un un_neg WE.pe) ?_⟩
  refine (ha.run σv H σ F M _ E tk rm rs h).mono ?_
  rintro v H1 ⟨F1, M1, x, b1, rx, hx⟩
  cases rx <;> first
    | exact hx.elim
    | exact ⟨_, rfl, LQ.tr b1 (LQ.now b1.rm (.int _) hx)⟩
/-- a <= b <= c and its like -/
def pChain (p q : Int → Int → Bool) (ta tb tc : PTE) : PTE := fun E σ M Q => ta E σ M fun x M1 => tb E σ M1 fun y M2 => match x, y with
  | .int i, .int j => if p i j = true then tc E σ M2 fun z M3 => match z with | .int l => Q (.bl (q j l)) M3 | _ => False else Q (.bl false) M2
  | _, _ => False
theorem LE.chain {op op' : CmpOp} {p q : Int → Int → Bool} (ho : OpR X (compareOp op) (rI0 fun i j => .bl (p i j))) (ho' : OpR X (compareOp op') (rI0 fun i j => .bl (q i j)))
    (hm : lastMarks [op, op'] [b, c] = false) (ha : LE X a ta) (hb : LE X b tb) (hc : LE X c tc) : LE X (.Compare a [op, op'] [b, c] pos) (pChain p q ta tb tc) := by
  refine ⟨fun σv H σ F M Q E tk rm rs h => WE.of (pe_chain ho ho' WE.pe WE.pe WE.pe hm) ?_⟩
  refine seq2 ha hb tk rm rs h fun x y xv yv F2 M2 H2 bh rx ry h2 => ?_
  cases rx <;> cases ry <;> first
    | exact h2.elim
    | skip
  rename_i i j
  dsimp only at h2
  refine ⟨i, j, rfl, rfl, p i j, rfl, ?_⟩
  split
  · rename_i hp
    rw [if_pos hp] at h2
    refine (hc.run σv H2 σ F2 M2 _ E (tk.tr bh) bh.rm (rs.same bh.sm) h2).mono ?_
    rintro v H3 ⟨F3, M3, z, b3, rz, hz⟩
    cases rz <;> first
      | exact hz.elim
      | exact ⟨j, _, rfl, rfl, LQ.tr (bh.trans b3) (LQ.now b3.rm (.bl _) hz)⟩
  · rename_i hp
    rw [if_neg hp] at h2
    exact LQ.tr bh (LQ.now bh.rm (.bl _) h2)
theorem LE.lele (ha : LE X a ta) (hb : LE X b tb) (hc : LE X c tc) (hm : lastMarks [CmpOp.LtE, CmpOp.LtE] [b, c] = false := by with_unfolding_all rfl) : LE X (.Compare a [.LtE, .LtE] [b, c] pos) (pChain (fun i j => decide (i ≤ j)) (fun i j => decide (i ≤ j)) ta tb tc) :=
  LE.chain op_le op_le hm ha hb hc
/-! ### is None -/
def isNon : PV → Bool | .non => true | _ => false
theorem R.isNon {K : PySem.W.Frag} {F : Hp} {x : PV} {v : V} (r : R K F x v) : decide (v = .non) = isNon x := by
  cases r <;> rfl
def pIsN (ta : PTE) : PTE := fun E σ M Q => ta E σ M fun x M1 => Q (.bl (isNon x)) M1
def pNotN (ta : PTE) : PTE := fun E σ M Q => ta E σ M fun x M1 => Q (.bl (!isNon x)) M1
def pTIsN (ta : PTE) : PTT := fun E σ M Q => ta E σ M fun x M1 => Q (isNon x) M1
def pTNotN (ta : PTE) : PTT := fun E σ M Q => ta E σ M fun x M1 => Q (!isNon x) M1
theorem LE.isN {j pos'} (ha : LE X a ta) : LE X (.Compare a [.Is] [.Constant .none j pos'] pos) (pIsN ta) := by
  refine ⟨fun σv H σ F M Q E tk rm rs h => WE.of (pe_cmp (pc_isN WE.pe)) ?_⟩
  refine (ha.run σv H σ F M _ E tk rm rs h).mono ?_
  rintro v H1 ⟨F1, M1, x, b1, rx, hx⟩
  exact ⟨F1, M1, _, b1, by rw [rx.isNon]; exact .bl _, hx⟩
theorem LE.notN {j pos'} (ha : LE X a ta) : LE X (.Compare a [.IsNot] [.Constant .none j pos'] pos) (pNotN ta) := by
  refine ⟨fun σv H σ F M Q E tk rm rs h => WE.of (pe_cmp (pc_notN WE.pe)) ?_⟩
  refine (ha.run σv H σ F M _ E tk rm rs h).mono ?_
  rintro v H1 ⟨F1, M1, x, b1, rx, hx⟩
  exact ⟨F1, M1, _, b1, by rw [rx.isNon]; exact .bl _, hx⟩
theorem LT.isN {j pos'} (ha : LE X a ta) : LT X (.Compare a [.Is] [.Constant .none j pos'] pos) (pTIsN ta) := by
  refine ⟨fun σv H σ F M Q E tk rm rs h => WT.of (pt_cmp (pc_isN WE.pe)) ?_⟩
  refine (ha.run σv H σ F M _ E tk rm rs h).mono ?_
  rintro v H1 ⟨F1, M1, x, b1, rx, hx⟩
  exact ⟨_, by rw [rx.isNon], F1, M1, b1, hx⟩
theorem LT.notN {j pos'} (ha : LE X a ta) : LT X (.Compare a [.IsNot] [.Constant .none j pos'] pos) (pTNotN ta) := by
  refine ⟨fun σv H σ F M Q E tk rm rs h => WT.of (pt_cmp (pc_notN WE.pe)) ?_⟩
  refine (ha.run σv H σ F M _ E tk rm rs h).mono ?_
  rintro v H1 ⟨F1, M1, x, b1, rx, hx⟩
  exact ⟨_, by rw [rx.isNon], F1, M1, b1, hx⟩
/-! ### and, or, not -/
variable {rest : List Expr} {tt tu : PTT}
def pAnd (t u : PTT) : PTT := fun E σ M Q => t E σ M fun c M1 => if c = true then u E σ M1 Q else Q false M1
def pOr (t u : PTT) : PTT := fun E σ M Q => t E σ M fun c M1 => if c = true then Q true M1 else u E σ M1 Q
def pNot (t : PTT) : PTT := fun E σ M Q => t E σ M fun c M1 => Q (!c) M1
theorem LW.and1 (ha : LT X a tt) : LW X (.BoolOp .And [a] pos) tt := ⟨fun σv H σ F M Q E tk rm rs h => WW.of (pw_and1 WT.pt) (ha.run σv H σ F M Q E tk rm rs h)⟩
theorem LW.or1 (ha : LT X a tt) : LW X (.BoolOp .Or [a] pos) tt := ⟨fun σv H σ F M Q E tk rm rs h => WW.of (pw_or1 WT.pt) (ha.run σv H σ F M Q E tk rm rs h)⟩
theorem LW.and (ha : LT X a tt) (hb : LW X (.BoolOp .And (b :: rest) pos) tu) : LW X (.BoolOp .And (a :: b :: rest) pos) (pAnd tt tu) := by
  refine ⟨fun σv H σ F M Q E tk rm rs h => WW.of (pw_and WT.pt WW.pw) ?_⟩
  refine (ha.run σv H σ F M _ E tk rm rs h).mono ?_
  rintro c H1 ⟨F1, M1, b1, hc⟩
  split
  · rename_i e
    rw [if_pos e] at hc
    exact (hb.run σv H1 σ F1 M1 _ E (tk.tr b1) b1.rm (rs.same b1.sm) hc).mono fun v H' q => q.tr b1
  · rename_i e
    rw [if_neg e] at hc
    exact ⟨F1, M1, b1, hc⟩
theorem LW.or (ha : LT X a tt) (hb : LW X (.BoolOp .Or (b :: rest) pos) tu) : LW X (.BoolOp .Or (a :: b :: rest) pos) (pOr tt tu) := by
  refine ⟨fun σv H σ F M Q E tk rm rs h => WW.of (pw_or WT.pt WW.pw) ?_⟩
  refine (ha.run σv H σ F M _ E tk rm rs h).mono ?_
  rintro c H1 ⟨F1, M1, b1, hc⟩
  split
  · rename_i e
    rw [if_pos e] at hc
    exact ⟨F1, M1, b1, hc⟩
  · rename_i e
    rw [if_neg e] at hc
    exact (hb.run σv H1 σ F1 M1 _ E (tk.tr b1) b1.rm (rs.same b1.sm) hc).mono fun v H' q => q.tr b1
theorem LT.not (ha : LT X a tt) : LT X (.UnaryOp .Not a pos) (pNot tt) := by
  refine ⟨fun σv H σ F M Q E tk rm rs h => WT.of (pt_not WT.pt) ?_⟩
  refine (ha.run σv H σ F M _ E tk rm rs h).mono ?_
  rintro c H1 ⟨F1, M1, b1, hc⟩
  exact ⟨F1, M1, b1, hc⟩
def pAndV (ta tb : PTE) : PTE := fun E σ M Q => ta E σ M fun x M1 => kB x fun c => if c = true then tb E σ M1 Q else Q (.bl false) M1
def pOrV (ta tb : PTE) : PTE := fun E σ M Q => ta E σ M fun x M1 => kB x fun c => if c = true then Q (.bl true) M1 else tb E σ M1 Q
def pNotV (ta : PTE) : PTE := fun E σ M Q => ta E σ M fun x M1 => kB x fun c => Q (.bl (!c)) M1
theorem LE.one {op} (ha : LE X a ta) : LE X (.BoolOp op [a] pos) ta := ⟨fun σv H σ F M Q E tk rm rs h => WE.of (pe_one WE.pe) (ha.run σv H σ F M Q E tk rm rs h)⟩
theorem LE.and (ha : LE X a ta) (hb : LE X (.BoolOp .And (b :: rest) pos) tb) : LE X (.BoolOp .And (a :: b :: rest) pos) (pAndV ta tb) := by
  refine ⟨fun σv H σ F M Q E tk rm rs h => WE.of (pe_and WE.pe WE.pe) ?_⟩
  refine (ha.run σv H σ F M _ E tk rm rs h).mono ?_
  rintro v H1 ⟨F1, M1, x, b1, rx, hx⟩
  obtain ⟨c, rfl, hc⟩ := rx.bl_inv hx
  refine ⟨c, rfl, ?_⟩
  split
  · rename_i e
    rw [if_pos e] at hc
    exact (hb.run σv H1 σ F1 M1 _ E (tk.tr b1) b1.rm (rs.same b1.sm) hc).mono fun v H' q => q.tr b1
  · rename_i e
    rw [if_neg e] at hc
    exact ⟨F1, M1, _, b1, .bl _, hc⟩
theorem LE.or (ha : LE X a ta) (hb : LE X (.BoolOp .Or (b :: rest) pos) tb) : LE X (.BoolOp .Or (a :: b :: rest) pos) (pOrV ta tb) := by
  refine ⟨fun σv H σ F M Q E tk rm rs h => WE.of (pe_or WE.pe WE.pe) ?_⟩
  refine (ha.run σv H σ F M _ E tk rm rs h).mono ?_
  rintro v H1 ⟨F1, M1, x, b1, rx, hx⟩
  obtain ⟨c, rfl, hc⟩ := rx.bl_inv hx
  refine ⟨c, rfl, ?_⟩
  split
  · rename_i e
    rw [if_pos e] at hc
    exact ⟨F1, M1, _, b1, .bl _, hc⟩
  · rename_i e
    rw [if_neg e] at hc
    exact (hb.run σv H1 σ F1 M1 _ E (tk.tr b1) b1.rm (rs.same b1.sm) hc).mono fun v H' q => q.tr b1
theorem LE.not (ha : LE X a ta) : LE X (.UnaryOp .Not a pos) (pNotV ta) := by
  refine ⟨fun σv H σ F M Q E tk rm rs h => WE.of (pe_not WE.pe) ?_⟩
  refine (ha.run σv H σ F M _ E tk rm rs h).mono ?_
  rintro v H1 ⟨F1, M1, x, b1, rx, hx⟩
  obtain ⟨c, rfl, hc⟩ := rx.bl_inv hx
  exact ⟨c, rfl, F1, M1, _, b1, .bl _, hc⟩
def pIf (t : PTT) (ta tb : PTE) : PTE := fun E σ M Q => t E σ M fun c M1 => if c = true then ta E σ M1 Q else tb E σ M1 Q
theorem LE.ifE (hc : LT X c tt) (ha : LE X a ta) (hb : LE X b tb) : LE X (.IfExp c a b pos) (pIf tt ta tb) := by
  refine ⟨fun σv H σ F M Q E tk rm rs h => WE.of (pe_ifExp WT.pt WE.pe WE.pe) ?_⟩
  refine (hc.run σv H σ F M _ E tk rm rs h).mono ?_
  rintro c H1 ⟨F1, M1, b1, hc⟩
  split
  · rename_i e
    rw [if_pos e] at hc
    exact (ha.run σv H1 σ F1 M1 _ E (tk.tr b1) b1.rm (rs.same b1.sm) hc).mono fun v H' q => q.tr b1
  · rename_i e
    rw [if_neg e] at hc
    exact (hb.run σv H1 σ F1 M1 _ E (tk.tr b1) b1.rm (rs.same b1.sm) hc).mono fun v H' q => q.tr b1
/-! ### argument lists, displays -/
variable {es : List Expr} {t : PTA}
def pNil : PTA := fun _ _ M Q => Q [] M
def pCons (ta : PTE) (tr : PTA) : PTA := fun E σ M Q => ta E σ M fun x M1 => tr E σ M1 fun xs M2 => Q (x :: xs) M2
theorem LA.nil : LA X [] pNil := ⟨fun σv H σ F M Q E tk rm rs h => WA.of pa_nil ⟨rfl, F, M, [], Beh.refl rm, .nil, h⟩⟩
theorem LA.cons (ha : LE X e ta) (hr : LA X es t) (hs : starEach (e :: es) X.env = (false, eval e X.env) :: starEach es X.env := by rfl) : LA X (e :: es) (pCons ta t) := by
  refine ⟨fun σv H σ F M Q E tk rm rs h => WA.of (pa_cons WE.pe WA.pa hs) ?_⟩
  refine (ha.run σv H σ F M _ E tk rm rs h).mono ?_
  rintro v H1 ⟨F1, M1, x, b1, rx, hx⟩
  refine (hr.run σv H1 σ F1 M1 _ E (tk.tr b1) b1.rm (rs.same b1.sm) hx).mono ?_
  rintro vs H2 ⟨hl, F2, M2, xs, b2, rxs, hxs⟩
  exact ⟨congrArg (· + 1) hl, F2, M2, _, b1.trans b2, .cons (rx.same b2.sm) rxs, hxs⟩
def pTup (t : PTA) : PTE := fun E σ M Q => t E σ M fun xs M1 => Q (.tup xs) M1
def pLst (t : PTA) : PTE := fun E σ M Q => t E σ M fun xs M1 => Q (.lst xs) M1
def pLstM (t : PTA) : PTE := fun E σ M Q => t E σ M fun xs M1 => ∀ p, M1 p = none → Q (.ptr p) (M1.put p (.lst xs))
theorem LE.tup {x1} (h : LA X es t) (hn : es.length ≤ 1000 := by decide) : LE X (.Tuple es x1 pos) (pTup t) := by
  refine ⟨fun σv H σ F M Q E tk rm rs hh => WE.of (pe_tup WA.pa) ?_⟩
  refine (h.run σv H σ F M _ E tk rm rs hh).mono ?_
  rintro vs H1 ⟨hl, F1, M1, xs, b1, rx, hx⟩
  refine ⟨by rw [hl]; exact Nat.le_of_lt (small1000 hn), fun p np => ?_⟩
  exact ⟨_, M1, _, b1.trans (b1.rm.beh np), .tup (SqT.of upd_same) (rx.same (b1.rm.beh (o := .tup vs) np).sm), hx⟩
theorem LE.lst (h : LA X es t) (hn : es.length ≤ 1000 := by decide) : LE X (.List es pos) (pLst t) := by
  refine ⟨fun σv H σ F M Q E tk rm rs hh => WE.of (pe_lst WA.pa) ?_⟩
  refine (h.run σv H σ F M _ E tk rm rs hh).mono ?_
  rintro vs H1 ⟨hl, F1, M1, xs, b1, rx, hx⟩
  refine ⟨by rw [hl]; exact Nat.le_of_lt (small1000 hn), fun p np => ?_⟩
  exact ⟨_, M1, _, b1.trans (b1.rm.beh np), .lst upd_same (rx.same (b1.rm.beh (o := .lst vs) np).sm), hx⟩
theorem LE.lstM (h : LA X es t) (hn : es.length ≤ 1000 := by decide) : LE X (.List es pos) (pLstM t) := by
  refine ⟨fun σv H σ F M Q E tk rm rs hh => WE.of (pe_lst WA.pa) ?_⟩
  refine (h.run σv H σ F M _ E tk rm rs hh).mono ?_
  rintro vs H1 ⟨hl, F1, M1, xs, b1, rx, hx⟩
  refine ⟨by rw [hl]; exact Nat.le_of_lt (small1000 hn), fun p np => ?_⟩
  exact ⟨_, _, _, b1.trans (b1.rm.behNew np (.lst rx)), .ptr p, hx p (b1.rm.nones np).2⟩
end
end PL
set_option Elab.async false
set_option linter.all false
set_option maxRecDepth 100000
namespace PL
open PySem PySem.Spec PyProof.Rows L2

/-! ### sequences -/
def seqOf (M : Mem) : PV → Option (List PV)
  | .tup xs => some xs
  | .lst xs => some xs
  | .scr xs => some xs
  | .ptr a => match M a with | some (.lst xs) => some xs | _ => none
  | _ => none
def lstOf (M : Mem) : PV → Option (List PV)
  | .lst xs => some xs
  | .scr xs => some xs
  | .ptr a => match M a with | some (.lst xs) => some xs | _ => none
  | _ => none
theorem seqOf_ptr {M : Mem} {a : Addr} {xs : List PV} (h : M a = some (.lst xs)) : seqOf M (.ptr a) = some xs := by
  show (match M a with | some (.lst xs) => some xs | _ => none) = some xs
  rw [h]
theorem lstOf_ptr {M : Mem} {a : Addr} {xs : List PV} (h : M a = some (.lst xs)) : lstOf M (.ptr a) = some xs := by
  show (match M a with | some (.lst xs) => some xs | _ => none) = some xs
  rw [h]
section
variable {K : PySem.W.Frag} {F H : Hp} {M : Mem} {x : PV} {v : V} {xs : List PV}
theorem R.lstI (rm : RM K F M H) (r : R K F x v) (h : lstOf M x = some xs) : ∃ a vs, v = .ref a ∧ SqL K H a vs ∧ RAll K F xs vs := by
  cases r with
  | lst e q => cases h; exact ⟨_, _, rfl, SqL.of (rm.fr _ _ e), q⟩
  | scr e q => cases h; exact ⟨_, _, rfl, rm.fr.seq e, q⟩
  | ptr a =>
    cases hm : M a with
    | none =>
      have h' : (match M a with | some (.lst xs) => some xs | _ => none) = some xs := h
      rw [hm] at h'
      cases h'
    | some m =>
      have h' : (match M a with | some (.lst xs) => some xs | _ => none) = some xs := h
      rw [hm] at h'
      cases m with
      | lst ys =>
        cases h'
        obtain ⟨o, e1, q⟩ := rm.mu _ _ hm
        cases q with
        | lst q => exact ⟨_, _, rfl, SqL.of e1, q⟩
      | obj C fs => cases h'
      | dct _ _ => cases h'
  | _ => cases h
theorem lstOf_seq {M : Mem} (h : lstOf M x = some xs) : seqOf M x = some xs := by
  cases x <;> first | exact h | cases h
theorem R.seqI (rm : RM K F M H) (r : R K F x v) (h : seqOf M x = some xs) : ∃ a vs, v = .ref a ∧ (SqL K H a vs ∨ SqT K H a vs) ∧ RAll K F xs vs := by
  cases r with
  | tup e q => cases h; exact ⟨_, _, rfl, .inr (sqT_same rm.fr e), q⟩
  | lst e q => cases h; exact ⟨_, _, rfl, .inl (SqL.of (rm.fr _ _ e)), q⟩
  | scr e q => cases h; exact ⟨_, _, rfl, .inl (rm.fr.seq e), q⟩
  | ptr a =>
    obtain ⟨a', vs, e, q, r⟩ := R.lstI (x := .ptr a) rm (.ptr a) h
    exact ⟨a', vs, e, .inl q, r⟩
  | _ => cases h
theorem RAll.atI {vs : List V} {i : Int} {x : PV} (r : RAll K F xs vs) (h : atI xs i = some x) : ∃ v, L2.atI vs i = some v ∧ R K F x v := by
  unfold L2.atI at h ⊢
  rw [← r.length]
  cases q : ixN xs.length i with
  | none => rw [q] at h; cases h
  | some j =>
    rw [q] at h
    obtain ⟨v, h1, h2⟩ := r.get (i := j) h
    exact ⟨v, h1, h2⟩
end

/-! ### calls of what is built in -/
abbrev POn := List PV → Mem → PQ → Prop
def POc (K : PySem.W.Frag) (r : List V → Hp → VK → Prop) (o : POn) : Prop := ∀ (F : Hp) (M : Mem) (H : Hp) (xs : List PV) (vs : List V) (Q : PQ) (Qv : VK), RM K F M H → RAll K F xs vs → o xs M Q →
  (∀ v H', LQ K F M H Q v H' → Qv v H') → r vs H Qv
def pCallB (o : POn) (t : PTA) : PTE := fun E σ M Q => t E σ M fun xs M1 => o xs M1 Q
section
variable {X : Cx} {a b c e : Expr} {ta tb tc : PTE} {pos p : Pos} {es : List Expr} {t : PTA} {x : Str} {id T : String} {r : List V → Hp → VK → Prop} {o : POn}
theorem LE.callB (hc : CallR X (.builtin id) r) (hp : POc X.K r o) (hg : Gl X x) (hm : X.mg x = none) (hv : bootBuiltins x = some (.builtin id)) (ha : LA X (e :: es) t) (hn : x ≠ "__name__" := by decide) (hdb : (x == ("__debug__" : Str)) = false := by decide)
    (he : starEach (e :: es) X.env = (false, eval e X.env) :: starEach es X.env := by rfl) (hpl : (backTo pos (starEach es X.env)).any (·.1) = false := by rfl) : LE X (.Call (.Name x p) (e :: es) [] pos) (pCallB o t) := by
  refine ⟨fun σv H σ F M Q E tk rm rs h => WE.of (pe_callB hc hg hm hv WA.pa hn hdb he hpl) ?_⟩
  refine (ha.run σv H σ F M _ E tk rm rs h).mono ?_
  rintro vs H1 ⟨hl, F1, M1, xs, b1, rx, hx⟩
  exact hp F1 M1 H1 xs vs Q _ b1.rm rx hx fun v H' q => q.tr b1
theorem LE.callT (hc : CallR X (.type T) r) (hp : POc X.K r o) (hg : Gl X x) (hm : X.mg x = none) (hv : bootBuiltins x = some (.type T)) (ha : LA X (e :: es) t) (hn : x ≠ "__name__" := by decide) (hdb : (x == ("__debug__" : Str)) = false := by decide)
    (he : starEach (e :: es) X.env = (false, eval e X.env) :: starEach es X.env := by rfl) (hpl : (backTo pos (starEach es X.env)).any (·.1) = false := by rfl) : LE X (.Call (.Name x p) (e :: es) [] pos) (pCallB o t) := by
  refine ⟨fun σv H σ F M Q E tk rm rs h => WE.of (pe_callTy hc hg hm hv WA.pa hn hdb he hpl) ?_⟩
  refine (ha.run σv H σ F M _ E tk rm rs h).mono ?_
  rintro vs H1 ⟨hl, F1, M1, xs, b1, rx, hx⟩
  exact hp F1 M1 H1 xs vs Q _ b1.rm rx hx fun v H' q => q.tr b1
theorem RAll.one {K : PySem.W.Frag} {F : Hp} {x : PV} {vs : List V} (r : RAll K F [x] vs) : ∃ v, vs = [v] ∧ R K F x v := by
  cases r with
  | cons r t => cases t; exact ⟨_, rfl, r⟩
theorem RAll.two {K : PySem.W.Frag} {F : Hp} {x y : PV} {vs : List V} (r : RAll K F [x, y] vs) : ∃ v w, vs = [v, w] ∧ R K F x v ∧ R K F y w := by
  cases r with
  | cons r t =>
    obtain ⟨w, e, q⟩ := t.one
    subst e
    exact ⟨_, _, rfl, r, q⟩
/-- one argument -/
def on1 (k : PV → Mem → PQ → Prop) : POn := fun xs M Q => match xs with | [x] => k x M Q | _ => False
def on2 (k : PV → PV → Mem → PQ → Prop) : POn := fun xs M Q => match xs with | [x, y] => k x y M Q | _ => False
theorem on1_of {k : PV → Mem → PQ → Prop} {xs : List PV} {M : Mem} {Q : PQ} (h : on1 k xs M Q) : ∃ x, xs = [x] ∧ k x M Q := by
  unfold on1 at h; split at h
  · exact ⟨_, rfl, h⟩
  · exact h.elim
theorem on2_of {k : PV → PV → Mem → PQ → Prop} {xs : List PV} {M : Mem} {Q : PQ} (h : on2 k xs M Q) : ∃ x y, xs = [x, y] ∧ k x y M Q := by
  unfold on2 at h; split at h
  · exact ⟨_, _, rfl, h⟩
  · exact h.elim
def kLen (x : PV) (M : Mem) (Q : PQ) : Prop := match x with
  | .str y => y.length ≤ sizeLine ∧ Q (.int y.length) M
  | x => need (seqOf M x) fun xs => Q (.int xs.length) M
theorem LE.len (hg : Gl X "len") (hm : X.mg "len" = none) (ha : LA X [e] t) (he : starEach [e] X.env = (false, eval e X.env) :: starEach [] X.env := by rfl) : LE X (.Call (.Name "len" p) [e] [] pos) (pCallB (on1 kLen) t) := by
  refine LE.callB call_len (fun F M H xs vs Q Qv rm rx h k => ?_) hg hm PySem.boot_len ha (he := he)
  obtain ⟨x, ex, h1⟩ := on1_of h
  subst ex
  obtain ⟨v, ev, rx1⟩ := rx.one
  subst ev
  unfold kLen at h1
  split at h1
  · rename_i y
    cases rx1
    exact ⟨_, _, rfl, ⟨h1.1, rfl⟩, k _ _ (LQ.now rm (.int _) h1.2)⟩
  · obtain ⟨ys, e, h2⟩ := need_of h1
    obtain ⟨q, ws, ev, hs, ra⟩ := rx1.seqI rm e
    subst ev
    refine ⟨_, _, rfl, ?_, k _ _ (LQ.now rm (.int _) h2)⟩
    rcases hs with hs | hs
    · exact .inl ⟨ws, hs, ra.length⟩
    · exact .inr ⟨ws, hs, ra.length⟩
def kAbs (x : PV) (M : Mem) (Q : PQ) : Prop := match x with | .int i => Q (.int (if i < 0 then -i else i)) M | _ => False
theorem LE.abs (hg : Gl X "abs") (hm : X.mg "abs" = none) (ha : LA X [e] t) (he : starEach [e] X.env = (false, eval e X.env) :: starEach [] X.env := by rfl) : LE X (.Call (.Name "abs" p) [e] [] pos) (pCallB (on1 kAbs) t) := by
  refine LE.callB call_abs (fun F M H xs vs Q Qv rm rx h k => ?_) hg hm (by decide +kernel) ha (he := he)
  obtain ⟨x, ex, h1⟩ := on1_of h
  subst ex
  obtain ⟨v, ev, rx1⟩ := rx.one
  subst ev
  cases rx1 <;> first
    | exact h1.elim
    | exact ⟨_, rfl, k _ _ (LQ.now rm (.int _) h1)⟩
def kInt (x : PV) (M : Mem) (Q : PQ) : Prop := match x with | .int i => Q (.int i) M | .bl b => Q (.int (if b then 1 else 0)) M | _ => False
theorem LE.intOf (hg : Gl X "int") (hm : X.mg "int" = none) (ha : LA X [e] t) (he : starEach [e] X.env = (false, eval e X.env) :: starEach [] X.env := by rfl) : LE X (.Call (.Name "int" p) [e] [] pos) (pCallB (on1 kInt) t) := by
  refine LE.callT call_int1 (fun F M H xs vs Q Qv rm rx h k => ?_) hg hm (by decide +kernel) ha (he := he)
  obtain ⟨x, ex, h1⟩ := on1_of h
  subst ex
  obtain ⟨v, ev, rx1⟩ := rx.one
  subst ev
  cases rx1 <;> first
    | exact h1.elim
    | exact .inl ⟨_, rfl, k _ _ (LQ.now rm (.int _) h1)⟩
    | exact .inr ⟨_, rfl, k _ _ (LQ.now rm (.int _) h1)⟩
def kMin2 (x y : PV) (M : Mem) (Q : PQ) : Prop := match x, y with | .int i, .int j => Q (.int (if j < i then j else i)) M | _, _ => False
def kMax2 (x y : PV) (M : Mem) (Q : PQ) : Prop := match x, y with | .int i, .int j => Q (.int (if j > i then j else i)) M | _, _ => False
theorem LE.min2 (hc : X.calm = true) (hg : Gl X "min") (hm : X.mg "min" = none) (ha : LA X [a, b] t) (he : starEach [a, b] X.env = (false, eval a X.env) :: starEach [b] X.env := by rfl) (hpl : (backTo pos (starEach [b] X.env)).any (·.1) = false := by rfl) : LE X (.Call (.Name "min" p) [a, b] [] pos) (pCallB (on2 kMin2) t) := by
  refine LE.callB (call_min2 hc) (fun F M H xs vs Q Qv rm rx h k => ?_) hg hm (by decide +kernel) ha (he := he) (hpl := hpl)
  obtain ⟨x, y, ex, h1⟩ := on2_of h
  subst ex
  obtain ⟨v, w, ev, rx1, ry1⟩ := rx.two
  subst ev
  cases rx1 <;> cases ry1 <;> first
    | exact h1.elim
    | exact ⟨_, _, rfl, k _ _ (LQ.now rm (.int _) h1)⟩
theorem LE.max2 (hc : X.calm = true) (hg : Gl X "max") (hm : X.mg "max" = none) (ha : LA X [a, b] t) (he : starEach [a, b] X.env = (false, eval a X.env) :: starEach [b] X.env := by rfl) (hpl : (backTo pos (starEach [b] X.env)).any (·.1) = false := by rfl) : LE X (.Call (.Name "max" p) [a, b] [] pos) (pCallB (on2 kMax2) t) := by
  refine LE.callB (call_max2 hc) (fun F M H xs vs Q Qv rm rx h k => ?_) hg hm (by decide +kernel) ha (he := he) (hpl := hpl)
  obtain ⟨x, y, ex, h1⟩ := on2_of h
  subst ex
  obtain ⟨v, w, ev, rx1, ry1⟩ := rx.two
  subst ev
  cases rx1 <;> cases ry1 <;> first
    | exact h1.elim
    | exact ⟨_, _, rfl, k _ _ (LQ.now rm (.int _) h1)⟩
/-! ### list(x), tuple(x) -/
def kList (x : PV) (M : Mem) (Q : PQ) : Prop := need (seqOf M x) fun xs => Q (.lst xs) M
def kListM (x : PV) (M : Mem) (Q : PQ) : Prop := need (seqOf M x) fun xs => ∀ p, M p = none → Q (.ptr p) (M.put p (.lst xs))
def kTup (x : PV) (M : Mem) (Q : PQ) : Prop := need (seqOf M x) fun xs => Q (.tup xs) M
theorem LE.list (hg : Gl X "list") (hm : X.mg "list" = none) (ha : LA X [e] t) (he : starEach [e] X.env = (false, eval e X.env) :: starEach [] X.env := by rfl) : LE X (.Call (.Name "list" p) [e] [] pos) (pCallB (on1 kList) t) := by
  refine LE.callT call_list_of (fun F M H xs vs Q Qv rm rx h k => ?_) hg hm (by decide +kernel) ha (he := he)
  obtain ⟨x, ex, h1⟩ := on1_of h
  subst ex
  obtain ⟨v, ev, rx1⟩ := rx.one
  subst ev
  obtain ⟨ys, e, h2⟩ := need_of h1
  obtain ⟨q, ws, ev, hs, ra⟩ := rx1.seqI rm e
  subst ev
  refine ⟨q, ws, rfl, hs, fun l nl => k _ _ ⟨_, M, _, rm.beh nl, .lst upd_same (ra.same (rm.beh (o := .lst ws) nl).sm), h2⟩⟩
theorem LE.listM (hg : Gl X "list") (hm : X.mg "list" = none) (ha : LA X [e] t) (he : starEach [e] X.env = (false, eval e X.env) :: starEach [] X.env := by rfl) : LE X (.Call (.Name "list" p) [e] [] pos) (pCallB (on1 kListM) t) := by
  refine LE.callT call_list_of (fun F M H xs vs Q Qv rm rx h k => ?_) hg hm (by decide +kernel) ha (he := he)
  obtain ⟨x, ex, h1⟩ := on1_of h
  subst ex
  obtain ⟨v, ev, rx1⟩ := rx.one
  subst ev
  obtain ⟨ys, e, h2⟩ := need_of h1
  obtain ⟨q, ws, ev, hs, ra⟩ := rx1.seqI rm e
  subst ev
  refine ⟨q, ws, rfl, hs, fun l nl => k _ _ ⟨_, _, _, rm.behNew nl (.lst ra), .ptr l, h2 l (rm.nones nl).2⟩⟩
theorem LE.tupOf (hg : Gl X "tuple") (hm : X.mg "tuple" = none) (ha : LA X [e] t) (he : starEach [e] X.env = (false, eval e X.env) :: starEach [] X.env := by rfl) : LE X (.Call (.Name "tuple" p) [e] [] pos) (pCallB (on1 kTup) t) := by
  refine LE.callT call_tuple_of (fun F M H xs vs Q Qv rm rx h k => ?_) hg hm (by decide +kernel) ha (he := he)
  obtain ⟨x, ex, h1⟩ := on1_of h
  subst ex
  obtain ⟨v, ev, rx1⟩ := rx.one
  subst ev
  obtain ⟨ys, e, h2⟩ := need_of h1
  have li : lstOf M x = some ys → ∃ p zs, [v] = [V.ref p] ∧ ((SqL X.K H p zs ∧ ∀ l, H l = none → Qv (.ref l) (upd H l (.tup zs))) ∨ (SqT X.K H p zs ∧ Qv (.ref p) H)) := fun e' => by
    obtain ⟨q, ws, ev, hs, ra⟩ := rx1.lstI rm e'
    subst ev
    exact ⟨q, ws, rfl, .inl ⟨hs, fun l nl => k _ _ ⟨_, M, _, rm.beh nl, .tup (SqT.of upd_same) (ra.same (rm.beh (o := .tup ws) nl).sm), h2⟩⟩⟩
  cases rx1 with
  | tup e' q' =>
    cases e
    exact ⟨_, _, rfl, .inr ⟨sqT_same rm.fr e', k _ _ (LQ.now rm (.tup e' q') h2)⟩⟩
  | lst e' q' => exact li e
  | scr e' q' => exact li e
  | ptr a => exact li e
  | _ => cases e
/-! ### subscripts -/
def oIx : PO2 := fun x y M Q => match y with
  | .int i => match x with
    | .str z => z.length ≤ sizeLine ∧ need (L2.atI z.cps.toList i) fun c => Q (.str ⟨#[c]⟩) M
    | x => need (seqOf M x) fun xs => need (L2.atI xs i) fun z => Q z M
  | _ => False
theorem LE.ix (ha : LE X a ta) (hb : LE X b tb) (hs : PlainIx b := by exact fun _ _ => rfl) : LE X (.Subscript a b pos) (pBin oIx ta tb) := by
  refine ⟨fun σv H σ F M Q E tk rm rs h => WE.of (pe_ix ix_seq WE.pe WE.pe hs) ?_⟩
  refine seq2 ha hb tk rm rs h fun x y xv yv F2 M2 H2 bh rx ry h2 => ?_
  unfold oIx at h2
  split at h2
  · rename_i i
    cases ry
    split at h2
    · rename_i z
      cases rx
      obtain ⟨h3, h4⟩ := h2
      obtain ⟨c, e, h5⟩ := need_of h4
      exact .inr (.inr ⟨z, i, c, rfl, rfl, h3, e, LQ.tr bh (LQ.now bh.rm (.str _) h5)⟩)
    · obtain ⟨ys, e, h3⟩ := need_of h2
      obtain ⟨z, e2, h4⟩ := need_of h3
      obtain ⟨q, ws, ev, hs, ra⟩ := rx.seqI bh.rm e
      subst ev
      obtain ⟨w, e3, rz⟩ := ra.atI e2
      rcases hs with hs | hs
      · exact .inl ⟨q, ws, i, w, rfl, rfl, hs, e3, LQ.tr bh (LQ.now bh.rm rz h4)⟩
      · exact .inr (.inl ⟨q, ws, i, w, rfl, rfl, hs, e3, LQ.tr bh (LQ.now bh.rm rz h4)⟩)
  · exact h2.elim
/-! ### slices -/
abbrev PTO := PXK → PSt → Mem → (Option Int → Mem → Prop) → Prop
structure LO (X : Cx) (e : Option Expr) (t : PTO) : Prop where
  run : ∀ (σv : L2.St) (H : Hp) (σ : PSt) (F : Hp) (M : Mem) (Q : Option Int → Mem → Prop) (E : PXK), PTk X F M H E → RM X.K F M H → RS X.K F σ σv → t E σ M Q →
    ∀ pins s, Inv X pins σv H s → wpAny (model X.prog X.w) X.A (evalPart e X.env) (fun u s' => ∃ o H', Inv X pins σv H' s' ∧ IsPart u o ∧ ∃ F' M', Beh X.K F M H F' M' H' ∧ Q o M') X.xe s
def pNoPart : PTO := fun _ _ M Q => Q none M
def pPart (t : PTE) : PTO := fun E σ M Q => t E σ M fun x M1 => match x with | .int i => Q (some i) M1 | _ => False
theorem LO.none : LO X none pNoPart := ⟨fun σv H σ F M Q E tk rm rs h pins s I => thn (po_none.run pins s σv H (fun o H' => ∃ F' M', Beh X.K F M H F' M' H' ∧ Q o M') I ⟨F, M, Beh.refl rm, h⟩) fun _ _ q => q⟩
theorem LO.some (ha : LE X e ta) : LO X (some e) (pPart ta) := by
  refine ⟨fun σv H σ F M Q E tk rm rs h pins s I => thn ((po_some WE.pe).run pins s σv H (fun o H' => ∃ F' M', Beh X.K F M H F' M' H' ∧ Q o M') I ?_) fun _ _ q => q⟩
  refine (ha.run σv H σ F M _ E tk rm rs h).mono ?_
  rintro v H1 ⟨F1, M1, x, b1, rx, hx⟩
  cases rx <;> first
    | exact hx.elim
    | exact ⟨_, rfl, F1, M1, b1, hx⟩
def WO (X : Cx) (e : Option Expr) (σ : L2.St) (H : Hp) (Q : Option Int → Hp → Prop) : Prop := ∀ pins s, Inv X pins σ H s → wpAny (model X.prog X.w) X.A (evalPart e X.env) (fun u s' => ∃ o H', Inv X pins σ H' s' ∧ IsPart u o ∧ Q o H') X.xe s
theorem WO.po {e : Option Expr} : L2.PO X e (WO X e) := ⟨fun pins s σ H Q I h => h pins s I⟩
def cutP (xs : List PV) (lo hi : Option Int) : List PV := (xs.drop (HT.sIx xs.length 0 lo)).take (HT.sIx xs.length xs.length hi - HT.sIx xs.length 0 lo)
theorem RAll.cut {K : PySem.W.Frag} {F : Hp} {xs : List PV} {vs : List V} (r : RAll K F xs vs) (lo hi : Option Int) : RAll K F (cutP xs lo hi) (cutV vs lo hi) := by
  unfold cutP cutV
  rw [r.length]
  exact (r.drop _).take _
theorem cutP_all {xs : List PV} {lo hi : Option Int} (h : HT.sIx xs.length 0 lo = 0 ∧ HT.sIx xs.length xs.length hi = xs.length) : cutP xs lo hi = xs := by
  unfold cutP
  rw [h.1, h.2]
  simp
def oSl (x : PV) (lo hi : Option Int) (M : Mem) (Q : PQ) : Prop := match x with
  | .tup xs => Q (.tup (cutP xs lo hi)) M
  | x => need (lstOf M x) fun xs => Q (.lst (cutP xs lo hi)) M
def pSl (ta : PTE) (tl th : PTO) : PTE := fun E σ M Q => ta E σ M fun x M1 => tl E σ M1 fun l M2 => th E σ M2 fun u M3 => oSl x l u M3 Q
theorem LE.slice {lo hi : Option Expr} {tl th : PTO} {p2 : Pos} (ha : LE X a ta) (hl : LO X lo tl) (hh : LO X hi th) : LE X (.Subscript a (.Slice lo hi none p2) pos) (pSl ta tl th) := by
  refine ⟨fun σv H σ F M Q E tk rm rs h => WE.of (pe_slice (SlR.or sl_list sl_tupA) WE.pe WO.po WO.po) ?_⟩
  refine (ha.run σv H σ F M _ E tk rm rs h).mono ?_
  rintro v H1 ⟨F1, M1, x, b1, rx, hx⟩
  intro pins s I
  refine thn (hl.run σv H1 σ F1 M1 _ E (tk.tr b1) b1.rm (rs.same b1.sm) hx pins s I) ?_
  rintro u1 s1 ⟨o1, H2, I2, p1, F2, M2, b2, h2⟩
  refine ⟨o1, H2, I2, p1, ?_⟩
  intro pins' s' I'
  refine thn (hh.run σv H2 σ F2 M2 _ E (tk.tr (b1.trans b2)) b2.rm (rs.same (b1.trans b2).sm) h2 pins' s' I') ?_
  rintro u2 s2 ⟨o2, H3, I3, p2, F3, M3, b3, h3⟩
  refine ⟨o2, H3, I3, p2, ?_⟩
  have b := (b1.trans b2).trans b3
  have rx3 := rx.same (b2.trans b3).sm
  unfold oSl at h3
  split at h3
  · rename_i xs
    cases rx3 with
    | tup e q =>
      refine .inr ⟨_, _, rfl, sqT_same b3.rm.fr e, fun hw => ?_, fun _ p np => ?_⟩
      · rw [← q.length] at hw
        rw [cutP_all hw] at h3
        exact LQ.tr b (LQ.now b3.rm (.tup e q) h3)
      · exact LQ.tr b ⟨_, M3, _, b3.rm.beh np, .tup (SqT.of upd_same) ((q.cut _ _).same (b3.rm.beh (o := .tup (cutV _ o1 o2)) np).sm), h3⟩
  · obtain ⟨xs, e, h4⟩ := need_of h3
    obtain ⟨q, ws, ev, hs, ra⟩ := rx3.lstI b3.rm e
    subst ev
    exact .inl ⟨q, ws, rfl, hs, fun p np => LQ.tr b ⟨_, M3, _, b3.rm.beh np, .lst upd_same ((ra.cut _ _).same (b3.rm.beh (o := .lst (cutV ws o1 o2)) np).sm), h4⟩⟩
/-! ### + -/
def oAdd : PO2 := fun x y M Q => match x, y with
  | .int i, .int j => Q (.int (i + j)) M
  | .str i, .str j => i.length + j.length ≤ sizeLine ∧ Q (.str (i ++ j)) M
  | .tup xs, .tup ys => xs.length + ys.length ≤ sizeLine ∧ Q (.tup (xs ++ ys)) M
  | .lst xs, .lst ys => xs.length + ys.length ≤ sizeLine ∧ Q (.lst (xs ++ ys)) M
  | _, _ => False
theorem LE.add (ha : LE X a ta) (hb : LE X b tb) : LE X (.BinOp a .Add b pos) (pBin oAdd ta tb) := by
  refine LE.bin (OpR.or op_add (OpR.or op_add_str (OpR.or op_catA op_cat))) (fun F M H x y xv yv Q Qv rm rx ry h k => ?_) ha hb
  cases rx <;> cases ry <;> first
    | exact h.elim
    | exact .inl ⟨_, _, rfl, rfl, k _ _ (LQ.now rm (.int _) h)⟩
    | exact .inr (.inl ⟨_, _, rfl, rfl, h.1, k _ _ (LQ.now rm (.str _) h.2)⟩)
    | skip
  · rename_i a' xs vs e q b' ys ws e2 q2
    refine .inr (.inr (.inl ⟨_, _, vs, ws, rfl, rfl, sqT_same rm.fr e, sqT_same rm.fr e2, by rw [← q.length, ← q2.length]; exact h.1, fun z => ?_, fun _ z => ?_, fun _ _ p np => ?_⟩))
    · subst z
      have z : xs = [] := List.eq_nil_of_length_eq_zero q.length
      subst z
      exact k _ _ (LQ.now rm (.tup e2 q2) h.2)
    · subst z
      have z : ys = [] := List.eq_nil_of_length_eq_zero q2.length
      subst z
      have h2 := h.2
      rw [List.append_nil] at h2
      exact k _ _ (LQ.now rm (.tup e q) h2)
    · exact k _ _ ⟨_, M, _, rm.beh np, .tup (SqT.of upd_same) ((q.append q2).same (rm.beh (o := .tup (vs ++ ws)) np).sm), h.2⟩
  · rename_i a' xs vs e q b' ys ws e2 q2
    exact .inr (.inr (.inr ⟨_, _, vs, ws, rfl, rfl, rm.fr _ _ e, rm.fr _ _ e2, by rw [← q.length, ← q2.length]; exact h.1, fun p np =>
      k _ _ ⟨_, M, _, rm.beh np, .lst upd_same ((q.append q2).same (rm.beh (o := .lst (vs ++ ws)) np).sm), h.2⟩⟩))
end
end PL
set_option Elab.async false
set_option linter.all false
set_option maxRecDepth 100000
namespace PL
open PySem PySem.Spec PyProof.Rows L2

/-! ### == of data -/
mutual
def toD : PV → Option PyData
  | .non => some .none
  | .bl b => some (.bool b)
  | .int i => some (.int i)
  | .str x => if (PyData.str x).canLay0 = true then some (.str x) else none
  | .tup xs => (toDs xs).map .tuple
  | .lst xs => (toDs xs).map .list
  | .scr xs => (toDs xs).map .list
  | _ => none
def toDs : List PV → Option (List PyData)
  | [] => some []
  | x :: xs => match toD x, toDs xs with | some d, some ds => some (d :: ds) | _, _ => none
end
mutual
theorem toD_dp {K : PySem.W.Frag} {F H : Hp} (e : Same F H) : ∀ (x : PV) (v : V) (d : PyData), R K F x v → toD x = some d → Dp K H v d ∧ d.canLay0 = true
  | .non, _, _, .non, h => by cases h; exact ⟨.non, rfl⟩
  | .bl b, _, _, .bl _, h => by cases h; exact ⟨.bl b, rfl⟩
  | .int b, _, _, .int _, h => by cases h; exact ⟨.int b, rfl⟩
  | .str b, _, _, .str _, h => by
    unfold toD at h
    split at h
    · rename_i hb
      cases h
      exact ⟨.str b, hb⟩
    · cases h
  | .tup xs, _, d, .tup q r, h => by
    unfold toD at h
    cases hd : toDs xs with
    | none => rw [hd] at h; cases h
    | some ds =>
      rw [hd] at h
      cases h
      obtain ⟨h1, h2⟩ := toDs_dp e xs _ ds r hd
      exact ⟨.tup (sqT_same e q) h1, by simpa [PyData.canLay0] using h2⟩
  | .lst xs, _, d, .lst q r, h => by
    unfold toD at h
    cases hd : toDs xs with
    | none => rw [hd] at h; cases h
    | some ds =>
      rw [hd] at h
      cases h
      obtain ⟨h1, h2⟩ := toDs_dp e xs _ ds r hd
      exact ⟨.lst (SqL.of (e _ _ q)) h1, by simpa [PyData.canLay0] using h2⟩
  | .scr xs, _, d, .scr q r, h => by
    unfold toD at h
    cases hd : toDs xs with
    | none => rw [hd] at h; cases h
    | some ds =>
      rw [hd] at h
      cases h
      obtain ⟨h1, h2⟩ := toDs_dp e xs _ ds r hd
      exact ⟨.lst (e.seq q) h1, by simpa [PyData.canLay0] using h2⟩
theorem toDs_dp {K : PySem.W.Frag} {F H : Hp} (e : Same F H) : ∀ (xs : List PV) (vs : List V) (ds : List PyData), RAll K F xs vs → toDs xs = some ds → DpAll K H vs ds ∧ PyData.canLayAll0 ds = true
  | [], _, _, .nil, h => by cases h; exact ⟨.nil, rfl⟩
  | x :: xs, _, ds, .cons r t, h => by
    unfold toDs at h
    cases h1 : toD x with
    | none => rw [h1] at h; cases h
    | some d =>
      cases h2 : toDs xs with
      | none => rw [h1, h2] at h; cases h
      | some ds' =>
        rw [h1, h2] at h
        cases h
        obtain ⟨a1, a2⟩ := toD_dp e x _ d r h1
        obtain ⟨b1, b2⟩ := toDs_dp e xs _ ds' t h2
        exact ⟨.cons a1 b1, by simp [PyData.canLayAll0, a2, b2]⟩
end
theorem toDs_ints : ∀ ns : List Int, toDs (ns.map PV.int) = some (ns.map PyData.int)
  | [] => rfl
  | n :: r => by
    show (match toD (.int n), toDs (r.map PV.int) with | some d, some ds => some (d :: ds) | _, _ => none) = _
    rw [toDs_ints r]
    rfl
theorem depth_ints : ∀ ns : List Int, PyData.depthAll (ns.map PyData.int) = 0
  | [] => rfl
  | n :: r => by
    show max 0 (PyData.depthAll (r.map PyData.int)) = 0
    rw [depth_ints r]
    rfl
/-- scalars -/
def eqF : PV → PV → Option Bool
  | .int i, .int j => some (decide (i = j))
  | .str i, .str j => some (decide (i = j))
  | .bl i, .bl j => some (decide (i = j))
  | .non, .non => some true
  | .non, .int _ => some false | .int _, .non => some false
  | .non, .bl _ => some false | .bl _, .non => some false
  | .non, .str _ => some false | .str _, .non => some false
  | .int _, .str _ => some false | .str _, .int _ => some false
  | .bl _, .str _ => some false | .str _, .bl _ => some false
  | _, _ => none
def eqP (x y : PV) (k : Bool → Prop) : Prop := match eqF x y with
  | some b => k b
  | none => need (toD x) fun d => need (toD y) fun e => d.depth ≤ 64 ∧ e.depth ≤ 64 ∧ k (PyData.eqv d e)
def oEq : PO2 := fun x y M Q => eqP x y fun b => Q (.bl b) M
def oNe : PO2 := fun x y M Q => eqP x y fun b => Q (.bl (!b)) M
theorem eqF_scal {K : PySem.W.Frag} {F : Hp} {x y : PV} {xv yv : V} {b : Bool} (rx : R K F x xv) (ry : R K F y yv) (h : eqF x y = some b) : scal xv yv = true ∧ decide (xv = yv) = b := by
  cases rx <;> cases ry <;> first
    | (cases h; exact ⟨rfl, rfl⟩)
    | (cases h; refine ⟨rfl, ?_⟩; simp)
    | cases h
theorem shaped_of {d : PyData} (h : d.canLay0 = true) (h2 : d.depth ≤ 64) : SeqAt.shaped d = true := by
  unfold SeqAt.shaped
  rw [h, decide_eq_true h2]
  rfl
section
variable {X : Cx} {a b c e : Expr} {ta tb tc : PTE} {pos p : Pos} {es : List Expr} {t : PTA} {x : Str}
theorem op_eqA (hu : X.A.units + 64 < cLine) : OpR X (compareOp .Eq) (fun x y H Q => rEq x y H Q ∨ rEqD X.K x y H Q) := OpR.or op_eq (op_eqD hu)
theorem op_neA (hu : X.A.units + 64 < cLine) : OpR X (compareOp .NotEq) (fun x y H Q => rNe x y H Q ∨ rNeD X.K x y H Q) := OpR.or op_ne (op_neD hu)
theorem pop_eq {K : PySem.W.Frag} : POp K (fun x y H Q => rEq x y H Q ∨ rEqD K x y H Q) oEq := by
  intro F M H x y xv yv Q Qv rm rx ry h k
  unfold oEq eqP at h
  split at h
  · rename_i b hb
    obtain ⟨h1, h2⟩ := eqF_scal rx ry hb
    exact .inl ⟨h1, k _ _ (LQ.now rm (by rw [h2]; exact .bl b) h)⟩
  · obtain ⟨d, e1, h⟩ := need_of h
    obtain ⟨e, e2, h⟩ := need_of h
    obtain ⟨h1, h2, h3⟩ := h
    obtain ⟨a1, a2⟩ := toD_dp rm.fr x xv d rx e1
    obtain ⟨b1, b2⟩ := toD_dp rm.fr y yv e ry e2
    exact .inr ⟨d, e, a1, b1, shaped_of a2 h1, shaped_of b2 h2, k _ _ (LQ.now rm (.bl _) h3)⟩
theorem pop_ne {K : PySem.W.Frag} : POp K (fun x y H Q => rNe x y H Q ∨ rNeD K x y H Q) oNe := by
  intro F M H x y xv yv Q Qv rm rx ry h k
  unfold oNe eqP at h
  split at h
  · rename_i b hb
    obtain ⟨h1, h2⟩ := eqF_scal rx ry hb
    exact .inl ⟨h1, k _ _ (LQ.now rm (by rw [h2]; exact .bl _) h)⟩
  · obtain ⟨d, e1, h⟩ := need_of h
    obtain ⟨e, e2, h⟩ := need_of h
    obtain ⟨h1, h2, h3⟩ := h
    obtain ⟨a1, a2⟩ := toD_dp rm.fr x xv d rx e1
    obtain ⟨b1, b2⟩ := toD_dp rm.fr y yv e ry e2
    exact .inr ⟨d, e, a1, b1, shaped_of a2 h1, shaped_of b2 h2, k _ _ (LQ.now rm (.bl _) h3)⟩
theorem LE.eq (hu : X.A.units + 64 < cLine) (ha : LE X a ta) (hb : LE X b tb) : LE X (.Compare a [.Eq] [b] pos) (pBin oEq ta tb) := LE.cmp (op_eqA hu) pop_eq (nomark _) ha hb
theorem LE.ne (hu : X.A.units + 64 < cLine) (ha : LE X a ta) (hb : LE X b tb) : LE X (.Compare a [.NotEq] [b] pos) (pBin oNe ta tb) := LE.cmp (op_neA hu) pop_ne (nomark _) ha hb
theorem LT.eq (hu : X.A.units + 64 < cLine) (ha : LE X a ta) (hb : LE X b tb) : LT X (.Compare a [.Eq] [b] pos) (pTest (pBin oEq ta tb)) := LT.cmp (op_eqA hu) pop_eq (nomark _) ha hb
theorem LT.ne (hu : X.A.units + 64 < cLine) (ha : LE X a ta) (hb : LE X b tb) : LT X (.Compare a [.NotEq] [b] pos) (pTest (pBin oNe ta tb)) := LT.cmp (op_neA hu) pop_ne (nomark _) ha hb

/-! ### isinstance of a built-in type -/
def tyOf (M : Mem) : PV → Option String
  | .non => some "NoneType"
  | .bl _ => some "bool"
  | .int _ => some "int"
  | .str _ => some "str"
  | .tup _ => some "tuple"
  | .lst _ => some "list"
  | .ptr a => match M a with | some (.lst _) => some "list" | _ => none
  | _ => none
def isi (M : Mem) (T : String) (x : PV) : Option Bool := (tyOf M x).bind fun n => kitB n T
def kIsi (T : String) (x : PV) (M : Mem) (Q : PQ) : Prop := need (isi M T x) fun b => Q (.bl b) M
theorem R.tyx {K : PySem.W.Frag} {F H : Hp} {M : Mem} {x : PV} {v : V} {n : String} (rm : RM K F M H) (r : R K F x v) (h : tyOf M x = some n) : TyX K H v (.type n) := by
  cases r with
  | non => cases h; exact .base .non
  | bl b => cases h; exact .base (.bl b)
  | int b => cases h; exact .base (.int b)
  | str b => cases h; exact .base (.str b)
  | ty n => cases h
  | tup q r =>
    cases h
    rcases sqT_same rm.fr q with q | ⟨o, its, k, hk, hc, _⟩
    · rcases q with q | ⟨o, q⟩
      · exact .base (.tup q)
      · exact .fTuple q
    · exact .kTuple hk hc
  | lst q r => cases h; exact .base (.lst (rm.fr _ _ q))
  | scr q r => cases h
  | obj _ _ => cases h
  | dct _ _ => cases h
  | exc _ _ => cases h
  | rng _ => cases h
  | tpd _ _ _ => cases h
  | ptr a =>
    cases hm : M a with
    | none =>
      have h' : (match M a with | some (.lst _) => some "list" | _ => none) = some n := h
      rw [hm] at h'
      cases h'
    | some m =>
      have h' : (match M a with | some (.lst _) => some "list" | _ => none) = some n := h
      rw [hm] at h'
      cases m with
      | lst ys =>
        cases h'
        obtain ⟨o, e1, q⟩ := rm.mu _ _ hm
        cases q with
        | lst q => exact .base (.lst e1)
      | obj C fs => cases h'
      | dct _ _ => cases h'
theorem LE.isi {T : Str} {Ts : String} {py : Pos} (hg : Gl X "isinstance") (hm : X.mg "isinstance" = none) (hgT : Gl X T) (hmT : X.mg T = none) (hvT : bootBuiltins T = some (.type Ts)) (ha : LE X e ta)
    (hnT : T ≠ "__name__" := by decide) (hdT : (T == ("__debug__" : Str)) = false := by decide)
    (he : starEach [e, .Name T py] X.env = (false, eval e X.env) :: starEach [.Name T py] X.env := by rfl) (he2 : starEach [.Name T py] X.env = (false, eval (.Name T py) X.env) :: starEach [] X.env := by rfl)
    (hpl : (backTo pos (starEach [.Name T py] X.env)).any (·.1) = false := by rfl) : LE X (.Call (.Name "isinstance" p) [e, .Name T py] [] pos) (fun E σ M Q => ta E σ M fun x M1 => kIsi Ts x M1 Q) := by
  refine ⟨fun σv H σ F M Q E tk rm rs h => WE.of (pe_callB call_isi hg hm (by decide +kernel) (pa_cons WE.pe (pa_cons (pe_bltn (v := .ty Ts) hgT hmT hvT rfl hnT hdT) pa_nil he2) he) (he := he) (hpl := hpl)) ?_⟩
  refine (ha.run σv H σ F M _ E tk rm rs h).mono ?_
  rintro v H1 ⟨F1, M1, x, b1, rx, hx⟩
  obtain ⟨b, e1, h2⟩ := need_of hx
  unfold PL.isi at e1
  cases ht : tyOf M1 x with
  | none => rw [ht] at e1; cases e1
  | some n =>
    rw [ht] at e1
    exact ⟨v, .ty Ts, _, _, b, rfl, .ty _, rx.tyx b1.rm ht, kit_ty e1, LQ.tr b1 (LQ.now b1.rm (.bl b) h2)⟩

/-! ### fields -/
/-- the classes of the text, each with what HandS asks -/
def fldOf (M : Mem) (C : Addr) (f : Str) : PV → Option PV
  | .obj C' fs => if C' = C then fs.lookup f else none
  | .ptr a => match M a with | some (.obj C' fs) => if C' = C then fs.lookup f else none | _ => none
  | _ => none
def pFld (C : Addr) (ta : PTE) (f : Str) : PTE := fun E σ M Q => ta E σ M fun x M1 => need (fldOf M1 C f x) fun v => Q v M1
theorem fldOf_ptr {M : Mem} {C : Addr} {f : Str} {a : Addr} {fs : List (Str × PV)} (h : M a = some (.obj C fs)) : fldOf M C f (.ptr a) = fs.lookup f := by
  show (match M a with | some (.obj C' fs) => if C' = C then fs.lookup f else none | _ => none) = fs.lookup f
  rw [h]
  exact if_pos rfl
theorem fldOf_obj {M : Mem} {C : Addr} {f : Str} {fs : List (Str × PV)} : fldOf M C f (.obj C fs) = fs.lookup f := if_pos rfl
theorem R.fld {K : PySem.W.Frag} {F H : Hp} {M : Mem} {x z : PV} {v : V} {C : Addr} {f : Str} (rm : RM K F M H) (r : R K F x v) (h : fldOf M C f x = some z) : ∃ a dx vs w, v = .ref a ∧ H a = some (.ins C dx vs) ∧ vs.lookup f = some w ∧ R K F z w := by
  cases r with
  | @obj a C' dx fs vs e q =>
    have h' : (if C' = C then fs.lookup f else none) = some z := h
    split at h'
    · rename_i hC
      subst hC
      obtain ⟨w, h1, h2⟩ := q.get h'
      exact ⟨_, _, _, w, rfl, rm.fr _ _ e, h1, h2⟩
    · cases h'
  | ptr a =>
    cases hm : M a with
    | none =>
      have h' : (match M a with | some (.obj C' fs) => if C' = C then fs.lookup f else none | _ => none) = some z := h
      rw [hm] at h'
      cases h'
    | some m =>
      have h' : (match M a with | some (.obj C' fs) => if C' = C then fs.lookup f else none | _ => none) = some z := h
      rw [hm] at h'
      cases m with
      | lst ys => cases h'
      | dct _ _ => cases h'
      | obj C' fs =>
        dsimp only at h'
        split at h'
        · rename_i hC
          subst hC
          obtain ⟨o, e1, q⟩ := rm.mu _ _ hm
          cases q with
          | obj q =>
            obtain ⟨w, h1, h2⟩ := q.get h'
            exact ⟨_, _, _, w, rfl, e1, h1, h2⟩
        · cases h'
  | _ => cases h
theorem LE.fld {C : Addr} {f : Str} (cl : Cls X.K C) (na : NoAttr X.K C f) (ha : LE X e ta) (hb : attributeBase e f X.env (eval e X.env) = eval e X.env := by rfl) : LE X (.Attribute e f pos) (pFld C ta f) := by
  refine ⟨fun σv H σ F M Q E tk rm rs h => WE.of (pe_fld WE.pe hb) ?_⟩
  refine (ha.run σv H σ F M _ E tk rm rs h).mono ?_
  rintro v H1 ⟨F1, M1, x, b1, rx, hx⟩
  obtain ⟨z, e1, h2⟩ := need_of hx
  obtain ⟨q, dx, vs, w, rfl, e2, e3, rz⟩ := rx.fld b1.rm e1
  exact ⟨q, C, dx, vs, w, rfl, e2, cl, na, e3, LQ.tr b1 (LQ.now b1.rm rz h2)⟩
end

/-! ### what a def promises -/
abbrev PSp := List PV → Mem → PQ → PXK → Prop
def lift (K : PySem.W.Frag) (n : Nat) (sp : PSp) : Sp := fun vs H Q E => vs.length = n ∧ ∃ F M xs Qp Ep, RM K F M H ∧ RAll K F xs vs ∧ sp xs M Qp Ep ∧ (∀ v H', LQ K F M H Qp v H' → Q v H') ∧ ∀ cls d H', LX K F M H Ep cls d H' → E cls d H'
theorem lift_of {K : PySem.W.Frag} {n : Nat} {sp : PSp} {F H : Hp} {M : Mem} {xs : List PV} {vs : List V} {Q : VK} {E : XK} {Qp : PQ} {Ep : PXK} (hn : vs.length = n) (rm : RM K F M H) (rx : RAll K F xs vs) (h : sp xs M Qp Ep)
    (k : ∀ v H', LQ K F M H Qp v H' → Q v H') (kx : ∀ cls d H', LX K F M H Ep cls d H' → E cls d H') : lift K n sp vs H Q E := ⟨hn, F, M, xs, Qp, Ep, rm, rx, h, k, kx⟩
/-- a def of the text by its name -/
structure GFn (P : Program) (w : World) (K : PySem.W.Frag) (mg : Str → Option Value) (base : Heap) (x : Str) (k : Nat) (ps : List Str) (sp : PSp) : Prop where
  ex : ∃ f fd, FnOk P w K mg base (L2.CX P w) k f fd ps (lift K ps.length sp) ∧ mg x = some (.ref f) ∧ PySem.W.keepIn K (.ref f) = true ∧ Binds K fd ps []
section
variable {X : Cx} {a b c e : Expr} {ta tb tc : PTE} {pos p apos : Pos} {es : List Expr} {t : PTA} {x : Str} {k : Nat} {ps : List Str} {sp : PSp}
def pCall (sp : PSp) (t : PTA) : PTE := fun E σ M Q => t E σ M fun xs M1 => sp xs M1 Q E
theorem LE.call (G : GFn X.prog X.w X.K X.mg X.base x k ps sp) (hr : Room k X.A) (hg : Gl X x) (ha : LA X (e :: es) t) (hl : (e :: es).length = ps.length := by rfl) (hdb : (x == ("__debug__" : Str)) = false := by decide)
    (he : starEach (e :: es) X.env = (false, eval e X.env) :: starEach es X.env := by rfl) (hpl : (backTo pos (starEach es X.env)).any (·.1) = false := by rfl) : LE X (.Call (.Name x p) (e :: es) [] pos) (pCall sp t) := by
  obtain ⟨f, fd, G, hm, hk, hb⟩ := G.ex
  refine ⟨fun σv H σ F M Q E tk rm rs h => WE.of (pe_call (E := LX X.K F M H E) G hr hg hm hk hb .nil (passes_call tk fun _ _ _ _ z => z) WA.pa hdb he hpl) ?_⟩
  refine (ha.run σv H σ F M _ E tk rm rs h).mono ?_
  rintro vs H1 ⟨hl1, F1, M1, xs, b1, rx, hx⟩
  rw [List.append_nil]
  exact lift_of (by rw [hl1, hl]) b1.rm rx hx (fun v H' q => q.tr b1) fun cls d H' q => q.tr b1
/-- a method of a class of the text -/
structure GMt (P : Program) (w : World) (K : PySem.W.Frag) (mg : Str → Option Value) (base : Heap) (C : Addr) (m : Str) (k : Nat) (ps : List Str) (sp : PSp) : Prop where
  ex : ∃ f fd, FnOk P w K mg base (L2.CX P w) k f fd ps (lift K ps.length sp) ∧ Meth K C m f ∧ Binds K fd ps []
def objOf (M : Mem) (C : Addr) : PV → Option (List (Str × PV))
  | .obj C' fs => if C' = C then some fs else none
  | .ptr a => match M a with | some (.obj C' fs) => if C' = C then some fs else none | _ => none
  | _ => none
theorem objOf_ptr {M : Mem} {C : Addr} {a : Addr} {fs : List (Str × PV)} (h : M a = some (.obj C fs)) : objOf M C (.ptr a) = some fs := by
  show (match M a with | some (.obj C' fs) => if C' = C then some fs else none | _ => none) = some fs
  rw [h]
  exact if_pos rfl
theorem objOf_obj {M : Mem} {C : Addr} {fs : List (Str × PV)} : objOf M C (.obj C fs) = some fs := if_pos rfl
theorem R.objI {K : PySem.W.Frag} {F H : Hp} {M : Mem} {x : PV} {v : V} {C : Addr} {fs : List (Str × PV)} (rm : RM K F M H) (r : R K F x v) (h : objOf M C x = some fs) : ∃ a dx vs, v = .ref a ∧ H a = some (.ins C dx vs) ∧ RFs K F fs vs := by
  cases r with
  | @obj a C' dx gs vs e q =>
    have h' : (if C' = C then some gs else none) = some fs := h
    split at h'
    · rename_i hC
      subst hC
      cases h'
      exact ⟨_, _, _, rfl, rm.fr _ _ e, q⟩
    · cases h'
  | ptr a =>
    cases hm : M a with
    | none =>
      have h' : (match M a with | some (.obj C' fs) => if C' = C then some fs else none | _ => none) = some fs := h
      rw [hm] at h'
      cases h'
    | some m =>
      have h' : (match M a with | some (.obj C' fs) => if C' = C then some fs else none | _ => none) = some fs := h
      rw [hm] at h'
      cases m with
      | lst ys => cases h'
      | dct _ _ => cases h'
      | obj C' fs =>
        dsimp only at h'
        split at h'
        · rename_i hC
          subst hC
          cases h'
          obtain ⟨o, e1, q⟩ := rm.mu _ _ hm
          cases q with
          | obj q => exact ⟨_, _, _, rfl, e1, q⟩
        · cases h'
  | _ => cases h
def pMeth (C : Addr) (m : Str) (sp : PSp) (ta : PTE) (t : PTA) : PTE := fun E σ M Q => ta E σ M fun x M1 => need (objOf M1 C x) fun fs => fs.lookup m = none ∧ t E σ M1 fun xs M2 => sp (x :: xs) M2 Q E
theorem LE.meth {C : Addr} {m : Str} {pl : Sem Bool} {o : Expr} (G : GMt X.prog X.w X.K X.mg X.base C m k ps sp) (cl : Cls X.K C) (hr : Room k X.A) (ho : LE X o ta) (ha : LA X (e :: es) t) (hl : (e :: es).length + 1 = ps.length := by rfl)
    (hst : starEach (e :: es) X.env = (false, eval e X.env) :: starEach es X.env := by rfl) (hpl : (backTo pos (starEach es X.env)).any (·.1) = false := by rfl)
    (ht : eval (.Call (.Attribute o m apos) (e :: es) [] pos) X.env = (do
      let ov ← eval o X.env
      standAt apos.atName
      let (f, first) ← holding [ov] (getMethod ov m pl)
      callWith pos f first (backTo pos (starEach (e :: es) X.env)) (backToKw pos (keywordEach [] X.env))) := by rfl) : LE X (.Call (.Attribute o m apos) (e :: es) [] pos) (pMeth C m sp ta t) := by
  obtain ⟨f, fd, G, hm, hb⟩ := G.ex
  refine ⟨fun σv H σ F M Q E tk rm rs h => WE.of (pe_meth (pl := pl) (E := LX X.K F M H E) WE.pe cl hm G hr hb .nil (passes_call tk fun _ _ _ _ z => z) WA.pa hst hpl ht) ?_⟩
  refine (ho.run σv H σ F M _ E tk rm rs h).mono ?_
  rintro v H1 ⟨F1, M1, x, b1, rx, hx⟩
  obtain ⟨fs, e1, hn, h2⟩ := need_of hx
  obtain ⟨q, dx, vs, rfl, e2, rf⟩ := rx.objI b1.rm e1
  refine ⟨q, dx, vs, rfl, e2, rf.none hn, ?_⟩
  refine (ha.run σv H1 σ F1 M1 _ E (tk.tr b1) b1.rm (rs.same b1.sm) h2).mono ?_
  rintro ws H2 ⟨hl1, F2, M2, xs, b2, rxs, hxs⟩
  rw [List.append_nil]
  exact lift_of (by rw [List.length_cons, hl1, hl]) b2.rm (.cons (rx.same b2.sm) rxs) hxs (fun v H' q => q.tr (b1.trans b2)) fun cls d H' q => q.tr (b1.trans b2)
theorem LE.meth0 {C : Addr} {m : Str} {pl : Sem Bool} {o : Expr} (G : GMt X.prog X.w X.K X.mg X.base C m k ps sp) (cl : Cls X.K C) (hr : Room k X.A) (ho : LE X o ta) (hl : 1 = ps.length := by rfl)
    (ht : eval (.Call (.Attribute o m apos) [] [] pos) X.env = (do
      let ov ← eval o X.env
      standAt apos.atName
      let (f, first) ← holding [ov] (getMethod ov m pl)
      callWith pos f first (backTo pos (starEach [] X.env)) (backToKw pos (keywordEach [] X.env))) := by rfl) : LE X (.Call (.Attribute o m apos) [] [] pos) (pMeth C m sp ta pNil) := by
  obtain ⟨f, fd, G, hm, hb⟩ := G.ex
  refine ⟨fun σv H σ F M Q E tk rm rs h => WE.of (pe_meth0 (pl := pl) (E := LX X.K F M H E) WE.pe cl hm G hr hb .nil (passes_call tk fun _ _ _ _ z => z) ht) ?_⟩
  refine (ho.run σv H σ F M _ E tk rm rs h).mono ?_
  rintro v H1 ⟨F1, M1, x, b1, rx, hx⟩
  obtain ⟨fs, e1, hn, h2⟩ := need_of hx
  obtain ⟨q, dx, vs, rfl, e2, rf⟩ := rx.objI b1.rm e1
  refine ⟨q, dx, vs, rfl, e2, rf.none hn, ?_⟩
  exact lift_of hl b1.rm (.cons rx .nil) h2 (fun v H' q => q.tr b1) fun cls d H' q => q.tr b1
/-- a class of the text that is made by its __init__ -/
structure GMk (P : Program) (w : World) (K : PySem.W.Frag) (mg : Str → Option Value) (base : Heap) (x : Str) (C : Addr) (k : Nat) (ps : List Str) (sp : PSp) : Prop where
  ex : ∃ f fd, FnOk P w K mg base (L2.CX P w) k f fd ps (lift K ps.length sp) ∧ mg x = some (.ref C) ∧ Mk K C f ∧ Binds K fd ps []
/-- made, and from then on never changed -/
def pMake (C : Addr) (sp : PSp) (t : PTA) : PTE := fun E σ M Q => t E σ M fun xs M1 => ∀ p, M1 p = none → sp (.ptr p :: xs) (M1.put p (.obj C [])) (fun r M2 => isNon r = true ∧ match M2 p with | some (.obj C' fs) => C' = C ∧ Q (.obj C fs) (M2.drop p) | _ => False) E
theorem LE.make {C : Addr} (G : GMk X.prog X.w X.K X.mg X.base x C k ps sp) (hr : Room (k + 1) X.A) (hg : Gl X x) (ha : LA X (e :: es) t) (hl : (e :: es).length + 1 = ps.length := by rfl) (hdb : (x == ("__debug__" : Str)) = false := by decide)
    (he : starEach (e :: es) X.env = (false, eval e X.env) :: starEach es X.env := by rfl) (hpl : (backTo pos (starEach es X.env)).any (·.1) = false := by rfl) : LE X (.Call (.Name x p) (e :: es) [] pos) (pMake C sp t) := by
  obtain ⟨f, fd, G, hm, mk, hb⟩ := G.ex
  refine ⟨fun σv H σ F M Q E tk rm rs h => WE.of (pe_make (E := LX X.K F M H E) mk G hr hg hm hb .nil (passes_call tk fun _ _ _ _ z => z) WA.pa hdb he hpl) ?_⟩
  refine (ha.run σv H σ F M _ E tk rm rs h).mono ?_
  rintro vs H1 ⟨hl1, F1, M1, xs, b1, rx, hx⟩
  intro q dx nq ndx ne
  rw [List.append_nil]
  have c1 : Beh X.K F1 M1 H1 (upd F1 dx (.own q)) M1 (upd H1 dx (.own q)) := b1.rm.beh ndx
  have nq' : upd H1 dx (.own q) q = none := by rw [upd_ne (Ne.symm ne)]; exact nq
  have c2 := c1.rm.behNew (m := .obj C []) (o := .ins C dx []) nq' (.obj .nil)
  have c := b1.trans (c1.trans c2)
  refine lift_of (by rw [List.length_cons, hl1, hl]) c2.rm (.cons (.ptr q) (rx.same (c1.trans c2).sm)) (hx q (b1.rm.nones nq).2) (fun v H' z => ?_) fun cls d H' q => q.tr c
  obtain ⟨F2, M2, r, b2, rr, hz, h2⟩ := z
  refine ⟨?_, ?_⟩
  · have := rr.isNon
    rw [hz] at this
    exact of_decide_eq_true this
  · cases hm2 : M2 q with
    | none => rw [hm2] at h2; exact h2.elim
    | some mo =>
      rw [hm2] at h2
      cases mo with
      | lst ys => exact h2.elim
      | dct _ _ => exact h2.elim
      | obj C' fs =>
        obtain ⟨hC, h3⟩ := h2
        subst hC
        obtain ⟨o, s1, s4⟩ := b2.rm.behFreeze hm2
        cases s4 with
        | obj s4 => exact ⟨_, _, _, c.trans (b2.trans s1), .obj upd_same (s4.same s1.sm), h3⟩
end
end PL
set_option Elab.async false
set_option linter.all false
set_option maxRecDepth 100000
namespace PL
open PySem PySem.Spec PyProof.Rows L2

abbrev PNx := PSt → Mem → Prop
structure PEnds where
  nx : PNx
  rt : PQ
  ex : PXK
  bk : PNx := fun _ _ => False
  ct : PNx := fun _ _ => False
abbrev PTS := PEnds → PSt → Mem → Prop
def LN (K : PySem.W.Frag) (F : Hp) (M : Mem) (H : Hp) (Q : PNx) : L2.St → Hp → Prop := fun σv' H' => ∃ F' M' σ', Beh K F M H F' M' H' ∧ RS K F' σ' σv' ∧ Q σ' M'
theorem LN.tr {K : PySem.W.Frag} {F F1 H H1 : Hp} {M M1 : Mem} {Q : PNx} (b : Beh K F M H F1 M1 H1) {v : L2.St} {H2 : Hp} : LN K F1 M1 H1 Q v H2 → LN K F M H Q v H2
  | ⟨F2, M2, x, b2, r, q⟩ => ⟨F2, M2, x, b.trans b2, r, q⟩
def LD (K : PySem.W.Frag) (F : Hp) (M : Mem) (H : Hp) (D : PEnds) : Ends := { nx := LN K F M H D.nx, rt := LQ K F M H D.rt, bk := LN K F M H D.bk, ct := LN K F M H D.ct }
def WS (X : Cx) (st : Stmt) : TS := fun D σ H => ∀ pins s, Inv X pins σ H s → wpAny (model X.prog X.w) X.A (exec st X.env) (SP X pins D) X.xe s
def WSs (X : Cx) (st : List Stmt) : TS := fun D σ H => ∀ pins s, Inv X pins σ H s → wpAny (model X.prog X.w) X.A (execs st X.env) (SP X pins D) X.xe s
theorem WS.ps {X : Cx} {st : Stmt} : PS X st (WS X st) := ⟨fun pins s σ H D I h => h pins s I⟩
theorem WSs.ps {X : Cx} {st : List Stmt} : PSs X st (WSs X st) := ⟨fun pins s σ H D I h => h pins s I⟩
theorem WS.of {X : Cx} {st : Stmt} {t : TS} (p : PS X st t) {D : Ends} {σ : L2.St} {H : Hp} (h : t D σ H) : WS X st D σ H := fun pins s I => p.run pins s σ H D I h
theorem WSs.of {X : Cx} {st : List Stmt} {t : TS} (p : PSs X st t) {D : Ends} {σ : L2.St} {H : Hp} (h : t D σ H) : WSs X st D σ H := fun pins s I => p.run pins s σ H D I h
structure Ends.Le (D D' : Ends) : Prop where
  nx : ∀ σ H, D.nx σ H → D'.nx σ H
  rt : ∀ v H, D.rt v H → D'.rt v H
  bk : ∀ σ H, D.bk σ H → D'.bk σ H
  ct : ∀ σ H, D.ct σ H → D'.ct σ H
theorem SP.mono {X : Cx} {pins : List (Addr × Obj)} {D D' : Ends} (m : Ends.Le D D') {f : Flow} {s' : Shared} (h : SP X pins D f s') : SP X pins D' f s' := by
  cases f with
  | next => obtain ⟨σ, H, I, q⟩ := h; exact ⟨σ, H, I, m.nx _ _ q⟩
  | brk => obtain ⟨σ, H, I, q⟩ := h; exact ⟨σ, H, I, m.bk _ _ q⟩
  | cont => obtain ⟨σ, H, I, q⟩ := h; exact ⟨σ, H, I, m.ct _ _ q⟩
  | ret u => obtain ⟨v, σ, H, I, r, q⟩ := h; exact ⟨v, σ, H, I, r, m.rt _ _ q⟩
theorem WS.mono {X : Cx} {st : Stmt} {D D' : Ends} {σ : L2.St} {H : Hp} (h : WS X st D σ H) (m : Ends.Le D D') : WS X st D' σ H := fun pins s I => thn (h pins s I) fun _ _ q => SP.mono m q
theorem WSs.mono {X : Cx} {st : List Stmt} {D D' : Ends} {σ : L2.St} {H : Hp} (h : WSs X st D σ H) (m : Ends.Le D D') : WSs X st D' σ H := fun pins s I => thn (h pins s I) fun _ _ q => SP.mono m q
theorem LD.tr {K : PySem.W.Frag} {F F1 H H1 : Hp} {M M1 : Mem} {D : PEnds} (b : Beh K F M H F1 M1 H1) : Ends.Le (LD K F1 M1 H1 D) (LD K F M H D) := ⟨fun _ _ q => q.tr b, fun _ _ q => q.tr b, fun _ _ q => q.tr b, fun _ _ q => q.tr b⟩
structure LS (X : Cx) (st : Stmt) (t : PTS) : Prop where
  run : ∀ (σv : L2.St) (H : Hp) (σ : PSt) (F : Hp) (M : Mem) (D : PEnds), PTk X F M H D.ex → RM X.K F M H → RS X.K F σ σv → t D σ M → WS X st (LD X.K F M H D) σv H
structure LSs (X : Cx) (st : List Stmt) (t : PTS) : Prop where
  run : ∀ (σv : L2.St) (H : Hp) (σ : PSt) (F : Hp) (M : Mem) (D : PEnds), PTk X F M H D.ex → RM X.K F M H → RS X.K F σ σv → t D σ M → WSs X st (LD X.K F M H D) σv H

/-! ### targets -/
abbrev PTG := PV → PSt → Mem → PNx → Prop
def WG (X : Cx) (tg : Expr) : TG := fun v σ H Q => ∀ pins s u, Inv X pins σ H s → RelV v u → wpAny (model X.prog X.w) X.A (assign tg X.env u) (fun _ s' => ∃ σ' H', Inv X pins σ' H' s' ∧ Q σ' H') X.xe s
theorem WG.pg {X : Cx} {tg : Expr} : PG X tg (WG X tg) := ⟨fun pins s σ H v u Q I r h => h pins s u I r⟩
theorem WG.of {X : Cx} {tg : Expr} {g : TG} (p : PG X tg g) {v : V} {σ : L2.St} {H : Hp} {Q : L2.St → Hp → Prop} (h : g v σ H Q) : WG X tg v σ H Q := fun pins s u I r => p.run pins s σ H v u Q I r h
theorem WG.mono {X : Cx} {tg : Expr} {v : V} {σ : L2.St} {H : Hp} {Q Q' : L2.St → Hp → Prop} (h : WG X tg v σ H Q) (m : ∀ σ H, Q σ H → Q' σ H) : WG X tg v σ H Q' := fun pins s u I r => thn (h pins s u I r) fun _ _ ⟨σ', H', I', q⟩ => ⟨σ', H', I', m _ _ q⟩
structure LG (X : Cx) (tg : Expr) (g : PTG) : Prop where
  run : ∀ (σv : L2.St) (H : Hp) (σ : PSt) (F : Hp) (M : Mem) (x : PV) (v : V) (Q : PNx), RM X.K F M H → RS X.K F σ σv → R X.K F x v → g x σ M Q → WG X tg v σv H (LN X.K F M H Q)
abbrev PTGs := List PV → PSt → Mem → PNx → Prop
def WGs (X : Cx) (ts : List Expr) : TGs := fun vs σ H Q => ∀ pins s us, Inv X pins σ H s → Vals vs us → wpAny (model X.prog X.w) X.A (assignInOrder ((assignEach ts X.env).map (·.2)) us) (fun _ s' => ∃ σ' H', Inv X pins σ' H' s' ∧ Q σ' H') X.xe s
theorem WGs.pg {X : Cx} {ts : List Expr} : PGs X ts (WGs X ts) := ⟨fun pins s σ H v u Q I r h => h pins s u I r⟩
theorem WGs.of {X : Cx} {ts : List Expr} {g : TGs} (p : PGs X ts g) {v : List V} {σ : L2.St} {H : Hp} {Q : L2.St → Hp → Prop} (h : g v σ H Q) : WGs X ts v σ H Q := fun pins s u I r => p.run pins s σ H v u Q I r h
theorem WGs.mono {X : Cx} {tg : List Expr} {v : List V} {σ : L2.St} {H : Hp} {Q Q' : L2.St → Hp → Prop} (h : WGs X tg v σ H Q) (m : ∀ σ H, Q σ H → Q' σ H) : WGs X tg v σ H Q' := fun pins s u I r => thn (h pins s u I r) fun _ _ ⟨σ', H', I', q⟩ => ⟨σ', H', I', m _ _ q⟩
structure LGs (X : Cx) (ts : List Expr) (g : PTGs) : Prop where
  run : ∀ (σv : L2.St) (H : Hp) (σ : PSt) (F : Hp) (M : Mem) (xs : List PV) (vs : List V) (Q : PNx), RM X.K F M H → RS X.K F σ σv → RAll X.K F xs vs → g xs σ M Q → WGs X ts vs σv H (LN X.K F M H Q)
section
variable {X : Cx} {a b c e o i : Expr} {ta tb tc to ti te : PTE} {pos pos' p : Pos} {es : List Expr} {x : Str}
def gpName (i : Nat) : PTG := fun x σ M Q => Q (σ.set i (some x)) M
theorem LG.name (i : Nat) (hN : X.N.Nodup) (hi : X.N[i]? = some x := by rfl) (hx : Loc X.env.scope x := by first | exact .inl rfl | exact .inr rfl) (hf : X.fn x = true ∨ X.env.scope.names.lookup x = some .local := by first | exact .inl rfl | exact .inr rfl) : LG X (.Name x pos) (gpName i) :=
  ⟨fun σv H σ F M x v Q rm rs r h => WG.of (pg_name hN hi hx hf) ⟨F, M, _, Beh.refl rm, rs.set i r, h⟩⟩
def gpNil : PTGs := fun xs σ M Q => match xs with | [] => Q σ M | _ => False
def gpCons (t : PTG) (u : PTGs) : PTGs := fun xs σ M Q => match xs with | x :: r => t x σ M fun σ' M' => u r σ' M' Q | [] => False
theorem LGs.nil : LGs X [] gpNil := by
  refine ⟨fun σv H σ F M xs vs Q rm rs r h => WGs.of pgs_nil ?_⟩
  cases r with
  | nil => exact ⟨rfl, F, M, σ, Beh.refl rm, rs, h⟩
  | cons _ _ => exact h.elim
theorem LGs.cons {g : PTG} {gs : PTGs} (h1 : LG X e g) (h2 : LGs X es gs) (hs : (assignEach (e :: es) X.env).map (·.2) = assign e X.env :: (assignEach es X.env).map (·.2) := by rfl) : LGs X (e :: es) (gpCons g gs) := by
  refine ⟨fun σv H σ F M xs vs Q rm rs r h => WGs.of (pgs_cons WG.pg WGs.pg hs) ?_⟩
  cases r with
  | nil => exact h.elim
  | cons r t =>
    refine ⟨_, _, rfl, ?_⟩
    refine (h1.run σv H σ F M _ _ _ rm rs r h).mono ?_
    rintro σv1 H1 ⟨F1, M1, σ1, b1, rs1, h1⟩
    exact (h2.run σv1 H1 σ1 F1 M1 _ _ Q b1.rm rs1 (t.same b1.sm) h1).mono fun _ _ q => q.tr b1
def gpTup (n : Nat) (u : PTGs) : PTG := fun x σ M Q => match x with | .tup xs => xs.length = n ∧ u xs σ M Q | _ => False
theorem LG.tup {k n : Nat} {gs : PTGs} (hc : X.calm = true) (h : LGs X es gs) (hn : (assignEach es X.env).length = n := by rfl) (hst : (assignEach es X.env).findIdx? (·.1) = none := by rfl) : LG X (.Tuple es k pos) (gpTup n gs) := by
  refine ⟨fun σv H σ F M x v Q rm rs r hh => WG.of (pg_tup hc WGs.pg hn hst) ?_⟩
  unfold gpTup at hh
  split at hh
  · cases r with
    | tup q r =>
      refine ⟨_, _, rfl, sqT_same rm.fr q, by rw [← r.length]; exact hh.1, ?_⟩
      exact h.run σv H σ F M _ _ Q rm rs r hh.2
  · exact hh.elim
/-- o[i] = x of a list that may change -/
def kSet (o i x : PV) (M : Mem) (Q : Mem → Prop) : Prop := match o, i with
  | .ptr p, .int k => match M p with
    | some (.lst xs) => need (ixN xs.length k) fun j => Q (M.put p (.lst (xs.set j x)))
    | _ => False
  | _, _ => False
def gpSub (to ti : PTE) : PTG := fun x σ M Q => to noX σ M fun o M1 => ti noX σ M1 fun i M2 => kSet o i x M2 fun M3 => Q σ M3
theorem LG.sub (ho : LE X o to) (hi : LE X i ti) (ha : ∀ v, assign (.Subscript o i pos) X.env v = (do
      let ov ← holding [v] (eval o X.env)
      let iv ← holding [v, ov] (eval i X.env)
      standAt pos
      holding [v, ov, iv] (setItem ov iv v)
      release [v, ov, iv] []) := by intro _; rfl) : LG X (.Subscript o i pos) (gpSub to ti) := by
  refine ⟨fun σv H σ F M x v Q rm rs r h => WG.of (pg_sub WE.pe WE.pe set_list ha) ?_⟩
  refine seq2 (k := fun o i M2 => kSet o i x M2 fun M3 => Q σ M3) ho hi PTk.no rm rs h fun o i ov iv F2 M2 H2 bh ro ri h2 => ?_
  unfold kSet at h2
  split at h2
  · rename_i p k
    cases ro
    cases ri
    cases hm : M2 p with
    | none => rw [hm] at h2; exact h2.elim
    | some mo =>
      rw [hm] at h2
      cases mo with
      | obj C fs => exact h2.elim
      | dct _ _ => exact h2.elim
      | lst xs =>
        obtain ⟨j, e1, h3⟩ := need_of h2
        obtain ⟨u, e2, ru⟩ := bh.rm.mu _ _ hm
        cases ru with
        | lst ru =>
          refine ⟨p, _, k, j, rfl, rfl, e2, by rw [← ru.length]; exact e1, ?_⟩
          have b3 := bh.rm.behWrite (o := .lst _) hm (.lst (RAll.set (r.same bh.sm) j ru))
          exact ⟨F2, _, σ, bh.trans b3, rs.same bh.sm, h3⟩
  · exact h2.elim
end

/-! ### blocks and small statements -/
section
variable {X : Cx} {st : Stmt} {sts rest body : List Stmt} {t u : PTS} {a b c e o i : Expr} {ta tb tc te tv : PTE} {tt : PTT} {pos pos' p : Pos} {es : List Expr} {x : Str} {g : PTG}
def pNext : PTS := fun D σ M => D.nx σ M
def pSeq (t u : PTS) : PTS := fun D σ M => t { D with nx := u D } σ M
theorem LSs.nil : LSs X [] pNext := ⟨fun σv H σ F M D tk rm rs h => WSs.of pss_nil ⟨F, M, σ, Beh.refl rm, rs, h⟩⟩
theorem LSs.cons (h1 : LS X st t) (h2 : LSs X rest u) : LSs X (st :: rest) (pSeq t u) := by
  refine ⟨fun σv H σ F M D tk rm rs h => WSs.of (pss_cons WS.ps WSs.ps) ?_⟩
  refine (h1.run σv H σ F M { D with nx := u D } tk rm rs h).mono ⟨?_, fun _ _ q => q, fun _ _ q => q, fun _ _ q => q⟩
  rintro σv1 H1 ⟨F1, M1, σ1, b1, rs1, q1⟩
  exact (h2.run σv1 H1 σ1 F1 M1 D (tk.tr b1) b1.rm rs1 q1).mono (LD.tr b1)
theorem LSs.one (h1 : LS X st t) : LSs X [st] t := ⟨fun σv H σ F M D tk rm rs h => WSs.of (pss_one WS.ps) (h1.run σv H σ F M D tk rm rs h)⟩
def pBreak : PTS := fun D σ M => D.bk σ M
def pCont : PTS := fun D σ M => D.ct σ M
theorem LS.pass : LS X (.Pass pos) pNext := ⟨fun σv H σ F M D tk rm rs h => WS.of ps_pass ⟨F, M, σ, Beh.refl rm, rs, h⟩⟩
theorem LS.brk : LS X (.Break pos) pBreak := ⟨fun σv H σ F M D tk rm rs h => WS.of ps_break ⟨F, M, σ, Beh.refl rm, rs, h⟩⟩
theorem LS.cont : LS X (.Continue pos) pCont := ⟨fun σv H σ F M D tk rm rs h => WS.of ps_continue ⟨F, M, σ, Beh.refl rm, rs, h⟩⟩
def pNever : PTS := fun _ _ _ => False
theorem LS.never : LS X st pNever := ⟨fun σv H σ F M D tk rm rs h => h.elim⟩
theorem LSs.never : LSs X sts pNever := ⟨fun σv H σ F M D tk rm rs h => h.elim⟩
def pDrop (te : PTE) : PTS := fun D σ M => te D.ex σ M fun _ M1 => D.nx σ M1
theorem LS.expr (he : LE X e te) (hs : swapsWith e none pos.line X.env = pure false := by rfl) : LS X (.Expr e pos) (pDrop te) := by
  refine ⟨fun σv H σ F M D tk rm rs h => WS.of (ps_expr WE.pe hs) ?_⟩
  refine (he.run σv H σ F M _ D.ex tk rm rs h).mono ?_
  rintro v H1 ⟨F1, M1, x, b1, rx, hx⟩
  exact ⟨F1, M1, σ, b1, rs.same b1.sm, hx⟩
def pRet (te : PTE) : PTS := fun D σ M => te D.ex σ M D.rt
theorem LS.ret (he : LE X e te) : LS X (.Return (some e) pos) (pRet te) := ⟨fun σv H σ F M D tk rm rs h => WS.of (ps_ret WE.pe) (he.run σv H σ F M _ D.ex tk rm rs h)⟩
def pRetN : PTS := fun D _ M => D.rt .non M
theorem LS.retN : LS X (.Return none pos) pRetN := ⟨fun σv H σ F M D tk rm rs h => WS.of ps_retN ⟨F, M, .non, Beh.refl rm, .non, h⟩⟩
/-- what is handed back never changes from now on -/
def kFz (x : PV) (M : Mem) (Q : PQ) : Prop := match x with
  | .ptr p => match M p with | some (.lst xs) => Q (.lst xs) (M.drop p) | some (.obj C fs) => Q (.obj C fs) (M.drop p) | some (.dct a kvs) => a = p ∧ Q (.dct kvs) (M.drop p) | none => False
  | _ => False
theorem R.fz {K : PySem.W.Frag} {F H : Hp} {M : Mem} {x : PV} {v : V} {Q : PQ} (rm : RM K F M H) (r : R K F x v) (h : kFz x M Q) : LQ K F M H Q v H := by
  unfold kFz at h
  split at h
  · rename_i p
    cases r
    split at h
    · rename_i xs hm
      obtain ⟨o, b, q⟩ := rm.behFreeze hm
      cases q with
      | lst q => exact ⟨_, _, _, b, .lst upd_same (q.same b.sm), h⟩
    · rename_i C fs hm
      obtain ⟨o, b, q⟩ := rm.behFreeze hm
      cases q with
      | obj q => exact ⟨_, _, _, b, .obj upd_same (q.same b.sm), h⟩
    · rename_i a kvs hm
      obtain ⟨rfl, h⟩ := h
      obtain ⟨o, b, q⟩ := rm.behFreeze hm
      cases q with
      | dct q => exact ⟨_, _, _, b, .dct upd_same (q.same b.sm), h⟩
    · exact h.elim
  · exact h.elim
def pRetF (te : PTE) : PTS := fun D σ M => te D.ex σ M fun x M1 => kFz x M1 D.rt
theorem LS.retF (he : LE X e te) : LS X (.Return (some e) pos) (pRetF te) := by
  refine ⟨fun σv H σ F M D tk rm rs h => WS.of (ps_ret WE.pe) ?_⟩
  refine (he.run σv H σ F M _ D.ex tk rm rs h).mono ?_
  rintro v H1 ⟨F1, M1, x, b1, rx, hx⟩
  exact (rx.fz b1.rm hx).tr b1
/-- the list in a slot never changes from now on -/
def pFz (i : Nat) (t : PTS) : PTS := fun D σ M => match σ[i]? with
  | some (some x) => kFz x M fun y M1 => t D (σ.set i (some y)) M1
  | _ => False
theorem LSs.fz (i : Nat) (h : LSs X sts t) : LSs X sts (pFz i t) := by
  refine ⟨fun σv H σ F M D tk rm rs hh => ?_⟩
  unfold pFz at hh
  split at hh
  · rename_i x hx
    obtain ⟨v, e1, r⟩ := rs.at_ i x hx
    obtain ⟨F1, M1, y, b1, ry, h1⟩ := r.fz rm hh
    have rs1 : RS X.K F1 (σ.set i (some y)) σv := by
      have q := (rs.same b1.sm).set i ry
      have hl : i < σv.length := (List.getElem?_eq_some_iff.mp e1).1
      have e2 : σv.set i (some v) = σv := by
        have e3 : σv[i] = some v := Option.some.inj ((List.getElem?_eq_getElem hl).symm.trans e1)
        rw [← e3, List.set_getElem_self]
      rw [e2] at q
      exact q
    exact (h.run σv H _ F1 M1 D (tk.tr b1) b1.rm rs1 h1).mono (LD.tr b1)
  · exact hh.elim
/-- what is in the store at a slot's place is forgotten -/
def pDropAt (i : Nat) (t : PTS) : PTS := fun D σ M => match σ[i]? with
  | some (some (.ptr p)) => t D σ (M.drop p)
  | _ => False
theorem LSs.dropAt (i : Nat) (h : LSs X sts t) : LSs X sts (pDropAt i t) := by
  refine ⟨fun σv H σ F M D tk rm rs hh => ?_⟩
  unfold pDropAt at hh
  split at hh
  · rename_i p hx
    have b1 := rm.behDrop (p := p)
    exact (h.run σv H _ F _ D (tk.tr b1) b1.rm (rs.same b1.sm) hh).mono (LD.tr b1)
  · exact hh.elim
def pIfS (c : PTT) (t u : PTS) : PTS := fun D σ M => c D.ex σ M fun b M1 => if b = true then t D σ M1 else u D σ M1
theorem LS.ite {as bs : List Stmt} (hc : LT X c tt) (ha : LSs X as t) (hb : LSs X bs u) : LS X (.If c as bs pos) (pIfS tt t u) := by
  refine ⟨fun σv H σ F M D tk rm rs h => WS.of (ps_if WT.pt WSs.ps WSs.ps) ?_⟩
  refine (hc.run σv H σ F M _ D.ex tk rm rs h).mono ?_
  rintro b H1 ⟨F1, M1, b1, hx⟩
  split
  · rename_i e
    rw [if_pos e] at hx
    exact (ha.run σv H1 σ F1 M1 D (tk.tr b1) b1.rm (rs.same b1.sm) hx).mono (LD.tr b1)
  · rename_i e
    rw [if_neg e] at hx
    exact (hb.run σv H1 σ F1 M1 D (tk.tr b1) b1.rm (rs.same b1.sm) hx).mono (LD.tr b1)
def pAsg (te : PTE) (g : PTG) : PTS := fun D σ M => te D.ex σ M fun x M1 => g x σ M1 D.nx
theorem LS.asg {tg : Expr} (he : LE X e te) (hg : LG X tg g) (hs : swapsWithSole [tg] e pos.line X.env = pure false := by rfl) (hw : swappedStores [tg] e X.env = pure none := by rfl)
    (h1 : (assignEach [tg] X.env).map (·.2) = [assign tg X.env] := by rfl) : LS X (.Assign [tg] e pos) (pAsg te g) := by
  refine ⟨fun σv H σ F M D tk rm rs h => WS.of (ps_asg WE.pe WG.pg hs hw h1) ?_⟩
  refine (he.run σv H σ F M _ D.ex tk rm rs h).mono ?_
  rintro v H1 ⟨F1, M1, x, b1, rx, hx⟩
  exact (hg.run σv H1 σ F1 M1 x v _ b1.rm (rs.same b1.sm) rx hx).mono fun _ _ q => q.tr b1
def pSet (i : Nat) (te : PTE) : PTS := fun D σ M => te D.ex σ M fun x M1 => D.nx (σ.set i (some x)) M1
theorem LS.set (i : Nat) {pos' : Pos} (hN : X.N.Nodup) (he : LE X e te) (hi : X.N[i]? = some x := by rfl) (hx : Loc X.env.scope x := by first | exact .inl rfl | exact .inr rfl) (hs : swapsWith e (some (.Name x pos')) pos.line X.env = pure false := by rfl)
    (hf : X.fn x = true ∨ X.env.scope.names.lookup x = some .local := by first | exact .inl rfl | exact .inr rfl) : LS X (.Assign [.Name x pos'] e pos) (pSet i te) := by
  refine ⟨fun σv H σ F M D tk rm rs h => WS.of (ps_set hN hi hx WE.pe hs hf) ?_⟩
  refine (he.run σv H σ F M _ D.ex tk rm rs h).mono ?_
  rintro v H1 ⟨F1, M1, x, b1, rx, hx⟩
  exact ⟨F1, M1, _, b1, (rs.same b1.sm).set i rx, hx⟩
/-- self.f = e of an object that may change -/
def kPutF (C : Addr) (f : Str) (x : PV) (o : PV) (M : Mem) (Q : Mem → Prop) : Prop := match o with
  | .ptr p => match M p with | some (.obj C' fs) => C' = C ∧ fs.length < 1000 ∧ Q (M.put p (.obj C (putP f x fs))) | _ => False
  | _ => False
def pFldS (C : Addr) (f : Str) (to tv : PTE) : PTS := fun D σ M => tv D.ex σ M fun x M1 => to D.ex σ M1 fun o M2 => kPutF C f x o M2 fun M3 => D.nx σ M3
theorem LS.fld {C : Addr} {f : Str} {to : PTE} (cl : Cls X.K C) (na : NoAttr X.K C f) (ho : LE X o to) (hv : LE X e tv) (hs : swapsWith e (some (.Attribute o f pos')) pos.line X.env = pure false := by rfl) : LS X (.Assign [.Attribute o f pos'] e pos) (pFldS C f to tv) := by
  refine ⟨fun σv H σ F M D tk rm rs h => WS.of (ps_fld WE.pe WE.pe hs) ?_⟩
  refine seq2 (k := fun x o M2 => kPutF C f x o M2 fun M3 => D.nx σ M3) hv ho tk rm rs h fun x o xv ov F2 M2 H2 bh rx ro h2 => ?_
  unfold kPutF at h2
  split at h2
  · rename_i p
    cases ro
    split at h2
    · rename_i C' fs hm
      obtain ⟨hC, hl, h3⟩ := h2
      subst hC
      obtain ⟨u, e2, ru⟩ := bh.rm.mu _ _ hm
      cases ru with
      | @obj _ dx _ vs ru =>
        refine ⟨p, _, _, _, rfl, e2, cl, na, by rw [← ru.length]; exact hl, ?_⟩
        have b3 := bh.rm.behWrite (m' := .obj C' (putP f x fs)) (o := .ins C' dx (putF f xv vs)) hm (.obj (RFs.put rx ru))
        exact ⟨F2, _, σ, bh.trans b3, rs.same bh.sm, h3⟩
    · exact h2.elim
  · exact h2.elim
/-- name op= e -/
def oIp : Operator → PO2
  | .Add => oAdd
  | .Sub => oSub
  | _ => fun _ _ _ _ => False
def pAug (i : Nat) (o : PO2) (te : PTE) : PTS := fun D σ M => match σ[i]? with
  | some (some x) => te D.ex σ M fun y M1 => o x y M1 fun z M2 => D.nx (σ.set i (some z)) M2
  | _ => False
theorem LS.aug {op : Operator} {r : R2} {po : PO2} (i : Nat) {pos' : Pos} (ho : OpR X (inplaceOp op) r) (hp : POp X.K r po) (hN : X.N.Nodup) (he : LE X e te) (hi : X.N[i]? = some x := by rfl) (hx : Loc X.env.scope x := by first | exact .inl rfl | exact .inr rfl)
    (hf : X.fn x = true ∨ X.env.scope.names.lookup x = some .local := by first | exact .inl rfl | exact .inr rfl) : LS X (.AugAssign (.Name x pos') op e pos) (pAug i po te) := by
  refine ⟨fun σv H σ F M D tk rm rs h => WS.of (ps_aug (ti := r) hN hi hx WE.pe (fun pins s σ H x y v u Q I rx ry q => ho pins s σ H x y v u Q I rx ry q) hf) ?_⟩
  unfold pAug at h
  split at h
  · rename_i y hy
    obtain ⟨v, e1, rv⟩ := rs.at_ i y hy
    refine ⟨v, e1, ?_⟩
    refine (he.run σv H σ F M _ D.ex tk rm rs h).mono ?_
    rintro w H1 ⟨F1, M1, z, b1, rz, hz⟩
    refine hp F1 M1 H1 y z v w _ _ b1.rm (rv.same b1.sm) rz hz ?_
    rintro w2 H2 ⟨F2, M2, z2, b2, rz2, hz2⟩
    exact ⟨F2, M2, _, b1.trans b2, (rs.same (b1.trans b2).sm).set i rz2, hz2⟩
  · exact h.elim
theorem LS.augAdd (i : Nat) {pos' : Pos} (hN : X.N.Nodup) (he : LE X e te) (hi : X.N[i]? = some x := by rfl) (hx : Loc X.env.scope x := by first | exact .inl rfl | exact .inr rfl)
    (hf : X.fn x = true ∨ X.env.scope.names.lookup x = some .local := by first | exact .inl rfl | exact .inr rfl) : LS X (.AugAssign (.Name x pos') .Add e pos) (pAug i (oI0 fun i j => .int (i + j)) te) := LS.aug i iop_add (pop_I0 fun _ _ _ => .int _) hN he hi hx hf
theorem LS.augSub (i : Nat) {pos' : Pos} (hN : X.N.Nodup) (he : LE X e te) (hi : X.N[i]? = some x := by rfl) (hx : Loc X.env.scope x := by first | exact .inl rfl | exact .inr rfl)
    (hf : X.fn x = true ∨ X.env.scope.names.lookup x = some .local := by first | exact .inl rfl | exact .inr rfl) : LS X (.AugAssign (.Name x pos') .Sub e pos) (pAug i oSub te) := LS.aug i iop_sub (pop_I0 fun _ _ _ => .int _) hN he hi hx hf
/-- xs.append(e) of a list that may change -/
def kApp (o x : PV) (M : Mem) (Q : PQ) : Prop := match o with
  | .ptr p => match M p with | some (.lst xs) => xs.length < sizeLine ∧ Q .non (M.put p (.lst (xs ++ [x]))) | _ => False
  | _ => False
def pApp (to te : PTE) : PTE := fun E σ M Q => to E σ M fun o M1 => lstOf M1 o ≠ none ∧ te E σ M1 fun x M2 => kApp o x M2 Q
theorem LE.app {to : PTE} {apos : Pos} (ho : LE X o to) (he : LE X e te) (hbase : attributeBase o "append" X.env (eval o X.env) = eval o X.env := by rfl)
    (hfew : ((backTo pos (starEach [e] X.env)).all (fun x => !x.1) && (backToKw pos (keywordEach [] X.env)).all (fun x => x.1.isSome) && decide ([e].length + ([] : List Keyword).length + (if ([] : List Keyword).isEmpty then 0 else 1) < 30)) = true := by rfl)
    (hline : (apos.endLine == pos.line) = true := by rfl) (hs : starEach [e] X.env = (false, eval e X.env) :: starEach [] X.env := by rfl) (hplain : (backTo pos (starEach [] X.env)).any (·.1) = false := by rfl) :
    LE X (.Call (.Attribute o "append" apos) [e] [] pos) (pApp to te) := by
  refine ⟨fun σv H σ F M Q E tk rm rs h => WE.of (pe_bm PySem.F.plainAttrs_list PySem.F.slot_list_append PySem.F.type_list_append mt_append WE.pe (pa_cons WE.pe pa_nil hs) hbase hfew hline hs hplain) ?_⟩
  refine (ho.run σv H σ F M _ E tk rm rs h).mono ?_
  rintro v H1 ⟨F1, M1, x, b1, rx, hl, hx⟩
  refine ⟨?_, ?_⟩
  · cases hq : lstOf M1 x with
    | none => exact absurd hq hl
    | some xs =>
      obtain ⟨q, ws, ev, hs, _⟩ := rx.lstI b1.rm hq
      subst ev
      exact .inl ⟨rfl, _, hs⟩
  · refine (he.run σv H1 σ F1 M1 _ E (tk.tr b1) b1.rm (rs.same b1.sm) hx).mono ?_
    rintro w H2 ⟨F2, M2, y, b2, ry, hy⟩
    unfold kApp at hy
    split at hy
    · rename_i p
      cases rx
      split at hy
      · rename_i xs hm
        obtain ⟨u, e2, ru⟩ := b2.rm.mu _ _ hm
        cases ru with
        | lst ru =>
          refine ⟨p, _, w, rfl, rfl, e2, by rw [← ru.length]; exact hy.1, ?_⟩
          have b3 := b2.rm.behWrite (o := .lst _) hm (.lst (ru.append (.cons ry .nil)))
          exact ⟨F2, _, _, (b1.trans b2).trans b3, .non, hy.2⟩
      · exact hy.elim
    · exact hy.elim
end
end PL
set_option Elab.async false
set_option linter.all false
set_option maxRecDepth 100000
namespace PL
open PySem PySem.Spec PyProof.Rows L2

/-! ### what a loop goes over -/
abbrev PTI := PXK → PSt → Mem → (List PV → Mem → Prop) → Prop
def WI (X : Cx) (tg iter : Expr) : TI := fun σ H R => ∀ pins s, Inv X pins σ H s → wpAny (model X.prog X.w) X.A (eval iter X.env) (fun v s1 => wpAny (model X.prog X.w) X.A (pyIter v) (PIE X pins σ tg R) X.xe s1) X.xe s
theorem WI.pi {X : Cx} {tg iter : Expr} : PI X tg iter (WI X tg iter) := ⟨fun pins s σ H R I h => h pins s I⟩
theorem WI.of {X : Cx} {tg iter : Expr} {wi : TI} (p : PI X tg iter wi) {σ : L2.St} {H : Hp} {R : It → Hp → Prop} (h : wi σ H R) : WI X tg iter σ H R := fun pins s I => p.run pins s σ H R I h
theorem WI.mono {X : Cx} {tg iter : Expr} {σ : L2.St} {H : Hp} {R R' : It → Hp → Prop} (h : WI X tg iter σ H R) (m : ∀ J H, R J H → R' J H) : WI X tg iter σ H R' := fun pins s I =>
  thn (h pins s I) fun _ _ h1 => thn h1 fun _ _ ⟨it, fp, tn, J, H', a, b, c, d, e, r⟩ => ⟨it, fp, tn, J, H', a, b, c, d, e, m _ _ r⟩
/-- the iterator hands out these, whatever comes -/
def Stab (K : PySem.W.Frag) (J : It) (F : Hp) (xs : List PV) : Prop := ∀ (i : Nat) (F' : Hp) (M : Mem) (H : Hp), Same F F' → RM K F' M H →
  (∀ h : i < xs.length, J.go i H ∧ ∀ v H', J.yld i H v H' → ∃ F2, Beh K F' M H F2 M H' ∧ R K F2 xs[i] v) ∧ (xs.length ≤ i → J.stop i H)
structure LI (X : Cx) (tg iter : Expr) (wi : PTI) : Prop where
  run : ∀ (σv : L2.St) (H : Hp) (σ : PSt) (F : Hp) (M : Mem) (Q : List PV → Mem → Prop) (E : PXK), PTk X F M H E → RM X.K F M H → RS X.K F σ σv → wi E σ M Q →
    WI X tg iter σv H (fun J H' => ∃ F' M' xs, Beh X.K F M H F' M' H' ∧ Stab X.K J F' xs ∧ Q xs M')
theorem stab_list {K : PySem.W.Frag} {F : Hp} {a : Addr} {xs : List PV} {vs : List V} (h : SqL K F a vs) (r : RAll K F xs vs) : Stab K (Itl K a) F xs := by
  intro i F' M H sm rm
  have hH : SqL K H a vs := rm.fr.seq (sm.seq h)
  refine ⟨fun hi => ?_, fun hi => ⟨vs, hH, by rw [← r.length]; exact hi⟩⟩
  obtain ⟨v, e, rv⟩ := r.get (List.getElem?_eq_getElem hi)
  refine ⟨⟨vs, v, hH, e⟩, fun w H' y => ?_⟩
  obtain ⟨rfl, y⟩ := y
  have e2 := y vs hH
  rw [e] at e2
  cases e2
  exact ⟨F', Beh.refl rm, rv.same sm⟩
theorem stab_tup {K : PySem.W.Frag} {F : Hp} {a : Addr} {xs : List PV} {vs : List V} (h : SqT K F a vs) (r : RAll K F xs vs) : Stab K (Itt K a) F xs := by
  intro i F' M H sm rm
  have hH : SqT K H a vs := sqT_same rm.fr (sqT_same sm h)
  refine ⟨fun hi => ?_, fun hi => ⟨vs, hH, by rw [← r.length]; exact hi⟩⟩
  obtain ⟨v, e, rv⟩ := r.get (List.getElem?_eq_getElem hi)
  refine ⟨⟨vs, v, hH, e⟩, fun w H' y => ?_⟩
  obtain ⟨rfl, y⟩ := y
  have e2 := y vs hH
  rw [e] at e2
  cases e2
  exact ⟨F', Beh.refl rm, rv.same sm⟩
/-- the ints lo, lo + 1, .. -/
def rngP (lo : Int) (n : Nat) : List PV := (List.range n).map fun (i : Nat) => PV.int (lo + i)
theorem rngP_length {lo : Int} {n : Nat} : (rngP lo n).length = n := by unfold rngP; rw [List.length_map, List.length_range]
theorem stab_rng {K : PySem.W.Frag} {F : Hp} {lo : Int} {n : Nat} : Stab K (Itr lo n) F (rngP lo n) := by
  intro i F' M H sm rm
  refine ⟨fun hi => ?_, fun hi => by rw [rngP_length] at hi; exact hi⟩
  have hn : i < n := by rw [rngP_length] at hi; exact hi
  refine ⟨hn, fun w H' y => ?_⟩
  obtain ⟨rfl, rfl⟩ := y
  refine ⟨F', Beh.refl rm, ?_⟩
  have e : (rngP lo n)[i] = PV.int (lo + i) := by simp [rngP]
  rw [e]
  exact .int _
/-- a frozen list or a tuple: which it is, is told -/
def lstF : PV → Option (List PV)
  | .lst xs => some xs
  | .scr xs => some xs
  | _ => none
def tupF : PV → Option (List PV)
  | .tup xs => some xs
  | _ => none
def piL (te : PTE) : PTI := fun E σ M Q => te E σ M fun x M1 => need (lstF x) fun xs => Q xs M1
def piT (te : PTE) : PTI := fun E σ M Q => te E σ M fun x M1 => need (tupF x) fun xs => Q xs M1
def piR1 (te : PTE) : PTI := fun E σ M Q => te E σ M fun x M1 => match x with | .int j => (-(2 ^ 62) ≤ j ∧ j < 2 ^ 62) ∧ Q (rngP 0 j.toNat) M1 | _ => False
def piR2 (ta tb : PTE) : PTI := fun E σ M Q => ta E σ M fun x M1 => tb E σ M1 fun y M2 => match x, y with | .int i, .int j => (-(2 ^ 62) ≤ i ∧ i < 2 ^ 62 ∧ -(2 ^ 62) ≤ j ∧ j < 2 ^ 62) ∧ Q (rngP i (j - i).toNat) M2 | _, _ => False
section
variable {X : Cx} {tg iter e a b : Expr} {te ta tb : PTE} {pos p : Pos}
theorem LI.list (he : LE X e te) : LI X tg e (piL te) := by
  refine ⟨fun σv H σ F M Q E tk rm rs h => WI.of (pi_list WE.pe) ?_⟩
  refine (he.run σv H σ F M _ E tk rm rs h).mono ?_
  rintro v H1 ⟨F1, M1, x, b1, rx, hx⟩
  obtain ⟨xs, e1, h2⟩ := need_of hx
  cases rx with
  | lst q r => cases e1; exact ⟨_, rfl, ⟨_, SqL.of (b1.rm.fr _ _ q)⟩, F1, M1, _, b1, stab_list (SqL.of q) r, h2⟩
  | scr q r => cases e1; exact ⟨_, rfl, ⟨_, b1.rm.fr.seq q⟩, F1, M1, _, b1, stab_list q r, h2⟩
  | _ => cases e1
theorem LI.tup (he : LE X e te) : LI X tg e (piT te) := by
  refine ⟨fun σv H σ F M Q E tk rm rs h => WI.of (pi_tup WE.pe) ?_⟩
  refine (he.run σv H σ F M _ E tk rm rs h).mono ?_
  rintro v H1 ⟨F1, M1, x, b1, rx, hx⟩
  obtain ⟨xs, e1, h2⟩ := need_of hx
  cases rx with
  | tup q r => cases e1; exact ⟨_, rfl, ⟨_, sqT_same b1.rm.fr q⟩, F1, M1, _, b1, stab_tup q r, h2⟩
  | _ => cases e1
theorem LI.rng1 (hg : Gl X "range") (hm : X.mg "range" = none) (ha : LE X a ta) (hs : starEach [a] X.env = [(false, eval a X.env)] := by rfl) : LI X tg (.Call (.Name "range" p) [a] [] pos) (piR1 ta) := by
  refine ⟨fun σv H σ F M Q E tk rm rs h => WI.of (pi_range1 hg hm (pa_cons WE.pe pa_nil hs) hs) ?_⟩
  refine (ha.run σv H σ F M _ E tk rm rs h).mono ?_
  rintro v H1 ⟨F1, M1, x, b1, rx, hx⟩
  cases rx <;> first
    | exact hx.elim
    | exact ⟨_, rfl, hx.1.1, hx.1.2, F1, M1, _, b1, stab_rng, hx.2⟩
theorem LI.rng2 (hg : Gl X "range") (hm : X.mg "range" = none) (ha : LE X a ta) (hb : LE X b tb) (hs : starEach [a, b] X.env = [(false, eval a X.env), (false, eval b X.env)] := by rfl) (hs2 : starEach [b] X.env = [(false, eval b X.env)] := by rfl) : LI X tg (.Call (.Name "range" p) [a, b] [] pos) (piR2 ta tb) := by
  refine ⟨fun σv H σ F M Q E tk rm rs h => WI.of (pi_range2 hg hm (pa_cons WE.pe (pa_cons WE.pe pa_nil hs2) (by rw [hs2]; exact hs)) hs hs2) ?_⟩
  refine seq2 (k := fun x y M2 => match x, y with | .int i, .int j => (-(2 ^ 62) ≤ i ∧ i < 2 ^ 62 ∧ -(2 ^ 62) ≤ j ∧ j < 2 ^ 62) ∧ Q (rngP i (j - i).toNat) M2 | _, _ => False) ha hb tk rm rs h fun x y xv yv F2 M2 H2 bh rx ry h2 => ?_
  cases rx <;> cases ry <;> first
    | exact h2.elim
    | exact ⟨_, _, rfl, h2.1, F2, M2, _, bh, stab_rng, h2.2⟩
end

/-! ### for, while -/
def pForL (g : PTG) (tb : PTS) : List PV → PTS
  | [] => fun D σ M => D.nx σ M
  | x :: xs => fun D σ M => g x σ M fun σ1 M1 => tb { D with nx := pForL g tb xs D, bk := D.nx, ct := pForL g tb xs D } σ1 M1
def pFor (wi : PTI) (g : PTG) (tb : PTS) : PTS := fun D σ M => wi D.ex σ M fun xs M1 => pForL g tb xs D σ M1
def pWhileN (c : PTT) (tb : PTS) : Nat → PTS
  | 0 => fun _ _ _ => False
  | n + 1 => fun D σ M => c D.ex σ M fun b M1 => if b = true then tb { D with nx := pWhileN c tb n D, bk := D.nx, ct := pWhileN c tb n D } σ M1 else D.nx σ M1
def pWhile (c : PTT) (tb : PTS) : PTS := fun D σ M => ∃ n, pWhileN c tb n D σ M
section
variable {X : Cx} {tg iter c : Expr} {body : List Stmt} {wi : PTI} {g : PTG} {tb : PTS} {tt : PTT} {pos : Pos}
theorem LS.for (hp : PassesOwn (model X.prog X.w) X.A X.env X.xe) (hc : X.calm = true) (hi : LI X tg iter wi) (hg : LG X tg g) (hb : LSs X body tb) (hs : ∀ x, foldedSetIterable iter X.env x = pure x := by intro _; rfl) : LS X (.For tg iter body [] pos) (pFor wi g tb) := by
  refine ⟨fun σv H σ F M D tk rm rs h => WS.of (ps_for hp hc WI.pi WG.pg WSs.ps hs) ?_⟩
  refine (hi.run σv H σ F M _ D.ex tk rm rs h).mono ?_
  rintro J H1 ⟨F1, M1, xs, b1, st, h1⟩
  refine ⟨fun i m σv' H' => m = xs.length - i ∧ i ≤ xs.length ∧ ∃ F' M' σ', Beh X.K F M H F' M' H' ∧ Same F1 F' ∧ RS X.K F' σ' σv' ∧ pForL g tb (xs.drop i) D σ' M', ⟨xs.length, rfl, Nat.zero_le _, F1, M1, σ, b1, Same.refl _, rs.same b1.sm, h1⟩, ?_⟩
  rintro i m σv2 H2 ⟨rfl, hi2, F2, M2, σ2, b2, sm2, rs2, h2⟩
  obtain ⟨s1, s2⟩ := st i F2 M2 H2 sm2 b2.rm
  by_cases hlt : i < xs.length
  · obtain ⟨go, yl⟩ := s1 hlt
    rw [List.drop_eq_getElem_cons hlt] at h2
    refine .inr ⟨go, _, fun σv' H' n => ⟨_, (show xs.length - (i + 1) < xs.length - i by omega), n⟩, fun v H3 y => ?_⟩
    obtain ⟨F3, b3, r3⟩ := yl v H3 y
    refine (hg.run σv2 H3 σ2 F3 M2 _ v _ b3.rm (rs2.same b3.sm) r3 h2).mono ?_
    rintro σv4 H4 ⟨F4, M4, σ4, b4, rs4, h4⟩
    have b24 := b3.trans b4
    have b04 := b2.trans b24
    refine (hb.run σv4 H4 σ4 F4 M4 { D with nx := pForL g tb (xs.drop (i + 1)) D, bk := D.nx, ct := pForL g tb (xs.drop (i + 1)) D } (tk.tr b04) b04.rm rs4 h4).mono ⟨?_, fun _ _ q => q.tr b04, fun _ _ q => q.tr b04, ?_⟩
    · rintro σv5 H5 ⟨F5, M5, σ5, b5, rs5, h5⟩
      exact ⟨rfl, hlt, F5, M5, σ5, b04.trans b5, (sm2.trans b24.sm).trans b5.sm, rs5, h5⟩
    · rintro σv5 H5 ⟨F5, M5, σ5, b5, rs5, h5⟩
      exact ⟨rfl, hlt, F5, M5, σ5, b04.trans b5, (sm2.trans b24.sm).trans b5.sm, rs5, h5⟩
  · have e : i = xs.length := by omega
    subst e
    rw [List.drop_length] at h2
    exact .inl ⟨s2 (Nat.le_refl _), F2, M2, σ2, b2, rs2, h2⟩
theorem LS.while (hp : PassesOwn (model X.prog X.w) X.A X.env X.xe) (hc : LT X c tt) (hb : LSs X body tb) : LS X (.While c body [] pos) (pWhile tt tb) := by
  refine ⟨fun σv H σ F M D tk rm rs h => WS.of (ps_while hp WT.pt WSs.ps) ?_⟩
  obtain ⟨n, h⟩ := h
  refine ⟨fun m σv' H' => ∃ F' M' σ', Beh X.K F M H F' M' H' ∧ RS X.K F' σ' σv' ∧ pWhileN tt tb m D σ' M', ⟨n, F, M, σ, Beh.refl rm, rs, h⟩, ?_⟩
  rintro m σv2 H2 ⟨F2, M2, σ2, b2, rs2, h2⟩
  cases m with
  | zero => exact h2.elim
  | succ m =>
    refine (hc.run σv2 H2 σ2 F2 M2 _ D.ex (tk.tr b2) b2.rm rs2 h2).mono ?_
    rintro b H3 ⟨F3, M3, b3, h3⟩
    split
    · rename_i e
      rw [if_pos e] at h3
      have b03 := b2.trans b3
      refine ⟨_, fun σv' H' n => ⟨m, Nat.lt_succ_self m, n⟩, ?_⟩
      refine (hb.run σv2 H3 σ2 F3 M3 { D with nx := pWhileN tt tb m D, bk := D.nx, ct := pWhileN tt tb m D } (tk.tr b03) b03.rm (rs2.same b3.sm) h3).mono ⟨?_, fun _ _ q => q.tr b03, fun _ _ q => q.tr b03, ?_⟩
      · rintro σv5 H5 ⟨F5, M5, σ5, b5, rs5, h5⟩
        exact ⟨F5, M5, σ5, b03.trans b5, rs5, h5⟩
      · rintro σv5 H5 ⟨F5, M5, σ5, b5, rs5, h5⟩
        exact ⟨F5, M5, σ5, b03.trans b5, rs5, h5⟩
    · rename_i e
      rw [if_neg e] at h3
      exact ⟨F3, M3, σ2, b2.trans b3, rs2.same b3.sm, h3⟩
end

/-! ### list comprehensions over one name -/
abbrev PTTs := PTT
def pYes : PTT := fun _ _ M Q => Q true M
def pLcL (i : Nat) (tt : PTT) (te : PTE) : List PV → List PV → PSt → Mem → PQ → Prop
  | [], acc => fun _ M Q => Q (.lst acc) M
  | x :: xs, acc => fun σ M Q => tt noX (σ.set i (some x)) M fun b M1 => if b = true then te noX (σ.set i (some x)) M1 fun y M2 => pLcL i tt te xs (acc ++ [y]) σ M2 Q else pLcL i tt te xs acc σ M1 Q
def pLc (wi : PTI) (i : Nat) (tt : PTT) (te : PTE) : PTE := fun E σ M Q => wi E σ M fun xs M1 => xs.length ≤ sizeLine ∧ pLcL i tt te xs [] σ M1 Q
/-- a clause's tests -/
structure LTs (X : Cx) (ifs : List Expr) (t : PTT) : Prop where
  run : ∀ (σv : L2.St) (H : Hp) (σ : PSt) (F : Hp) (M : Mem) (Q : Bool → Mem → Prop), RM X.K F M H → RS X.K F σ σv → t noX σ M Q →
    ∀ pins s, Inv X pins σv H s → wpAny (model X.prog X.w) X.A (forIn ifs true fun c r => if r = true then do let ok ← isTrue c X.env (eval c X.env); pure (ForInStep.yield ok) else pure (ForInStep.yield r)) (TP X pins σv (LB X.K F M H Q)) X.xe s
theorem LTs.nil {X : Cx} : LTs X [] pYes := ⟨fun σv H σ F M Q rm rs h pins s I => pts_nil.run pins s σv H _ I ⟨F, M, Beh.refl rm, h⟩⟩
theorem LTs.one {X : Cx} {c : Expr} {t : PTT} (hc : LT X c t) : LTs X [c] t := ⟨fun σv H σ F M Q rm rs h pins s I => (pts_one WT.pt).run pins s σv H _ I (hc.run σv H σ F M Q noX PTk.no rm rs h)⟩
section
variable {X : Cx} {elt tg iter : Expr} {ifs : List Expr} {scope : Scope} {x : Str} {i : Nat} {pos pt : Pos} {wi : PTI} {tt : PTT} {te : PTE}
abbrev Blk (X : Cx) (scope : Scope) (s : Shared) (H : Hp) (C : Addr) (cl : List (Str × Addr)) (fp : List Addr) : Cx := X.blk s H scope (compEnvC scope cl C X.env) fp
theorem hid_app {K : PySem.W.Frag} {F H : Hp} {M : Mem} {p : Addr} {o : HO} (r : RM K F M H) (nF : F p = none) (nM : M p = none) : RM K F M (upd H p o) := (r.behHid nF nM).1
/-- the turns of the block, D the new list -/
theorem lc_turns {te' : TE} {tt' : TT} (hi : i < X.N.length)
    (ht : ∀ (σv : L2.St) (H : Hp) (σ : PSt) (F : Hp) (M : Mem) (Q : Bool → Mem → Prop), RM X.K F M H → RS X.K F σ σv → tt noX σ M Q → tt' σv H (LB X.K F M H Q))
    (he : ∀ (σv : L2.St) (H : Hp) (σ : PSt) (F : Hp) (M : Mem) (Q : PQ), RM X.K F M H → RS X.K F σ σv → te noX σ M Q → te' σv H (LQ X.K F M H Q))
    (mt : ∀ σv H Q Q', tt' σv H Q → (∀ b H', Q b H' → Q' b H') → tt' σv H Q') (me : ∀ σv H Q Q', te' σv H Q → (∀ b H', Q b H' → Q' b H') → te' σv H Q')
    {σv : L2.St} {σ : PSt} {F M H F1 M1 H1} {Q : PQ} {J : It} {xs : List PV} (b1 : Beh X.K F M H F1 M1 H1) (rs : RS X.K F σ σv) (st : Stab X.K J F1 xs) (hz : xs.length ≤ sizeLine) (h1 : pLcL i tt te xs [] σ M1 Q) {D : Addr} (nD : H1 D = none) :
    ∃ W : Nat → Nat → Hp → Prop, (∃ m, W 0 m (upd H1 D (.lst []))) ∧ ∀ j m H', W j m H' →
      (J.stop j H' ∧ LQ X.K F M H Q (.ref D) H') ∨ (J.go j H' ∧ ∃ Nx : Hp → Prop, (∀ H2, Nx H2 → ∃ m', m' < m ∧ W (j + 1) m' H2) ∧ ∀ v H2, J.yld j H' v H2 → gName i v (wipe σv [i]) H2 fun σ2 H3 => wipe σ2 [i] = wipe σv [i] ∧ tt' σ2 H3 fun b H4 =>
        if b = true then te' σ2 H4 fun y H5 => ∃ acc, H5 D = some (.lst acc) ∧ acc.length < sizeLine ∧ Nx (upd H5 D (.lst (acc ++ [y]))) else Nx H4) := by
  obtain ⟨nF, nM⟩ := b1.rm.nones nD
  have b1' := b1.trans ((b1.rm.behHid (o := .lst []) nF nM).2 nD)
  refine ⟨fun j m H' => m = xs.length - j ∧ j ≤ xs.length ∧ ∃ F' M' acc vacc, Beh X.K F M H F' M' H' ∧ Same F1 F' ∧ F' D = none ∧ M' D = none ∧ H' D = some (.lst vacc) ∧ RAll X.K F' acc vacc ∧ acc.length ≤ j ∧ pLcL i tt te (xs.drop j) acc σ M' Q,
    ⟨xs.length, rfl, Nat.zero_le _, F1, M1, [], [], b1', Same.refl _, nF, nM, upd_same, .nil, Nat.le_refl _, h1⟩, ?_⟩
  rintro j m H2 ⟨rfl, hj, F2, M2, acc, vacc, b2, sm2, nF2, nM2, hD, ra, hl, h2⟩
  obtain ⟨s1, s2⟩ := st j F2 M2 H2 sm2 b2.rm
  by_cases hlt : j < xs.length
  · obtain ⟨go, yl⟩ := s1 hlt
    rw [List.drop_eq_getElem_cons hlt] at h2
    refine .inr ⟨go, _, fun H' n => ⟨_, (show xs.length - (j + 1) < xs.length - j by omega), n⟩, fun v H3 y => ?_⟩
    obtain ⟨F3, b3, r3⟩ := yl v H3 y
    have keepD : ∀ {Fa : Hp} {Ma : Mem} {Ha : Hp}, Beh X.K F2 M2 H2 Fa Ma Ha → Fa D = none ∧ Ma D = none ∧ Ha D = some (.lst vacc) := fun {Fa Ma Ha} b => by
      refine ⟨?_, ?_, b.fr.keep D _ hD nM2⟩
      · cases q : Fa D with
        | none => rfl
        | some u =>
          rcases b.fg D (by rw [q]; exact Option.some_ne_none _) with z | z | z
          · exact absurd nF2 z
          · exact absurd nM2 z
          · rw [hD] at z; cases z
      · cases q : Ma D with
        | none => rfl
        | some u =>
          rcases b.fr.grow D (by rw [q]; exact Option.some_ne_none _) with z | z
          · exact absurd nM2 z
          · rw [hD] at z; cases z
    have hw : wipe σv [i] = σv.set i none := rfl
    have e1 : (wipe σv [i]).set i (some v) = σv.set i (some v) := by rw [hw, List.set_set]
    show wipe ((wipe σv [i]).set i (some v)) [i] = wipe σv [i] ∧ _
    rw [e1]
    refine ⟨by show (σv.set i (some v)).set i none = σv.set i none; rw [List.set_set], ?_⟩
    have rs3 : RS X.K F3 (σ.set i (some xs[j])) (σv.set i (some v)) := (rs.same (b2.trans b3).sm).set i r3
    refine mt _ _ _ _ (ht _ H3 _ F3 M2 _ b3.rm rs3 h2) ?_
    rintro b H4 ⟨F4, M4, b4, h4⟩
    have b24 := b3.trans b4
    split
    · rename_i e
      rw [if_pos e] at h4
      refine me _ _ _ _ (he _ H4 _ F4 M4 _ b4.rm (rs3.same b4.sm) h4) ?_
      rintro yv H5 ⟨F5, M5, y5, b5, r5, h5⟩
      have b25 := b24.trans b5
      obtain ⟨k1, k2, k3⟩ := keepD b25
      refine ⟨vacc, k3, by rw [← ra.length]; omega, rfl, hlt, F5, M5, acc ++ [y5], vacc ++ [yv], ?_, sm2.trans b25.sm, k1, k2, upd_same, (ra.same b25.sm).append (.cons r5 .nil), by rw [List.length_append]; show acc.length + 1 ≤ j + 1; omega, h5⟩
      have b05 := b2.trans b25
      have x : RM X.K F5 M5 (upd H5 D (.lst (vacc ++ [yv]))) := hid_app b05.rm k1 k2
      refine ⟨b05.sm, x, ⟨fun c u hc nc => ?_, b05.fr.grow, fun c hc => ?_⟩, b05.fg⟩
      · have hcD : c ≠ D := fun z => by
          subst z
          rcases b1.fr.there c (by rw [hc]; exact Option.some_ne_none _) with _
          exact absurd nD (b1.fr.there c (by rw [hc]; exact Option.some_ne_none _))
        rw [upd_ne hcD]
        exact b05.fr.keep c u hc nc
      · by_cases hcD : c = D
        · subst hcD; rw [upd_same]; exact Option.some_ne_none _
        · rw [upd_ne hcD]; exact b05.fr.there c hc
    · rename_i e
      rw [if_neg e] at h4
      obtain ⟨k1, k2, k3⟩ := keepD b24
      exact ⟨rfl, hlt, F4, M4, acc, vacc, b2.trans b24, sm2.trans b24.sm, k1, k2, k3, ra.same b24.sm, by omega, h4⟩
  · have e : j = xs.length := by omega
    subst e
    rw [List.drop_length] at h2
    refine .inl ⟨s2 (Nat.le_refl _), ?_⟩
    have sm : Same F2 (upd F2 D (.lst vacc)) := same_upd nF2
    refine ⟨upd F2 D (.lst vacc), M2, _, ⟨b2.sm.trans sm, ⟨fun c u hc => ?_, fun c hc => ?_, fun c mo hc => ?_⟩, b2.fr, fun c hc => ?_⟩, .lst upd_same (ra.same sm), h2⟩
    · by_cases hcD : c = D
      · subst hcD; rw [upd_same] at hc; cases hc; exact hD
      · rw [upd_ne hcD] at hc; exact b2.rm.fr c u hc
    · have hcD : c ≠ D := fun z => hc (by rw [z]; exact nM2)
      rw [upd_ne hcD]; exact b2.rm.dj c hc
    · obtain ⟨u, e1, e2⟩ := b2.rm.mu c mo hc
      exact ⟨u, e1, e2.same sm⟩
    · by_cases hcD : c = D
      · subst hcD
        right; right
        cases q : H c with
        | none => rfl
        | some u => exact absurd nD (b1.fr.there c (by rw [q]; exact Option.some_ne_none _))
      · rw [upd_ne hcD] at hc; exact b2.fg c hc
def TBlk (X : Cx) (scope : Scope) (ifs : List Expr) : TT := fun σ H Q => ∀ s0 H0 C cl fp pins s, Inv (Blk X scope s0 H0 C cl fp) pins σ H s →
  wpAny (model X.prog X.w) X.A (forIn ifs true fun c r => if r = true then do let ok ← isTrue c (Blk X scope s0 H0 C cl fp).env (eval c (Blk X scope s0 H0 C cl fp).env); pure (ForInStep.yield ok) else pure (ForInStep.yield r)) (TP (Blk X scope s0 H0 C cl fp) pins σ Q) (fun _ _ => False) s
def EBlk (X : Cx) (scope : Scope) (elt : Expr) : TE := fun σ H Q => ∀ s0 H0 C cl fp, WE (Blk X scope s0 H0 C cl fp) elt σ H Q
theorem TBlk.mono {σv H Q Q'} (h : TBlk X scope ifs σv H Q) (m : ∀ b H', Q b H' → Q' b H') : TBlk X scope ifs σv H Q' := fun s0 H0 C cl fp pins s I => thn (h s0 H0 C cl fp pins s I) fun b s' ⟨H', I', q⟩ => ⟨H', I', m b H' q⟩
theorem EBlk.mono {σv H Q Q'} (h : EBlk X scope elt σv H Q) (m : ∀ b H', Q b H' → Q' b H') : EBlk X scope elt σv H Q' := fun s0 H0 C cl fp => (h s0 H0 C cl fp).mono m
theorem lc_core' (hi : LI X tg iter wi) (hl : i < X.N.length)
    (ht : ∀ (s : Shared) (H : Hp) (C : Addr) (cl : List (Str × Addr)) (fp : List Addr), LTs (Blk X scope s H C cl fp) ifs tt)
    (he : ∀ (s : Shared) (H : Hp) (C : Addr) (cl : List (Str × Addr)) (fp : List Addr), LE (Blk X scope s H C cl fp) elt te)
    {σv : L2.St} {H : Hp} {σ : PSt} {F : Hp} {M : Mem} {Q : PQ} {E : PXK} (tk : PTk X F M H E) (rm : RM X.K F M H) (rs : RS X.K F σ σv) (h : pLc wi i tt te E σ M Q) : tLc (WI X tg iter) (gName i) (TBlk X scope ifs) (EBlk X scope elt) [i] σv H (LQ X.K F M H Q) := by
  refine (hi.run σv H σ F M _ E tk rm rs h).mono ?_
  rintro J H1 ⟨F1, M1, xs, b1, st, hz, h1⟩
  intro D nD
  exact lc_turns (te := te) (tt := tt) (te' := EBlk X scope elt) (tt' := TBlk X scope ifs) hl (fun σv H σ F M Q rm rs h s0 H0 C cl fp pins s I => (ht s0 H0 C cl fp).run σv H σ F M Q rm rs h pins s I)
    (fun σv H σ F M Q rm rs h s0 H0 C cl fp => (he s0 H0 C cl fp).run σv H σ F M Q noX PTk.no rm rs h)
    (fun σv H Q Q' h m => TBlk.mono h m) (fun σv H Q Q' h m => EBlk.mono h m) b1 rs st hz h1 nD
/-- [elt for x in iter if ..] -/
theorem LE.lc (hc : X.calm = true) (hN : X.N.Nodup) (hi : LI X (.Name x pt) iter wi) (ok : BlkOk X.N X.env.scope scope [(x, i)])
    (hg : ∀ (s : Shared) (H : Hp) (C : Addr) (cl : List (Str × Addr)) (fp : List Addr), PG (Blk X scope s H C cl fp) (.Name x pt) (gName i))
    (ht : ∀ (s : Shared) (H : Hp) (C : Addr) (cl : List (Str × Addr)) (fp : List Addr), LTs (Blk X scope s H C cl fp) ifs tt)
    (he : ∀ (s : Shared) (H : Hp) (C : Addr) (cl : List (Str × Addr)) (fp : List Addr), LE (Blk X scope s H C cl fp) elt te)
    (hs : ∀ v, foldedSetIterable iter X.env v = pure v := by intro _; rfl) : LE X (.ListComp elt [⟨.Name x pt, iter, ifs, 0⟩] scope pos) (pLc wi i tt te) := by
  refine ⟨fun σv H σ F M Q E tk rm rs h => ?_⟩
  refine WE.of (pe_lc (own := [(x, i)]) (g := gName i) (tt := TBlk X scope ifs) (te := EBlk X scope elt) hc hN WI.pi ok hg (fun s0 H0 C cl fp => ⟨fun pins s σ H Q I hh => hh s0 H0 C cl fp pins s I⟩) (fun s0 H0 C cl fp => ⟨fun pins s σ H Q I hh => hh s0 H0 C cl fp pins s I⟩) hs) ?_
  exact lc_core' hi (List.getElem?_eq_some_iff.mp (ok.ix (x, i) (by simp))).1 ht he tk rm rs h
/-- y = [elt for x in iter if ..] on one row -/
theorem LS.setLc (k : Nat) {y : Str} {py spos : Pos} (hc : X.calm = true) (hN : X.N.Nodup) (hy : X.N[k]? = some y) (hyl : X.env.scope.names.lookup y = some .local)
    (hsw : swapsWith (.ListComp elt [⟨.Name x pt, iter, ifs, 0⟩] scope pos) (some (.Name y py)) spos.line X.env = pure true) (hi : LI X (.Name x pt) iter wi) (ok : BlkOk X.N X.env.scope scope [(x, i)])
    (hg : ∀ (s : Shared) (H : Hp) (C : Addr) (cl : List (Str × Addr)) (fp : List Addr), PG (Blk X scope s H C cl fp) (.Name x pt) (gName i))
    (ht : ∀ (s : Shared) (H : Hp) (C : Addr) (cl : List (Str × Addr)) (fp : List Addr), LTs (Blk X scope s H C cl fp) ifs tt)
    (he : ∀ (s : Shared) (H : Hp) (C : Addr) (cl : List (Str × Addr)) (fp : List Addr), LE (Blk X scope s H C cl fp) elt te)
    (hs : ∀ v, foldedSetIterable iter X.env v = pure v := by intro _; rfl) : LS X (.Assign [.Name y py] (.ListComp elt [⟨.Name x pt, iter, ifs, 0⟩] scope pos) spos) (pSet k (pLc wi i tt te)) := by
  refine ⟨fun σv H σ F M D tk rm rs h => ?_⟩
  refine WS.of (ps_setLc (own := [(x, i)]) (g := gName i) (tt := TBlk X scope ifs) (te := EBlk X scope elt) hc hN hy hyl hsw WI.pi ok hg (fun s0 H0 C cl fp => ⟨fun pins s σ H Q I hh => hh s0 H0 C cl fp pins s I⟩) (fun s0 H0 C cl fp => ⟨fun pins s σ H Q I hh => hh s0 H0 C cl fp pins s I⟩) hs) ?_
  have q := lc_core' (elt := elt) (ifs := ifs) (scope := scope) hi (List.getElem?_eq_some_iff.mp (ok.ix (x, i) (by simp))).1 ht he tk rm rs h
  have m : ∀ v H', LQ X.K F M H (fun x M1 => D.nx (σ.set k (some x)) M1) v H' → gName k v σv H' (LD X.K F M H D).nx := fun v H' ⟨F1, M1, y, b1, ry, hy⟩ => ⟨F1, M1, _, b1, (rs.same b1.sm).set k ry, hy⟩
  refine WI.mono q fun J H1 h1 => ?_
  intro D' nD
  obtain ⟨W, w0, w1⟩ := h1 D' nD
  refine ⟨W, w0, fun j m' H' w => ?_⟩
  rcases w1 j m' H' w with ⟨s1, s2⟩ | s
  · exact .inl ⟨s1, m _ _ s2⟩
  · exact .inr s
end

/-! ### a def keeps its promise -/
section
variable {P : Program} {w : World} {K : PySem.W.Frag} {mg : Str → Option Value} {base : Heap}
theorem Fn.ok {x qual : Str} {st : Stmt} {f : Addr} {fd : FuncData} {N ps : List Str} {k n : Nat} {sp : PSp} (F : Fun K x qual st f fd) (S : FnScope N ps (defScope st)) (hn : N.length = n)
    (body : ∀ (cdv : Value) (A : Around) (outer : List Env) (s : Shared) (H : Hp) (E : XK), Room k (A.deeper (envOfC qual (defScope st) s.heap.objs.size f cdv)) →
      ∃ t, LSs (cxOf (L2.CX P w) P w K mg base N qual (defScope st) f cdv A outer s H E) (defBody st) t ∧ ∀ xs M Q Ep, xs.length = ps.length → sp xs M Q Ep → t { nx := fun _ M' => Q .non M', rt := Q, ex := Ep } (pstart n xs) M) :
    FnOk P w K mg base (L2.CX P w) (k + 1) f fd ps (lift K ps.length sp) := by
  refine F.okX S (fun vs H Q E h => h.1) (fun cdv A outer s H vs Q E hr h => ?_)
  obtain ⟨t, ht, hb⟩ := body cdv A outer s H E hr
  obtain ⟨hl, F0, M, xs, Qp, Ep, rm, rx, h1, k1, k2⟩ := h
  refine ⟨_, WSs.ps, ?_⟩
  have rs : RS K F0 (pstart n xs) (L2.start N vs) := hn ▸ RS.start rx
  have tk : PTk (cxOf (L2.CX P w) P w K mg base N qual (defScope st) f cdv A outer s H E) F0 M H Ep :=
    (takes_of (X := cxOf (L2.CX P w) P w K mg base N qual (defScope st) f cdv A outer s H E) rfl rfl rfl rfl).imp fun c d _ H' q => k2 c d H' q
  refine (ht.run (L2.start N vs) H (pstart n xs) F0 M { nx := fun _ M' => Qp .non M', rt := Qp, ex := Ep } tk rm rs (hb xs M Qp Ep (by rw [rx.length, hl]) h1)).mono ⟨?_, fun v H' q => k1 v H' q, fun _ _ ⟨_, _, _, _, _, z⟩ => z.elim, fun _ _ ⟨_, _, _, _, _, z⟩ => z.elim⟩
  rintro σ' H' ⟨F1, M1, σ1, b1, rs1, q1⟩
  exact k1 .non H' ⟨F1, M1, .non, b1, .non, q1⟩
end
end PL
set_option Elab.async false
set_option linter.all false
set_option maxRecDepth 100000
namespace PL
open PySem PySem.Spec PyProof.Rows L2

/-! ### all(..), any(..) of a list of bools -/
def blsOf : List PV → Option (List Bool)
  | [] => some []
  | .bl b :: r => (blsOf r).map (b :: ·)
  | _ => none
def intsOf : List PV → Option (List Int)
  | [] => some []
  | .int i :: r => (intsOf r).map (i :: ·)
  | _ => none
theorem blsOf_map : ∀ bs : List Bool, blsOf (bs.map PV.bl) = some bs
  | [] => rfl
  | b :: r => by
    show (blsOf (r.map PV.bl)).map (b :: ·) = _
    rw [blsOf_map r]
    rfl
theorem intsOf_map : ∀ bs : List Int, intsOf (bs.map PV.int) = some bs
  | [] => rfl
  | b :: r => by
    show (intsOf (r.map PV.int)).map (b :: ·) = _
    rw [intsOf_map r]
    rfl
theorem blsOf_eq : ∀ {xs : List PV} {bs : List Bool}, blsOf xs = some bs → xs = bs.map PV.bl
  | [], bs, h => by cases h; rfl
  | .bl b :: r, bs, h => by
    cases hr : blsOf r with
    | none =>
      have h' : (blsOf r).map (b :: ·) = some bs := h
      rw [hr] at h'; cases h'
    | some cs =>
      have h' : (blsOf r).map (b :: ·) = some bs := h
      rw [hr] at h'; cases h'
      rw [blsOf_eq hr]; rfl
theorem intsOf_eq : ∀ {xs : List PV} {bs : List Int}, intsOf xs = some bs → xs = bs.map PV.int
  | [], bs, h => by cases h; rfl
  | .int b :: r, bs, h => by
    cases hr : intsOf r with
    | none =>
      have h' : (intsOf r).map (b :: ·) = some bs := h
      rw [hr] at h'; cases h'
    | some cs =>
      have h' : (intsOf r).map (b :: ·) = some bs := h
      rw [hr] at h'; cases h'
      rw [intsOf_eq hr]; rfl
theorem RAll.bls {K : PySem.W.Frag} {F : Hp} : ∀ {bs : List Bool} {vs : List V}, RAll K F (bs.map PV.bl) vs → vs = bs.map V.bl
  | [], _, .nil => rfl
  | b :: r, _, .cons (.bl _) t => by rw [RAll.bls t]; rfl
theorem RAll.intsI {K : PySem.W.Frag} {F : Hp} : ∀ {bs : List Int} {vs : List V}, RAll K F (bs.map PV.int) vs → vs = bs.map V.int
  | [], _, .nil => rfl
  | b :: r, _, .cons (.int _) t => by rw [RAll.intsI t]; rfl
def kAll (x : PV) (M : Mem) (Q : PQ) : Prop := need (lstOf M x) fun xs => need (blsOf xs) fun bs => Q (.bl (bs.all id)) M
def kAny (x : PV) (M : Mem) (Q : PQ) : Prop := need (lstOf M x) fun xs => need (blsOf xs) fun bs => Q (.bl (bs.any id)) M
section
variable {X : Cx} {a b c e : Expr} {ta tb tc te : PTE} {pos p p2 pos2 : Pos} {es : List Expr} {t : PTA} {x : Str}
theorem LE.all (hc : X.calm = true) (hg : Gl X "all") (hm : X.mg "all" = none) (ha : LA X [e] t) (he : starEach [e] X.env = (false, eval e X.env) :: starEach [] X.env := by rfl) : LE X (.Call (.Name "all" p) [e] [] pos) (pCallB (on1 kAll) t) := by
  refine LE.callB (cr_all hc) (fun F M H xs vs Q Qv rm rx h k => ?_) hg hm (by decide +kernel) ha (he := he)
  obtain ⟨x, ex, h1⟩ := on1_of h
  subst ex
  obtain ⟨v, ev, rx1⟩ := rx.one
  subst ev
  obtain ⟨ys, e1, h2⟩ := need_of h1
  obtain ⟨bs, e2, h3⟩ := need_of h2
  obtain ⟨q, ws, ev, hs, ra⟩ := rx1.lstI rm e1
  subst ev
  rw [blsOf_eq e2] at ra
  rw [ra.bls] at hs
  exact ⟨q, bs, rfl, hs, k _ _ (LQ.now rm (.bl _) h3)⟩
theorem LE.any (hc : X.calm = true) (hg : Gl X "any") (hm : X.mg "any" = none) (ha : LA X [e] t) (he : starEach [e] X.env = (false, eval e X.env) :: starEach [] X.env := by rfl) : LE X (.Call (.Name "any" p) [e] [] pos) (pCallB (on1 kAny) t) := by
  refine LE.callB (cr_any hc) (fun F M H xs vs Q Qv rm rx h k => ?_) hg hm (by decide +kernel) ha (he := he)
  obtain ⟨x, ex, h1⟩ := on1_of h
  subst ex
  obtain ⟨v, ev, rx1⟩ := rx.one
  subst ev
  obtain ⟨ys, e1, h2⟩ := need_of h1
  obtain ⟨bs, e2, h3⟩ := need_of h2
  obtain ⟨q, ws, ev, hs, ra⟩ := rx1.lstI rm e1
  subst ev
  rw [blsOf_eq e2] at ra
  rw [ra.bls] at hs
  exact ⟨q, bs, rfl, hs, k _ _ (LQ.now rm (.bl _) h3)⟩
end

/-! ### max(t) of a tuple of ints -/
section
variable {prog : Program} {w : World} {A : Around} {E : Value → Shared → Prop} {s : Shared} {l : Addr}
theorem max_tupRaw {its : List Value} {ns : List Int} {Q : Value → Shared → Prop} (hh : A.handled = none) (hl : s.heap.IsTuple l its.toArray) (hi : IntsAre its ns) (hne : 0 < ns.length)
    (h : ∀ h' tk m t', (∀ b o, s.heap.get? b = some o → h'.get? b = some o) → m ∈ ns → (∀ a, a ∈ ns → a ≤ m) → Q (.int m t') { s with heap := h', toks := tk }) : wpAny (model prog w) A (call (.builtin "max") [.ref l]) Q E s := by
  obtain ⟨xs, e⟩ := hi.allInts.items
  have hn : numsOf (intItems xs).toList = ns := by rw [← e]; exact hi.numsOf
  rw [nums_intItems] at hn
  subst hn
  rw [e] at hl
  have hsz : 0 < xs.size := by simpa using hne
  have hlt : l < s.heap.objs.size := by
    obtain ⟨_, q, _⟩ := hl
    exact Heap.lt_size q
  have push1 : ∀ b o, s.heap.get? b = some o → (s.heap.push { cls := .type "tuple_iterator", data := .fields #[.ref l, .int 0 0] }).get? b = some o := fun b o q => Heap.get?_push_of_some _ q
  refine call_max_walk (wpAny_pyIter_tuple hl ?_)
  refine ⟨_, _, _, _, _, _, _, rfl, Walks.tuple (A := A.in1) hh _ l (Nat.ne_of_lt hlt) (intItems xs), ⟨⟨_, Heap.get?_push_size _ rfl, rfl, rfl⟩, hl.push _⟩, fun b hb => ?_, by simpa [intItems] using hsz, CmpOf.ints_gt (numAt xs) (fun _ _ => intItems_at), fun v h' tk hP hk => ?_⟩
  · show b < (s.heap.push _).objs.size
    rw [Heap.size_push]
    have hb2 : b = s.heap.objs.size ∨ b = l := by simpa using hb
    rcases hb2 with e1 | e1
    · rw [e1]; exact Nat.lt_succ_self _
    · rw [e1]; exact Nat.lt_succ_of_lt hlt
  · obtain ⟨t, rfl⟩ := intItems_at (by simpa [intItems] using hP)
    obtain ⟨h1, h2⟩ := argBest_gt (numAt xs) (xs.size - 1)
    refine h h' tk _ t (fun b o q => hk b o (fun hm => ?_) (push1 b o q)) ?_ fun a ha => ?_
    · have : b = s.heap.objs.size := by simpa using hm
      exact absurd (this ▸ Heap.lt_size q) (Nat.lt_irrefl _)
    · rw [numAt_eq]; exact PySem.getD_mem (by rw [List.length_map, Array.length_toList]; exact Nat.lt_of_le_of_lt h1 (by omega))
    · obtain ⟨j, hj, rfl⟩ := mem_getD ha
      have hj' : j < xs.size := by simpa using hj
      rw [← numAt_eq]; exact h2 j (by omega)
end
def kMaxT (x : PV) (M : Mem) (Q : PQ) : Prop := need (tupF x) fun xs => need (intsOf xs) fun ns => 0 < ns.length ∧ ∀ m, m ∈ ns → (∀ y, y ∈ ns → y ≤ m) → Q (.int m) M
section
variable {X : Cx} {a b c e : Expr} {ta tb tc te : PTE} {pos p p2 pos2 : Pos} {es : List Expr} {t : PTA} {x : Str}
theorem cr_maxT (hc : X.calm = true) : CallR X (.builtin "max") (fun vs H Q => ∃ (a : Addr) (ns : List Int), vs = [V.ref a] ∧ SqT X.K H a (ns.map V.int) ∧ 0 < ns.length ∧ ∀ m, m ∈ ns → (∀ y, y ∈ ns → y ≤ m) → Q (.int m) H) := by
  rintro pins s σ H vs us Q I r ⟨a, ns, ev, hs, hne, q⟩
  subst ev
  obtain ⟨its, rv, hl, _⟩ := I.tuple hs
  rw [Vals.ref1 r]
  exact max_tupRaw (I.ok.hd hc) hl (intsAre_of rv) hne fun h' tk m t' hk h1 h2 => ⟨.int _, H, I.kept hk, ⟨_, rfl⟩, q m h1 h2⟩
theorem LE.maxT (hc : X.calm = true) (hg : Gl X "max") (hm : X.mg "max" = none) (ha : LA X [e] t) (he : starEach [e] X.env = (false, eval e X.env) :: starEach [] X.env := by rfl) : LE X (.Call (.Name "max" p) [e] [] pos) (pCallB (on1 kMaxT) t) := by
  refine LE.callB (cr_maxT hc) (fun F M H xs vs Q Qv rm rx h k => ?_) hg hm (by decide +kernel) ha (he := he)
  obtain ⟨x, ex, h1⟩ := on1_of h
  subst ex
  obtain ⟨v, ev, rx1⟩ := rx.one
  subst ev
  obtain ⟨ys, e1, h2⟩ := need_of h1
  obtain ⟨ns, e2, h3, h4⟩ := need_of h2
  cases rx1 with
  | tup q ra =>
    cases e1
    rw [intsOf_eq e2] at ra
    have hs := sqT_same rm.fr q
    rw [ra.intsI] at hs
    exact ⟨_, ns, rfl, hs, h3, fun m h5 h6 => k _ _ (LQ.now rm (.int _) (h4 m h5 h6))⟩
  | _ => cases e1
end
/-! ### tuple(reversed(x)) -/
theorem nolen_rt : typeLookup (.type "reversed") "__len__" = pure none := by
  rw [typeLookup_type, builtinLookup_eq_fast]
  kernel_rfl
theorem hint_rt : typeLookup (.type "reversed") "__length_hint__" = pure (some (.builtin "reversed.__length_hint__")) := by
  rw [typeLookup_type, builtinLookup_eq_fast]
  kernel_rfl
section
open RT
variable {prog : Program} {w : World} {A : Around} {E : Value → Shared → Prop} {s : Shared}
/-- reversed(t) of a tuple as a walk -/
theorem walks_rt (hh : A.handled = none) (it l : Addr) (hne : l ≠ it) (items : Array Value) (hsz : items.size ≤ sizeLine) :
    Walks prog w A it [it, l] [it] items.size (fun i v => items[items.size - 1 - i]? = some v) (fun i h => i ≤ items.size ∧ IsRt h it l ((items.size : Int) - 1 - (i : Nat)) ∧ IsTup h l items) where
  sub := fun b hb => by simp at hb; simp [hb]
  frame := fun i h h' st hk => ⟨st.1, st.2.1.at fun o e => hk it (by simp) o e, (show Heap.IsTuple h l items from st.2.2).at fun o e => hk l (by simp) o e⟩
  item := fun i s Q E hi st hQ => by
    have e : ((items.size : Int) - 1 - (i : Nat)) = ((items.size - 1 - i : Nat) : Int) := by omega
    have hit := st.2.1
    rw [e] at hit
    have hj : items.size - 1 - i < items.size := by omega
    refine next_rt_item hit st.2.2 (Array.getElem?_eq_getElem hj) hsz fun h' hit' sb => ?_
    refine hQ _ h' (s.toks + 1) (Array.getElem?_eq_getElem hj) ⟨hi, ?_, (show Heap.IsTuple s.heap l items from st.2.2).at fun o e => (sb.2 l hne).trans e⟩ fun b o hb e => (sb.2 b (fun z => hb (by simp [z]))).trans e
    have e2 : ((items.size - 1 - i : Nat) : Int) - 1 = (items.size : Int) - 1 - ((i + 1 : Nat) : Int) := by omega
    rw [← e2]
    exact hit'
  done := fun s Q E st hQ => by
    have e : ((items.size : Int) - 1 - (items.size : Nat)) = -1 := by omega
    have hit := st.2.1
    rw [e] at hit
    exact next_rt_end hh hit fun h' eb => hQ h' s.toks fun b o hb e => eb b o (fun z => hb (by simp [z])) e
  self := fun i s Q E st hQ => iter_rt st.2.1 hQ
end
end PL
set_option Elab.async false
set_option linter.all false
set_option maxRecDepth 100000
set_option maxHeartbeats 1000000
namespace PL
open PySem PySem.Spec PyProof.Rows L2 RT
theorem slot_rt_hint : Slot "reversed" "__length_hint__" "reversed.__length_hint__" := by
  refine .of (owner := "reversed") (n := "__length_hint__") ?_ ?_ ?_ ?_ ?_ ?_
  · rw [typeLookup_type, builtinLookup_eq_fast]
    kernel_rfl
  · decide +kernel
  · decide +kernel
  · decide +kernel
  · first
      | exact .inl (by decide +kernel)
      | exact .inr (by decide +kernel)
  · rw [isSubtype_type]
    kernel_rfl
theorem entry_rt_hint : entryFor table "reversed.__length_hint__" = some Builtin.«reversed.__length_hint__» := entryFor_of_tree (by kernel_rfl)
theorem args_rt_hint (a : Value) : argsOk "reversed.__length_hint__" ⟨[a], []⟩ := by
  unfold argsOk
  rw [signature?_of (id := "reversed.__length_hint__") (n := "__length_hint__".toList.reverse) (o := "reversed".toList.reverse) (by kernel_rfl) owner_rt]
  kernel_rfl
theorem bind_rt_hint (self : Value) : bindSpecial (.builtin "reversed.__length_hint__") self = pure (.builtin "reversed.__length_hint__", [self]) := by
  kernel_rfl
section
variable {prog : Program} {w : World} {A : Around} {E : Value → Shared → Prop} {s : Shared}
theorem call_rt_hint {it t : Addr} {items : Array Value} {Q : Value → Shared → Prop} (hit : IsRt s.heap it t ((items.size : Int) - 1)) (ht : IsTup s.heap t items) (hsz : items.size ≤ sizeLine)
    (hQ : ∀ k, Q (.int items.size k) { s with toks := k + 1 }) : wpAny (model prog w) A (call (.builtin "reversed.__length_hint__") [.ref it]) Q E s := by
  obtain ⟨o, ho, hc, hd⟩ := id hit
  refine wpAny_call_entry slot_rt_hint hit.typeIs entry_rt_hint ?_ (args_rt_hint _)
  unfold Builtin.«reversed.__length_hint__»
  refine wpAny_bind (wpAny_of_eq (a := Value.ref it) rfl ?_)
  refine wpAny_bind (wpAny_field ho hd (x := .ref t) rfl ?_)
  rw [if_neg (by exact Bool.false_ne_true)]
  refine wpAny_bind (len_tuple ht (by have := line63; omega) ?_)
  refine wpAny_bind (wpAny_of_eq (a := some (items.size : Int)) rfl ?_)
  refine wpAny_bind (wpAny_field (s := { s with toks := s.toks + 1 + 1 }) ho hd (x := rawInt ((items.size : Int) - 1)) rfl ?_)
  show wpAny _ _ (if (items.size : Int) < (items.size : Int) - 1 + 1 then _ else _) _ _ _
  rw [if_neg (by omega)]
  refine wpAny_bind (wpAny_mkInt (wpAny_pure ⟨_, rfl, ?_⟩))
  have e : (items.size : Int) - 1 + 1 = items.size := by omega
  rw [e]
  exact hQ (s.toks + 1 + 1)
theorem nolen_rt' : typeLookup (.type "reversed") "__len__" = pure none := by
  rw [typeLookup_type, builtinLookup_eq_fast]
  kernel_rfl
/-- all that reversed(t) hands out, in a list -/
theorem collect_rt {it l : Addr} {items : Array Value} {Q : List Value → Shared → Prop} (hh : A.handled = none) (hit : IsRt s.heap it l ((items.size : Int) - 1)) (hl : IsTup s.heap l items) (hne : l ≠ it) (hn : items.size ≤ sizeLine)
    (hQ : ∀ (h' : Heap) (tk : Nat) (acc : Array Value), (∀ b o, b ≠ it → s.heap.get? b = some o → h'.get? b = some o) → ItemsOf (fun i v => items[items.size - 1 - i]? = some v) acc items.size → Q acc.toList { s with heap := h', toks := tk }) :
    wpAny (model prog w) A (collect (.ref it)) Q E s := by
  have W := (walks_rt (prog := prog) (w := w) (A := A.in1) hh it l hne items hn).toS
  obtain ⟨oi, hoi, _⟩ := id hit
  obtain ⟨ol, hol, _⟩ := id hl
  have n1 : s.heap.objs.size ≠ it := fun z => absurd (z ▸ Heap.lt_size hoi) (Nat.lt_irrefl _)
  have n2 : s.heap.objs.size ≠ l := fun z => absurd (z ▸ Heap.lt_size hol) (Nat.lt_irrefl _)
  have n3 : s.heap.objs.size ∉ [it, l] := fun z => by
    rcases List.mem_cons.mp z with z | z
    · exact n1 z
    · exact n2 (List.mem_singleton.mp z)
  let h1 : Heap := s.heap.push { cls := .type "list", data := .seq ([] : List Value).toArray }
  have old : ∀ b o, s.heap.get? b = some o → h1.get? b = some o := fun b o e => Heap.get?_push_of_some _ e
  have hit1 : IsRt h1 it l ((items.size : Int) - 1) := hit.at fun o e => old _ _ e
  have hl1 : IsTup h1 l items := (show Heap.IsTuple s.heap l items from hl).at fun o e => old _ _ e
  have hS1 : h1.get? s.heap.objs.size = some { cls := .type "list", data := .seq ([] : List Value).toArray } := Heap.get?_push_size _ rfl
  have hT : ({ s with heap := h1 } : Shared).TypeIs (.ref it) "reversed" := IsRt.typeIs (s := { s with heap := h1 }) hit1
  unfold collect
  refine wpAny_bind (wpAny_runValue (codeAny_builtin F.entry_proto_collect ?_))
  rw [Around.under_plainId F.plain_proto_collect _]
  show wpAny _ A.in1 (newList [] >>= fun z => again (.builtin "list.__iadd__" ⟨[z, .ref it], []⟩)) _ _ s
  refine wpAny_bind (wpAny_newObj_type ?_)
  refine wpAny_pure ⟨plainId_quiet F.plain_list_iadd _, codeAny_builtin F.entry_list_iadd ?_⟩
  rw [Around.under_plainId F.plain_list_iadd _]
  have same : Builtin.List.listSameRef (.ref s.heap.objs.size) (.ref it) = false := by simp [Builtin.List.listSameRef, n1]
  show wpAny _ A.in1 (Builtin.List.listExtendWith (.ref s.heap.objs.size) (.ref it) (.ref s.heap.objs.size)) _ _ { s with heap := h1 }
  unfold Builtin.List.listExtendWith
  refine wpAny_bind (wpAny_typeOf hT ?_)
  rw [if_neg (by rw [same]; decide)]
  refine wpAny_bind (iter_rt (s := { s with heap := h1 }) hit1 ?_)
  refine wpAny_bind (wpAny_holding ?_)
  unfold Builtin.List.listLengthHint
  refine wpAny_bind (wpAny_specialOf hT nolen_rt' ?_)
  show wpAny _ A.in1 (specialOf (Value.ref it) (Str.ofString "__length_hint__") >>= _) _ _ _
  refine wpAny_bind (wpAny_specialOf hT hint_rt ?_)
  generalize hid : ("reversed.__length_hint__" : String) = id0
  wp_delta
  rw [show splitId id0 = some ("reversed", "__length_hint__") from by subst hid; decide +kernel]
  refine wpAny_bind (wpAny_isInstance (b := true) hT (by rw [isSubtype_type]; kernel_rfl) ?_)
  subst hid
  rw [if_neg (by decide)]
  dsimp only
  rw [if_neg (by decide +kernel)]
  refine wpAny_bind (wpAny_rule ?_)
  refine wpAny_bind (wpAny_of_eq (bind_rt_hint _) ?_)
  dsimp only
  refine wpAny_bind (wpAny_attempt ?_)
  refine call_rt_hint (s := { s with heap := h1 }) hit1 hl1 hn fun k => ?_
  have ea : ∀ (n : Int) (t : Tok), asInt? (Value.int n t) = pure (some n) := fun _ _ => rfl
  simp only [ea, pure_bind]
  have hz := hn
  rw [sizeLine_eq] at hz
  have f1 : Builtin.List.listFitsIndex (items.size : Int) = true := by
    unfold Builtin.List.listFitsIndex
    rw [Bool.and_eq_true]
    exact ⟨decide_eq_true (by omega), decide_eq_true (by omega)⟩
  have f2 : Builtin.List.listTooLong (items.size : Int).toNat = false := by
    unfold Builtin.List.listTooLong
    exact decide_eq_false (by rw [sizeLine_eq]; omega)
  rw [if_neg (by rw [f1]; decide), if_neg (by omega), if_neg (by rw [f2]; decide)]
  refine wpAny_pure ?_
  have e0 : ((items.size : Nat) : Int) - 1 - ((0 : Nat) : Int) = (items.size : Int) - 1 := by omega
  have fin : ∀ (R : Result → Shared → Prop) (h2 : Heap) (tk : Nat) (c : Nat), (∀ b o, b ≠ s.heap.objs.size → h1.get? b = some o → h2.get? b = some o) → h2.get? s.heap.objs.size = some { cls := .type "list", dict := none, data := .seq #[] c, slots := #[] } →
      (∀ (h' : Heap) (tk : Nat) (acc : Array Value) (c' : Nat), h'.get? s.heap.objs.size = some { cls := .type "list", dict := none, data := .seq acc c', slots := #[] } → (∀ b o, b ≠ it → s.heap.get? b = some o → h'.get? b = some o) → ItemsOf (fun i v => items[items.size - 1 - i]? = some v) acc items.size →
        R (.ok (.ret (.ref s.heap.objs.size))) { s with heap := h', toks := tk }) →
      codeAny (model prog w) A (.builtin "list.extend.loop" ⟨[.ref s.heap.objs.size, .ref it, .ref s.heap.objs.size], []⟩) R { s with heap := h2, toks := tk } := fun R h2 tk c k1 k2 hR => by
    refine codeAny_extend_loopS W hn s.heap.objs.size n3 _ items.size 0 _ _ _ rfl (Nat.zero_le _) ⟨Nat.zero_le _, ?_, ?_⟩ k2 (ItemsOf.nil _) fun s' acc' c' hm hS' hacc => ?_
    · rw [e0]
      exact hit1.at fun o e => k1 it o (Ne.symm n1) e
    · exact (show Heap.IsTuple h1 l items from hl1).at fun o e => k1 l o (Ne.symm n2) e
    · rw [Moved.eq_with hm]
      refine hR s'.heap s'.toks acc' c' hS' (fun b o hb e => hm.heap b o (fun hmem => ?_) (k1 b o (fun z => absurd (z ▸ Heap.lt_size e) (Nat.lt_irrefl _)) (old b o e))) hacc
      rcases List.mem_cons.mp hmem with z | z
      · exact absurd (z ▸ Heap.lt_size e) (Nat.lt_irrefl _)
      · exact hb (List.mem_singleton.mp z)
  have ret : ∀ (h' : Heap) (tk : Nat) (acc : Array Value) (c' : Nat), h'.get? s.heap.objs.size = some { cls := .type "list", dict := none, data := .seq acc c', slots := #[] } → (∀ b o, b ≠ it → s.heap.get? b = some o → h'.get? b = some o) → ItemsOf (fun i v => items[items.size - 1 - i]? = some v) acc items.size →
      wpAny (model prog w) A (do let o ← load s.heap.objs.size; match o.data with | .seq xs _ => pure xs.toList | _ => unsupported "internal:collect") Q E { s with heap := h', toks := tk } := fun h' tk acc c' hS' kk hacc => by
    refine wpAny_bind (wpAny_load hS' ?_)
    exact wpAny_pure (hQ h' tk acc kk hacc)
  by_cases hroom : items.size = 0
  · have r0 : ((items.size : Int) != 0) = false := by rw [hroom]; rfl
    rw [if_neg (by rw [r0]; decide +kernel)]
    exact wpAny_pure ⟨plainId_quiet F.plain_extend_loop _, fin _ h1 _ _ (fun _ _ _ e => e) hS1 fun h' tk acc c' a b d => ret h' tk acc c' a b d⟩
  · have r0 : ((items.size : Int) != 0) = true := by
      rw [bne_iff_ne]
      omega
    rw [if_pos (by rw [r0, Bool.true_or])]
    refine wpAny_bind (wpAny_rule ?_)
    refine wpAny_bind ?_
    show wpAny _ A.in1 (updateSeq s.heap.objs.size (·.push .none) >>= fun _ => updateSeq s.heap.objs.size (·.pop)) _ _ _
    refine wpAny_bind (wpAny_updateSeq hS1 rfl ?_ (by show 0 ≤ sizeLine; exact Nat.zero_le _) (by show 1 ≤ sizeLine + 1; rw [sizeLine_eq]; decide))
    have hS2 := Heap.get?_update_self (Obj.mapSeq (·.push Value.none)) hS1 rfl
    refine wpAny_updateSeq hS2 rfl ?_ (by show 1 ≤ sizeLine; rw [sizeLine_eq]; decide) (by show 0 ≤ sizeLine + 1; exact Nat.zero_le _)
    have hS3 := Heap.get?_update_self (Obj.mapSeq (·.pop)) hS2 rfl
    refine wpAny_pure ⟨plainId_quiet F.plain_extend_loop _, fin _ _ _ _ (fun b o hb e => ?_) hS3 fun h' tk acc c' a b d => ret h' tk acc c' a b d⟩
    exact (Heap.get?_update_other _ _ (Ne.symm hb)).trans ((Heap.get?_update_other _ _ (Ne.symm hb)).trans e)
theorem call_tuple_rt {it l : Addr} {items : Array Value} {Q : Value → Shared → Prop} (hh : A.handled = none) (hit : IsRt s.heap it l ((items.size : Int) - 1)) (hl : IsTup s.heap l items) (hne : l ≠ it) (hn : items.size ≤ sizeLine)
    (hQ : ∀ (h' : Heap) (tk : Nat) (acc : Array Value), (∀ b o, b ≠ it → s.heap.get? b = some o → h'.get? b = some o) → ItemsOf (fun i v => items[items.size - 1 - i]? = some v) acc items.size →
      Q (.ref h'.objs.size) { s with heap := h'.push { cls := .type "tuple", data := .seq acc }, toks := tk }) : wpAny (model prog w) A (call (.type "tuple") [.ref it]) Q E s := by
  have made : codeAny (model prog w) A.in1 (.call (.builtin "tuple.__new__") ⟨[.type "tuple", .ref it], []⟩) (wants (fun obj s₁ => s₁.TypeIs obj "tuple" ∧ Q obj s₁) E) s := by
    refine codeAny_of_tree ?_
    show wpAny _ A.in1.in1 (checkBuiltinCall "tuple.__new__" ⟨[.type "tuple", .ref it], []⟩ >>= fun _ => again (.builtin "tuple.__new__" ⟨[.type "tuple", .ref it], []⟩)) _ _ s
    refine wpAny_bind (wpAny_of_eq (F.newCall_tuple_1 _) (wpAny_pure ⟨plainId_quiet F.plain_tuple_new _, codeAny_builtin F.entry_tuple_new ?_⟩))
    rw [Around.under_plainId F.plain_tuple_new _]
    have hsub := sub_tuple_self
    have hinit := init_tuple_lookup
    have hmh := madeHere_tuple
    have hTI : s.TypeIs (.ref it) "reversed" := hit.typeIs
    have hh1 : A.in1.in1.handled = none := hh
    wp_walk using wpAny_typeOf hTI, collect_rt (A := A.in1.in1) hh1 hit hl hne hn
    intro h' tk acc hk hacc
    show wpAny _ _ (Builtin.Tuple.tupleExact acc.toList.toArray >>= fun v => ret v) _ _ _
    unfold Builtin.Tuple.tupleExact
    refine wpAny_bind (wpAny_newObj_type ?_ (by show acc.toList.toArray.size ≤ sizeLine; simp only [Array.toArray_toList]; rw [hacc.1]; exact hn))
    refine wpAny_pure ?_
    have e : acc.toList.toArray = acc := by simp
    rw [e]
    exact ⟨⟨_, Heap.get?_push_size _ rfl, rfl⟩, hQ h' tk acc hk hacc⟩
  refine callType_codes F.called_tuple (F.typeCall_tuple_1 _) F.entry_object_init made fun obj s₁ h₁ => ?_
  exact ⟨h₁.1, F.args_object_init_2 obj _, object_init_meets F.called_tuple.init.lookup F.called_tuple.made (by decide) prog w A.in1 _ s₁ ⟨h₁.1, rfl, h₁.2⟩⟩
end

section
variable {X : Cx} {a b c e : Expr} {ta tb tc te : PTE} {pos p p2 pos2 : Pos} {es : List Expr} {t : PTA} {x : Str}
/-- tuple(reversed(x)) of a tuple or a list -/
theorem pe_tupRevA {te : TE} (hc : X.calm = true) (hg : Gl X "tuple") (hm : X.mg "tuple" = none) (hg2 : Gl X "reversed") (hm2 : X.mg "reversed" = none) (he : PE X e te) (hs : starEach [e] X.env = (false, eval e X.env) :: starEach [] X.env := by rfl)
    (hs2 : starEach [.Call (.Name "reversed" p2) [e] [] pos2] X.env = (false, eval (.Call (.Name "reversed" p2) [e] [] pos2) X.env) :: starEach [] X.env := by rfl) :
    PE X (.Call (.Name "tuple" p) [.Call (.Name "reversed" p2) [e] [] pos2] [] pos) (fun σ H Q => te σ H fun v H1 => ∃ (a : Addr) (xs : List V), v = .ref a ∧ SqT X.K H1 a xs ∧ ∀ q, H1 q = none → Q (.ref q) (upd H1 q (.tup xs.reverse))) := by
  refine ⟨fun pins s σ H Q I h => ?_⟩
  refine Call_ (ld_blt I hg hm boot_tuple (callWith_type1 (args_cons (Call_ (ld_blt I hg2 hm2 PyProof.Rows.boot_reversed (callWith_type1 (args_cons (thn (he.run pins s σ H _ I h) fun u s1 ⟨v, H1, I1, r1, q1⟩ => args_nil ?_) hs) hs rfl))) hs2) hs2 rfl))
  obtain ⟨a, xs, ev, hq, q⟩ := q1
  subst ev
  obtain rfl : u = Value.ref a := r1
  obtain ⟨its, rv, p', hz⟩ := I1.tuple hq
  have hsz : its.toArray.size ≤ sizeLine := by rw [List.size_toArray, ← rv.length]; exact hz
  refine call_reversed_tup p' (fun A E Q k => len_tuple p' (by have := line63; omega) k) (args_nil ?_)
  have na : a ≠ s1.heap.objs.size := by
    obtain ⟨ol, hol, _⟩ := id p'
    exact Nat.ne_of_lt (Heap.lt_size hol)
  obtain ⟨f0, f1, f2, f3, f4, f5⟩ := I1.fpOk (H' := H1) (b := s1.heap.objs.size) (Nat.le_refl _) (I1.hok.fresh (Nat.le_refl _))
  have I2 := I1.kept (h' := s1.heap.push (rtObj a ((its.toArray.size : Int) - 1))) (t' := s1.toks + 1 + 1) fun b o e => Heap.get?_push_of_some _ e
  refine call_tuple_rt (s := { s1 with heap := s1.heap.push (rtObj a ((its.toArray.size : Int) - 1)), toks := s1.toks + 1 + 1 }) (I1.ok.hd hc) ⟨_, Heap.get?_push_size _ rfl, rfl, rfl⟩ ((show Heap.IsTuple s1.heap a its.toArray from p').push _) na hsz fun h' tk acc hk hi => ?_
  have I3 : Inv X pins σ H1 { s1 with heap := h', toks := tk } := I2.turned (t' := tk) (fun b o hb e => hk b o hb e) f0 f1 f3 f4 f5
  have ok : ObjOk X.prog X.w (upd H1 h'.objs.size (.tup xs.reverse)) (h'.push { cls := .type "tuple", data := .seq acc }) h'.objs.size (.tup xs.reverse) := by
    refine ⟨by rw [List.length_reverse]; exact hz, acc.toList, vals_rev rv hi, ?_⟩
    rw [Array.toArray_toList]
    exact IsTup.new _ _
  exact ⟨.ref h'.objs.size, _, I3.laid (t' := tk) (fun c o e => Heap.get?_push_of_some _ e) (Nat.le_refl _) ok, rfl, q _ (I3.hok.fresh (Nat.le_refl _))⟩
def pTupRev (te : PTE) : PTE := fun E σ M Q => te E σ M fun x M1 => need (tupF x) fun xs => Q (.tup xs.reverse) M1
theorem LE.tupRev (hc : X.calm = true) (hg : Gl X "tuple") (hm : X.mg "tuple" = none) (hg2 : Gl X "reversed") (hm2 : X.mg "reversed" = none) (he : LE X e te) (hs : starEach [e] X.env = (false, eval e X.env) :: starEach [] X.env := by rfl)
    (hs2 : starEach [.Call (.Name "reversed" p2) [e] [] pos2] X.env = (false, eval (.Call (.Name "reversed" p2) [e] [] pos2) X.env) :: starEach [] X.env := by rfl) :
    LE X (.Call (.Name "tuple" p) [.Call (.Name "reversed" p2) [e] [] pos2] [] pos) (pTupRev te) := by
  refine ⟨fun σv H σ F M Q E tk rm rs h => WE.of (pe_tupRevA hc hg hm hg2 hm2 WE.pe hs hs2) ?_⟩
  refine (he.run σv H σ F M _ E tk rm rs h).mono ?_
  rintro v H1 ⟨F1, M1, x, b1, rx, hx⟩
  obtain ⟨xs, e1, h2⟩ := need_of hx
  cases rx with
  | tup q r =>
    cases e1
    refine ⟨_, _, rfl, sqT_same b1.rm.fr q, fun z nz => ?_⟩
    exact ⟨_, M1, _, b1.trans (b1.rm.beh nz), .tup (SqT.of upd_same) (r.reverse.same (b1.rm.beh (o := .tup _) nz).sm), h2⟩
  | _ => cases e1
end
end PL
set_option Elab.async false
set_option linter.all false
set_option maxRecDepth 100000
namespace PL
open PySem PySem.Spec PyProof.Rows L2
/-- the store without what stands at these slots -/
def dropSlots (σ : PSt) : List Nat → Mem → Mem
  | [], M => M
  | j :: js, M => dropSlots σ js (match σ[j]? with | some (some (.ptr p)) => M.drop p | _ => M)
theorem behDrops {K : PySem.W.Frag} {F H : Hp} {σ : PSt} : ∀ (js : List Nat) {M : Mem}, RM K F M H → Beh K F M H F (dropSlots σ js M) H
  | [], M, r => Beh.refl r
  | j :: js, M, r => by
    unfold dropSlots
    split
    · exact (r.behDrop).trans (behDrops js r.behDrop.rm)
    · exact behDrops js r
section
variable {X : Cx} {e : Expr} {te : PTE} {pos : Pos}
def pRetD (js : List Nat) (te : PTE) : PTS := fun D σ M => te D.ex σ M fun x M1 => D.rt x (dropSlots σ js M1)
theorem LS.retD (js : List Nat) (he : LE X e te) : LS X (.Return (some e) pos) (pRetD js te) := by
  refine ⟨fun σv H σ F M D tk rm rs h => WS.of (ps_ret WE.pe) ?_⟩
  refine (he.run σv H σ F M _ D.ex tk rm rs h).mono ?_
  rintro v H1 ⟨F1, M1, x, b1, rx, hx⟩
  exact ⟨F1, _, x, b1.trans (behDrops js b1.rm), rx, hx⟩
def pRetFD (js : List Nat) (te : PTE) : PTS := fun D σ M => te D.ex σ M fun x M1 => kFz x M1 fun y M2 => D.rt y (dropSlots σ js M2)
theorem LS.retFD (js : List Nat) (he : LE X e te) : LS X (.Return (some e) pos) (pRetFD js te) := by
  refine ⟨fun σv H σ F M D tk rm rs h => WS.of (ps_ret WE.pe) ?_⟩
  refine (he.run σv H σ F M _ D.ex tk rm rs h).mono ?_
  rintro v H1 ⟨F1, M1, x, b1, rx, hx⟩
  obtain ⟨F2, M2, y, b2, ry, hy⟩ := rx.fz b1.rm hx
  exact ⟨F2, _, y, (b1.trans b2).trans (behDrops js b2.rm), ry, hy⟩
end
/-- a reading keeps a promise -/
def Keeps (t : PTS) (np n : Nat) (sp : PSp) : Prop := ∀ (xs : List PV) (M : Mem) (Q : PQ) (E : PXK), xs.length = np → sp xs M Q E → t { nx := fun _ M' => Q .non M', rt := Q, ex := E } (pstart n xs) M
end PL
set_option Elab.async false
set_option linter.all false
set_option maxRecDepth 100000
namespace PL
open PySem PySem.Spec PyProof.Rows L2
/-! ### a tuple times an int, of any sign -/
theorem tuple_mul0 (l : Addr) (items : Array Value) (n : Nat) (sl : Array (Option Value)) (dd : Option Addr) (x : Int) (u : Tok) (c0 : (decide (x < -(2 ^ 63)) || decide (x ≥ 2 ^ 63)) = false) (c1 : (items.isEmpty || x == 1) = false) (c2 : (decide (x ≤ 0) || items.isEmpty) = true) :
    Meets (Builtin.«tuple.__mul__» ⟨[.ref l, .int x u], []⟩) (fun _ R s => s.heap.get? l = some { cls := .type "tuple", dict := dd, data := .seq items n, slots := sl } ∧
      R (.ok (.ret (Value.ref s.heap.objs.size))) { s with heap := s.heap.push { cls := Value.type "tuple", data := Data.seq #[] }, toks := s.toks }) :=
  .of_wp fun prog w A R s h => by
    obtain ⟨hp, g, d, tk, os⟩ := s
    obtain ⟨hl, h⟩ := h
    have f1 := AutoSeq1.idx_int
    wp_walk using AutoSeq1.wpAny_loadPart' hl
    repeat (first
      | (refine wpAny_ite_false (decide_eq_false (by rw [c0]; exact Bool.false_ne_true)) ?_; wp_walk using AutoSeq1.wpAny_loadPart' hl)
      | (refine wpAny_ite_false (decide_eq_false (by rw [c1]; exact Bool.false_ne_true)) ?_; wp_walk using AutoSeq1.wpAny_loadPart' hl)
      | (refine wpAny_ite_true (decide_eq_true c2) ?_; wp_walk using AutoSeq1.wpAny_loadPart' hl))
    exact ⟨_, rfl, h⟩
theorem tuple_mul1 (l : Addr) (items : Array Value) (n : Nat) (sl : Array (Option Value)) (dd : Option Addr) (x : Int) (u : Tok) (c0 : (decide (x < -(2 ^ 63)) || decide (x ≥ 2 ^ 63)) = false) (c1 : (items.isEmpty || x == 1) = true) :
    Meets (Builtin.«tuple.__mul__» ⟨[.ref l, .int x u], []⟩) (fun _ R s => s.heap.get? l = some { cls := .type "tuple", dict := dd, data := .seq items n, slots := sl } ∧
      R (.ok (.ret (Value.ref l))) s) :=
  .of_wp fun prog w A R s h => by
    obtain ⟨hp, g, d, tk, os⟩ := s
    obtain ⟨hl, h⟩ := h
    have f1 := AutoSeq1.idx_int
    wp_walk using AutoSeq1.wpAny_loadPart' hl
    repeat (first
      | (refine wpAny_ite_false (decide_eq_false (by rw [c0]; exact Bool.false_ne_true)) ?_; wp_walk using AutoSeq1.wpAny_loadPart' hl)
      | (refine wpAny_ite_true (decide_eq_true c1) ?_; wp_walk using AutoSeq1.wpAny_loadPart' hl))
    exact ⟨_, rfl, h⟩
def rRepA (K : PySem.W.Frag) : R2 := fun x y H Q => ∃ l k xs, x = .ref l ∧ y = .int k ∧ SqT K H l xs ∧ -(2 ^ 62) ≤ k ∧ k ≤ 1000 ∧ xs.length ≤ 1000 ∧
  ((xs = [] ∨ k = 1) → Q (.ref l) H) ∧ (¬ (xs = [] ∨ k = 1) → ∀ p, H p = none → Q (.ref p) (upd H p (.tup (List.replicate k.toNat xs).flatten)))
section
variable {X : Cx} {a b : Expr} {ta tb : PTE} {pos : Pos}
theorem op_repA : OpR X (binaryOp .Mult) (rRepA X.K) := by
  rintro pins s σ H x y v u Q I rx ry ⟨l, k, xs, ex, ey, hT, hk1, hk2, hz, q1, q2⟩
  by_cases big : xs ≠ [] ∧ 2 ≤ k
  · exact op_repT pins s σ H x y v u Q I rx ry ⟨l, k, xs, ex, ey, hT, big.1, big.2, hk2, hz, q2 (fun z => z.elim big.1 (fun z => by omega))⟩
  · subst ex; subst ey
    cases rx
    obtain ⟨t, rfl⟩ := ry
    obtain ⟨its, r, ⟨⟨cls, dd, data, sl⟩, ho, hc, n, hd⟩, hs⟩ := I.tuple hT
    simp only at hc hd
    subst hc hd
    have hl := r.length
    have emp : its.toArray.isEmpty = decide (xs = []) := by
      cases xs with
      | nil =>
        cases its with
        | nil => rfl
        | cons a b => cases hl
      | cons x r =>
        cases its with
        | nil => cases hl
        | cons a b => rfl
    have c0 : (decide (k < -(2 ^ 63)) || decide (k ≥ 2 ^ 63)) = false := by
      rw [decide_eq_false (by omega), decide_eq_false (by omega)]
      rfl
    have hrm := int_rmul_tuple k t l its.toArray n dd sl
    have tT : s.TypeIs (.ref l) "tuple" := ⟨_, ho, rfl⟩
    by_cases same : xs = [] ∨ k = 1
    · have c1 : (its.toArray.isEmpty || k == 1) = true := by
        rw [emp, Bool.or_eq_true]
        rcases same with z | z
        · exact .inl (decide_eq_true z)
        · exact .inr (by rw [z]; rfl)
      refine wpAny_binaryOp_repeat_ref (T := "tuple") (U := "int") (by decide) tT (fun s' => typeIs_int s' k t) noFill_tuple_mul PySem.F.fills_int_mul PySem.F.slot_int_rmul repeat_tuple PySem.F.slot_int_index.lookup ?_
      refine call_meets PySem.F.slot_int_rmul (typeIs_int s k t) PySem.F.entry_int_rmul (PySem.F.args_int_rmul_2 _ _) hrm ⟨ho, rfl, tT, ?_⟩
      refine call_meets PySem.F.slot_tuple_mul tT PySem.F.entry_tuple_mul (PySem.F.args_tuple_mul_2 _ _) (tuple_mul1 l its.toArray n sl dd k t c0 c1) ⟨ho, ?_⟩
      exact ⟨.ref l, H, I, rfl, q1 same⟩
    · have nx : xs ≠ [] := fun z => same (.inl z)
      have nk : k ≠ 1 := fun z => same (.inr z)
      have kle : k ≤ 0 := by
        by_cases h2 : 2 ≤ k
        · exact absurd ⟨nx, h2⟩ big
        · omega
      have c1 : (its.toArray.isEmpty || k == 1) = false := by
        rw [emp, decide_eq_false nx, Bool.false_or]
        exact beq_eq_false_iff_ne.mpr nk
      have c2 : (decide (k ≤ 0) || its.toArray.isEmpty) = true := by rw [decide_eq_true kle, Bool.true_or]
      refine wpAny_binaryOp_repeat_ref (T := "tuple") (U := "int") (by decide) tT (fun s' => typeIs_int s' k t) noFill_tuple_mul PySem.F.fills_int_mul PySem.F.slot_int_rmul repeat_tuple PySem.F.slot_int_index.lookup ?_
      refine call_meets PySem.F.slot_int_rmul (typeIs_int s k t) PySem.F.entry_int_rmul (PySem.F.args_int_rmul_2 _ _) hrm ⟨ho, rfl, tT, ?_⟩
      refine call_meets PySem.F.slot_tuple_mul tT PySem.F.entry_tuple_mul (PySem.F.args_tuple_mul_2 _ _) (tuple_mul0 l its.toArray n sl dd k t c0 c1 c2) ⟨ho, ?_⟩
      have e0 : (List.replicate k.toNat xs).flatten = [] := by
        have : k.toNat = 0 := by omega
        rw [this]
        rfl
      have q := q2 same
      rw [e0] at q
      refine ⟨.ref s.heap.objs.size, _, I.laid (t' := s.toks) (o := .tup []) (fun b ob q => Heap.get?_push_of_some _ q) (Nat.le_refl _) ?_, rfl, q _ (I.hok.fresh (Nat.le_refl _))⟩
      exact ⟨Nat.zero_le _, [], .nil, IsTup.new _ _⟩
def oMulA : PO2 := fun x y M Q => match x, y with
  | .int i, .int j => CMul i j ∧ Q (.int (i * j)) M
  | .tup xs, .int k => (-(2 ^ 62) ≤ k ∧ k ≤ 1000 ∧ xs.length ≤ 1000) ∧ Q (.tup (List.replicate k.toNat xs).flatten) M
  | _, _ => False
theorem RAll.rep {K : PySem.W.Frag} {F : Hp} {xs : List PV} {vs : List V} (r : RAll K F xs vs) : ∀ n : Nat, RAll K F (List.replicate n xs).flatten (List.replicate n vs).flatten
  | 0 => .nil
  | n + 1 => by
    rw [List.replicate_succ, List.replicate_succ, List.flatten_cons, List.flatten_cons]
    exact r.append (RAll.rep r n)
theorem LE.mulA (ha : LE X a ta) (hb : LE X b tb) : LE X (.BinOp a .Mult b pos) (pBin oMulA ta tb) := by
  refine LE.bin (OpR.or op_mul op_repA) (fun F M H x y xv yv Q Qv rm rx ry h k => ?_) ha hb
  cases rx <;> cases ry <;> first
    | exact h.elim
    | exact .inl ⟨_, _, rfl, rfl, h.1, k _ _ (LQ.now rm (.int _) h.2)⟩
    | skip
  rename_i a' xs vs e q j
  refine .inr ⟨_, j, vs, rfl, rfl, sqT_same rm.fr e, h.1.1, h.1.2.1, by rw [← q.length]; exact h.1.2.2, fun z => ?_, fun z p np => ?_⟩
  · have e2 : (List.replicate j.toNat xs).flatten = xs := by
      rcases z with z | z
      · subst z
        have : xs = [] := List.eq_nil_of_length_eq_zero q.length
        rw [this]
        simp
      · subst z
        show (List.replicate 1 xs).flatten = xs
        simp
    have h2 := h.2
    rw [e2] at h2
    exact k _ _ (LQ.now rm (.tup e q) h2)
  · exact k _ _ ⟨_, M, _, rm.beh np, .tup (SqT.of upd_same) ((q.rep _).same (rm.beh (o := .tup _) np).sm), h.2⟩
end
end PL
set_option Elab.async false
set_option linter.all false
set_option maxRecDepth 100000
namespace PL
open PySem PySem.Spec PyProof.Rows L2
/-! ### for over a list that may change, but doesn't meanwhile -/
def pForG (G : Mem → Prop) (g : PTG) (tb : PTS) : List PV → PTS
  | [] => fun D σ M => D.nx σ M
  | x :: xs => fun D σ M => g x σ M fun σ1 M1 => tb { D with nx := fun σ M => G M ∧ pForG G g tb xs D σ M, bk := D.nx, ct := fun σ M => G M ∧ pForG G g tb xs D σ M } σ1 M1
def pForM (te : PTE) (g : PTG) (tb : PTS) : PTS := fun D σ M => te D.ex σ M fun x M1 => need (lstOf M1 x) fun xs => pForG (fun M => lstOf M x = some xs) g tb xs D σ M1
section
variable {X : Cx} {tg iter : Expr} {body : List Stmt} {te : PTE} {g : PTG} {tb : PTS} {pos : Pos}
theorem LS.forM (hp : PassesOwn (model X.prog X.w) X.A X.env X.xe) (hc : X.calm = true) (hi : LE X iter te) (hg : LG X tg g) (hb : LSs X body tb) (hs : ∀ x, foldedSetIterable iter X.env x = pure x := by intro _; rfl) : LS X (.For tg iter body [] pos) (pForM te g tb) := by
  refine ⟨fun σv H σ F M D tk rm rs h => WS.of (ps_for hp hc (pi_list WE.pe) WG.pg WSs.ps hs) ?_⟩
  refine (hi.run σv H σ F M _ D.ex tk rm rs h).mono ?_
  rintro v H1 ⟨F1, M1, x, b1, rx, h1⟩
  obtain ⟨xs, e1, h1⟩ := need_of h1
  obtain ⟨a, vs0, ev, hs0, ra0⟩ := rx.lstI b1.rm e1
  subst ev
  have len0 := ra0.length
  refine ⟨a, rfl, ⟨vs0, hs0⟩, fun i m σv' H' => m = xs.length - i ∧ i ≤ xs.length ∧ ∃ F' M' σ', Beh X.K F M H F' M' H' ∧ Same F1 F' ∧ RS X.K F' σ' σv' ∧ lstOf M' x = some xs ∧ pForG (fun M => lstOf M x = some xs) g tb (xs.drop i) D σ' M', ⟨xs.length, rfl, Nat.zero_le _, F1, M1, σ, b1, Same.refl _, rs.same b1.sm, e1, h1⟩, ?_⟩
  rintro i m σv2 H2 ⟨rfl, hi2, F2, M2, σ2, b2, sm2, rs2, e2, h2⟩
  obtain ⟨a2, vs, ev, hs2, ra⟩ := (rx.same sm2).lstI b2.rm e2
  cases ev
  by_cases hlt : i < xs.length
  · rw [List.drop_eq_getElem_cons hlt] at h2
    obtain ⟨w, ew, rw'⟩ := ra.get (List.getElem?_eq_getElem hlt)
    refine .inr ⟨⟨vs, w, hs2, ew⟩, _, fun σv' H' n => ⟨_, (show xs.length - (i + 1) < xs.length - i by omega), n⟩, fun v H3 y => ?_⟩
    obtain ⟨rfl, y⟩ := y
    have e3 := y vs hs2
    rw [ew] at e3
    cases e3
    refine (hg.run σv2 H3 σ2 F2 M2 _ w _ b2.rm rs2 rw' h2).mono ?_
    rintro σv4 H4 ⟨F4, M4, σ4, b4, rs4, h4⟩
    have b04 := b2.trans b4
    refine (hb.run σv4 H4 σ4 F4 M4 { D with nx := fun σ M => lstOf M x = some xs ∧ pForG (fun M => lstOf M x = some xs) g tb (xs.drop (i + 1)) D σ M, bk := D.nx, ct := fun σ M => lstOf M x = some xs ∧ pForG (fun M => lstOf M x = some xs) g tb (xs.drop (i + 1)) D σ M } (tk.tr b04) b04.rm rs4 h4).mono ⟨?_, fun _ _ q => q.tr b04, fun _ _ q => q.tr b04, ?_⟩
    · rintro σv5 H5 ⟨F5, M5, σ5, b5, rs5, g5, h5⟩
      exact ⟨rfl, hlt, F5, M5, σ5, b04.trans b5, (sm2.trans b4.sm).trans b5.sm, rs5, g5, h5⟩
    · rintro σv5 H5 ⟨F5, M5, σ5, b5, rs5, g5, h5⟩
      exact ⟨rfl, hlt, F5, M5, σ5, b04.trans b5, (sm2.trans b4.sm).trans b5.sm, rs5, g5, h5⟩
  · have e : i = xs.length := by omega
    subst e
    rw [List.drop_length] at h2
    exact .inl ⟨⟨vs, hs2, by rw [← ra.length]; exact Nat.le_refl _⟩, F2, M2, σ2, b2, rs2, h2⟩
end
end PL
set_option Elab.async false
set_option linter.all false
set_option maxRecDepth 100000
namespace PL
open PySem PySem.Spec PyProof.Rows L2
/-! ### how readings compute -/
theorem kit_ib : kitB "int" "bool" = some false := by decide +kernel
theorem kit_ii : kitB "int" "int" = some true := by decide +kernel
theorem kit_it : kitB "int" "tuple" = some false := by decide +kernel
theorem kit_il : kitB "int" "list" = some false := by decide +kernel
theorem kit_is : kitB "int" "str" = some false := by decide +kernel
theorem kit_bb : kitB "bool" "bool" = some true := by decide +kernel
theorem kit_bi : kitB "bool" "int" = some true := by decide +kernel
theorem kit_bt : kitB "bool" "tuple" = some false := by decide +kernel
theorem kit_bl : kitB "bool" "list" = some false := by decide +kernel
theorem kit_bs : kitB "bool" "str" = some false := by decide +kernel
theorem kit_tb : kitB "tuple" "bool" = some false := by decide +kernel
theorem kit_ti : kitB "tuple" "int" = some false := by decide +kernel
theorem kit_tt : kitB "tuple" "tuple" = some true := by decide +kernel
theorem kit_tl : kitB "tuple" "list" = some false := by decide +kernel
theorem kit_ts : kitB "tuple" "str" = some false := by decide +kernel
theorem kit_lb : kitB "list" "bool" = some false := by decide +kernel
theorem kit_li : kitB "list" "int" = some false := by decide +kernel
theorem kit_lt : kitB "list" "tuple" = some false := by decide +kernel
theorem kit_ll : kitB "list" "list" = some true := by decide +kernel
theorem kit_ls : kitB "list" "str" = some false := by decide +kernel
theorem kit_sb : kitB "str" "bool" = some false := by decide +kernel
theorem kit_si : kitB "str" "int" = some false := by decide +kernel
theorem kit_st : kitB "str" "tuple" = some false := by decide +kernel
theorem kit_sl : kitB "str" "list" = some false := by decide +kernel
theorem kit_ss : kitB "str" "str" = some true := by decide +kernel
theorem kit_nb : kitB "NoneType" "bool" = some false := by decide +kernel
theorem kit_ni : kitB "NoneType" "int" = some false := by decide +kernel
theorem kit_nt : kitB "NoneType" "tuple" = some false := by decide +kernel
theorem kit_nl : kitB "NoneType" "list" = some false := by decide +kernel
theorem kit_ns : kitB "NoneType" "str" = some false := by decide +kernel
section
variable {M : Mem} {T : String} {Q : PQ} {n : String}
theorem isi_of {v : PV} (h : tyOf M v = some n) : kIsi T v M Q = need (kitB n T) fun b => Q (.bl b) M := by
  unfold kIsi isi
  rw [h]
  rfl
theorem isi_int {i : Int} : kIsi T (.int i) M Q = need (kitB "int" T) fun b => Q (.bl b) M := rfl
theorem isi_bl {i : Bool} : kIsi T (.bl i) M Q = need (kitB "bool" T) fun b => Q (.bl b) M := rfl
theorem isi_str {i : Str} : kIsi T (.str i) M Q = need (kitB "str" T) fun b => Q (.bl b) M := rfl
theorem isi_non : kIsi T .non M Q = need (kitB "NoneType" T) fun b => Q (.bl b) M := rfl
theorem isi_tup {xs : List PV} : kIsi T (.tup xs) M Q = need (kitB "tuple" T) fun b => Q (.bl b) M := rfl
theorem isi_lst {xs : List PV} : kIsi T (.lst xs) M Q = need (kitB "list" T) fun b => Q (.bl b) M := rfl
theorem tyOf_ptr {a : Addr} {xs : List PV} (h : M a = some (.lst xs)) : tyOf M (.ptr a) = some "list" := by
  show (match M a with | some (.lst _) => some "list" | _ => none) = some "list"
  rw [h]
/-! subscripts -/
theorem ix_tup {xs : List PV} {i : Int} : oIx (.tup xs) (.int i) M Q = need (L2.atI xs i) fun z => Q z M := rfl
theorem ix_lst {xs : List PV} {i : Int} : oIx (.lst xs) (.int i) M Q = need (L2.atI xs i) fun z => Q z M := rfl
theorem ix_scr {xs : List PV} {i : Int} : oIx (.scr xs) (.int i) M Q = need (L2.atI xs i) fun z => Q z M := rfl
theorem ix_ptr {a : Addr} {xs : List PV} {i : Int} (h : M a = some (.lst xs)) : oIx (.ptr a) (.int i) M Q = need (L2.atI xs i) fun z => Q z M := by
  show need (seqOf M (.ptr a)) _ = _
  rw [seqOf_ptr h]
  rfl
theorem at_nat {α : Type} (xs : List α) (n : Nat) : L2.atI xs (n : Int) = xs[n]? := by
  unfold L2.atI ixN
  rw [if_pos (Int.natCast_nonneg n)]
  by_cases h : (n : Int) < xs.length
  · rw [if_pos h]
    rfl
  · rw [if_neg h]
    have : xs.length ≤ n := by omega
    rw [List.getElem?_eq_none this]
    rfl
theorem at_pos {α : Type} (xs : List α) {i : Int} (h : 0 ≤ i) : L2.atI xs i = xs[i.toNat]? := by
  have e : i = ((i.toNat : Nat) : Int) := (Int.toNat_of_nonneg h).symm
  rw [e, at_nat]
  rfl
theorem at_0 {α : Type} (xs : List α) : L2.atI xs 0 = xs[0]? := at_nat xs 0
theorem at_1 {α : Type} (xs : List α) : L2.atI xs 1 = xs[1]? := at_nat xs 1
theorem at_2 {α : Type} (xs : List α) : L2.atI xs 2 = xs[2]? := at_nat xs 2
theorem at_3 {α : Type} (xs : List α) : L2.atI xs 3 = xs[3]? := at_nat xs 3
theorem at_4 {α : Type} (xs : List α) : L2.atI xs 4 = xs[4]? := at_nat xs 4
theorem at_5 {α : Type} (xs : List α) : L2.atI xs 5 = xs[5]? := at_nat xs 5
theorem at_last {α : Type} (xs : List α) (h : xs ≠ []) : L2.atI xs (-1) = xs.getLast? := by
  rcases List.eq_nil_or_concat xs with e | ⟨r, y, e⟩
  · exact absurd e h
  · rw [e, List.concat_eq_append, atI_last]
    simp
/-! lengths -/
theorem len_tup {xs : List PV} : kLen (.tup xs) M Q = Q (.int xs.length) M := rfl
theorem len_lst {xs : List PV} : kLen (.lst xs) M Q = Q (.int xs.length) M := rfl
theorem len_scr {xs : List PV} : kLen (.scr xs) M Q = Q (.int xs.length) M := rfl
theorem len_ptr {a : Addr} {xs : List PV} (h : M a = some (.lst xs)) : kLen (.ptr a) M Q = Q (.int xs.length) M := by
  show need (seqOf M (.ptr a)) _ = _
  rw [seqOf_ptr h]
  rfl
/-! == of ints, of tuples of ints -/
theorem eq_int' {i j : Int} : oEq (.int i) (.int j) M Q = Q (.bl (decide (i = j))) M := rfl
theorem ne_int' {i j : Int} : oNe (.int i) (.int j) M Q = Q (.bl (!decide (i = j))) M := rfl
theorem eq_bl' {i j : Bool} : oEq (.bl i) (.bl j) M Q = Q (.bl (decide (i = j))) M := rfl
theorem ne_bl' {i j : Bool} : oNe (.bl i) (.bl j) M Q = Q (.bl (!decide (i = j))) M := rfl
theorem eq_str' {i j : Str} : oEq (.str i) (.str j) M Q = Q (.bl (decide (i = j))) M := rfl
theorem ne_str' {i j : Str} : oNe (.str i) (.str j) M Q = Q (.bl (!decide (i = j))) M := rfl
theorem eqvAll_ints : ∀ xs ys : List Int, PyData.eqvAll (xs.map .int) (ys.map .int) = decide (xs = ys)
  | [], [] => rfl
  | [], _ :: _ => rfl
  | _ :: _, [] => rfl
  | x :: xs, y :: ys => by
    show (PyData.eqv (.int x) (.int y) && PyData.eqvAll (xs.map .int) (ys.map .int)) = _
    rw [eqvAll_ints xs ys]
    show ((x == y) && decide (xs = ys)) = decide (x :: xs = y :: ys)
    by_cases h : x = y
    · subst h
      simp
    · simp [h]
theorem toD_tI (xs : List Int) : toD (.tup (xs.map .int)) = some (.tuple (xs.map .int)) := by
  unfold toD
  rw [toDs_ints]
  rfl
theorem eqP_tI {xs ys : List Int} {k : Bool → Prop} : eqP (.tup (xs.map .int)) (.tup (ys.map .int)) k = k (decide (xs = ys)) := by
  unfold eqP
  show need (toD _) _ = _
  rw [toD_tI]
  show need (toD _) _ = _
  rw [toD_tI]
  show (_ ∧ _ ∧ k (PyData.eqvAll (xs.map .int) (ys.map .int))) = _
  rw [eqvAll_ints]
  have d : ∀ zs : List Int, PyData.depth (.tuple (zs.map .int)) ≤ 64 := fun zs => by
    show PyData.depthAll (zs.map .int) + 1 ≤ 64
    rw [depth_ints]
    decide
  exact propext ⟨fun h => h.2.2, fun h => ⟨d xs, d ys, h⟩⟩
end
/-! slices -/
def cutA {α : Type} (xs : List α) (lo hi : Option Int) : List α := (xs.drop (HT.sIx xs.length 0 lo)).take (HT.sIx xs.length xs.length hi - HT.sIx xs.length 0 lo)
theorem cutP_eq (xs : List PV) (lo hi : Option Int) : cutP xs lo hi = cutA xs lo hi := rfl
theorem cutA_map {α β : Type} (f : α → β) (xs : List α) (lo hi : Option Int) : cutA (xs.map f) lo hi = (cutA xs lo hi).map f := by
  unfold cutA
  rw [List.length_map, List.map_take, List.map_drop]
theorem sIx_none' (n d : Nat) : HT.sIx n d none = d := rfl
theorem sIx_nn {n d : Nat} {k : Int} (h : 0 ≤ k) : HT.sIx n d (some k) = min k.toNat n := by
  show (if k < 0 then _ else _) = _
  rw [if_neg (by omega)]
theorem cutA_from {α : Type} (xs : List α) {k : Int} (h : 0 ≤ k) : cutA xs (some k) none = xs.drop k.toNat := by
  unfold cutA
  rw [sIx_nn h, sIx_none']
  by_cases hk : k.toNat ≤ xs.length
  · rw [Nat.min_eq_left hk]
    exact List.take_of_length_le (by rw [List.length_drop]; exact Nat.le_refl _)
  · rw [Nat.min_eq_right (by omega)]
    simp
    omega
theorem cutA_from1 {α : Type} (xs : List α) : cutA xs (some 1) none = xs.tail := by
  rw [cutA_from xs (by decide)]
  show xs.drop 1 = xs.tail
  simp
theorem cutA_to {α : Type} (xs : List α) {k : Int} (h : 0 ≤ k) : cutA xs none (some k) = xs.take k.toNat := by
  unfold cutA
  rw [sIx_nn h, sIx_none', Nat.sub_zero, List.drop_zero]
  by_cases hk : k.toNat ≤ xs.length
  · rw [Nat.min_eq_left hk]
  · rw [Nat.min_eq_right (by omega), List.take_of_length_le (Nat.le_refl _), List.take_of_length_le (by omega)]
section
variable {M : Mem} {Q : PQ} {lo hi : Option Int}
theorem sl_tup {xs : List PV} : oSl (.tup xs) lo hi M Q = Q (.tup (cutA xs lo hi)) M := rfl
theorem sl_lst {xs : List PV} : oSl (.lst xs) lo hi M Q = Q (.lst (cutA xs lo hi)) M := rfl
theorem sl_scr {xs : List PV} : oSl (.scr xs) lo hi M Q = Q (.lst (cutA xs lo hi)) M := rfl
theorem sl_ptr {a : Addr} {xs : List PV} (h : M a = some (.lst xs)) : oSl (.ptr a) lo hi M Q = Q (.lst (cutA xs lo hi)) M := by
  show need (lstOf M (.ptr a)) _ = _
  rw [lstOf_ptr h]
  rfl
end
theorem line_lt {n : Nat} (h : n < 10000000) : n ≤ sizeLine := by
  rw [sizeLine_eq]
  omega
theorem line_lt' {n : Nat} (h : n < 10000000) : n < sizeLine := by
  rw [sizeLine_eq]
  omega
/-! lists that may change, fields -/
section
variable {M : Mem} {Q : PQ}
theorem len_of {x : PV} {xs : List PV} (h : lstOf M x = some xs) : kLen x M Q = Q (.int xs.length) M := by
  have e := lstOf_seq h
  cases x <;> first
    | (show need (seqOf M (.ptr _)) _ = _; rw [e]; rfl)
    | (cases h; rfl)
    | cases h
theorem list_of {x : PV} {xs : List PV} (h : lstOf M x = some xs) : kList x M Q = Q (.lst xs) M := by
  unfold kList
  rw [lstOf_seq h]
  rfl
theorem tupOf_of {x : PV} {xs : List PV} (h : seqOf M x = some xs) : PL.kTup x M Q = Q (.tup xs) M := by
  unfold PL.kTup
  rw [h]
  rfl
theorem putF_ptr {C : Addr} {f : Str} {x : PV} {p : Addr} {fs : List (Str × PV)} {k : Mem → Prop} (h : M p = some (.obj C fs)) : kPutF C f x (.ptr p) M k = (fs.length < 1000 ∧ k (M.put p (.obj C (putP f x fs)))) := by
  show (match M p with | some (.obj C' fs) => C' = C ∧ fs.length < 1000 ∧ k (M.put p (.obj C (putP f x fs))) | _ => False) = _
  rw [h]
  exact propext ⟨fun z => z.2, fun z => ⟨rfl, z⟩⟩
theorem app_ptr {p : Addr} {xs : List PV} {x : PV} (h : M p = some (.lst xs)) (hz : xs.length < sizeLine) : kApp (.ptr p) x M Q = Q .non (M.put p (.lst (xs ++ [x]))) := by
  show (match M p with | some (.lst xs) => xs.length < sizeLine ∧ Q .non (M.put p (.lst (xs ++ [x]))) | _ => False) = _
  rw [h]
  exact propext ⟨fun z => z.2, fun z => ⟨hz, z⟩⟩
theorem set_ptr {p : Addr} {xs : List PV} {x : PV} {i : Int} {k : Mem → Prop} (h : M p = some (.lst xs)) (h0 : 0 ≤ i) (h1 : i < xs.length) : kSet (.ptr p) (.int i) x M k = k (M.put p (.lst (xs.set i.toNat x))) := by
  show (match M p with | some (.lst xs) => need (ixN xs.length i) fun j => k (M.put p (.lst (xs.set j x))) | _ => False) = _
  rw [h]
  show need (ixN xs.length i) _ = _
  unfold ixN
  rw [if_pos h0, if_pos h1]
  rfl
theorem fz_ptr {p : Addr} {xs : List PV} (h : M p = some (.lst xs)) : kFz (.ptr p) M Q = Q (.lst xs) (M.drop p) := by
  show (match M p with | some (.lst xs) => Q (.lst xs) (M.drop p) | some (.obj C fs) => Q (.obj C fs) (M.drop p) | some (.dct a kvs) => a = p ∧ Q (.dct kvs) (M.drop p) | none => False) = _
  rw [h]
end
theorem lstOf_put {M : Mem} {x : PV} {xs : List PV} {p : Addr} {o : MO} (h : lstOf M x = some xs) (hp : ∀ ys, M p ≠ some (.lst ys)) : lstOf (M.put p o) x = some xs := by
  cases x with
  | ptr a =>
    have hm : M a = some (.lst xs) := by
      have h' : (match M a with | some (.lst xs) => some xs | _ => none) = some xs := h
      cases e : M a with
      | none => rw [e] at h'; cases h'
      | some m =>
        rw [e] at h'
        cases m with
        | lst ys => cases h'; rfl
        | obj C fs => cases h'
        | dct _ _ => cases h'
    have ne : a ≠ p := fun z => hp xs (by rw [← z]; exact hm)
    refine lstOf_ptr ?_
    rw [put_ne ne]
    exact hm
  | lst ys => exact h
  | scr ys => exact h
  | _ => cases h
/-! readings at values that are known -/
section
variable {M : Mem} {Q : PQ} {D : PEnds} {σ : PSt} {E : PXK}
theorem r_add_int {i j : Int} : oAdd (.int i) (.int j) M Q = Q (.int (i + j)) M := rfl
theorem r_add_str {i j : Str} : oAdd (.str i) (.str j) M Q = (i.length + j.length ≤ sizeLine ∧ Q (.str (i ++ j)) M) := rfl
theorem r_add_tup {i j : List PV} : oAdd (.tup i) (.tup j) M Q = (i.length + j.length ≤ sizeLine ∧ Q (.tup (i ++ j)) M) := rfl
theorem r_add_lst {i j : List PV} : oAdd (.lst i) (.lst j) M Q = (i.length + j.length ≤ sizeLine ∧ Q (.lst (i ++ j)) M) := rfl
theorem r_mulA_int {i j : Int} : oMulA (.int i) (.int j) M Q = (CMul i j ∧ Q (.int (i * j)) M) := rfl
theorem r_mulA_tup {i : List PV} {k : Int} : oMulA (.tup i) (.int k) M Q = ((-(2 ^ 62) ≤ k ∧ k ≤ 1000 ∧ i.length ≤ 1000) ∧ Q (.tup (List.replicate k.toNat i).flatten) M) := rfl
theorem r_I0 {g : Int → Int → PV} {i j : Int} : oI0 g (.int i) (.int j) M Q = Q (g i j) M := rfl
theorem r_I {C : Int → Int → Prop} {g : Int → Int → PV} {i j : Int} : oI C g (.int i) (.int j) M Q = (C i j ∧ Q (g i j) M) := rfl
def kNeg (x : PV) (M : Mem) (Q : PQ) : Prop := match x with | .int i => Q (.int (-i)) M | _ => False
theorem r_neg {ta : PTE} : pNeg ta E σ M Q = ta E σ M fun x M1 => kNeg x M1 Q := rfl
theorem r_neg_int {i : Int} : kNeg (.int i) M Q = Q (.int (-i)) M := rfl
def kCh1 (p q : Int → Int → Bool) (tc : PTE) (E : PXK) (σ : PSt) (x y : PV) (M2 : Mem) (Q : PQ) : Prop := match x, y with
  | .int i, .int j => if p i j = true then tc E σ M2 fun z M3 => match z with | .int l => Q (.bl (q j l)) M3 | _ => False else Q (.bl false) M2
  | _, _ => False
def kCh2 (q : Int → Int → Bool) (j : Int) (z : PV) (M3 : Mem) (Q : PQ) : Prop := match z with | .int l => Q (.bl (q j l)) M3 | _ => False
theorem r_chain {p q : Int → Int → Bool} {ta tb tc : PTE} : pChain p q ta tb tc E σ M Q = ta E σ M fun x M1 => tb E σ M1 fun y M2 => kCh1 p q tc E σ x y M2 Q := rfl
theorem r_ch1 {p q : Int → Int → Bool} {tc : PTE} {i j : Int} : kCh1 p q tc E σ (.int i) (.int j) M Q = if p i j = true then tc E σ M fun z M3 => kCh2 q j z M3 Q else Q (.bl false) M := rfl
theorem r_ch2 {q : Int → Int → Bool} {j l : Int} : kCh2 q j (.int l) M Q = Q (.bl (q j l)) M := rfl
theorem r_abs {i : Int} : kAbs (.int i) M Q = Q (.int (if i < 0 then -i else i)) M := rfl
theorem r_int {i : Int} : kInt (.int i) M Q = Q (.int i) M := rfl
theorem r_min2 {i j : Int} : kMin2 (.int i) (.int j) M Q = Q (.int (if j < i then j else i)) M := rfl
theorem r_max2 {i j : Int} : kMax2 (.int i) (.int j) M Q = Q (.int (if j > i then j else i)) M := rfl
theorem r_list_lst {xs : List PV} : kList (.lst xs) M Q = Q (.lst xs) M := rfl
theorem r_list_tup {xs : List PV} : kList (.tup xs) M Q = Q (.lst xs) M := rfl
theorem r_list_scr {xs : List PV} : kList (.scr xs) M Q = Q (.lst xs) M := rfl
theorem r_tup_lst {xs : List PV} : PL.kTup (.lst xs) M Q = Q (.tup xs) M := rfl
theorem r_tup_tup {xs : List PV} : PL.kTup (.tup xs) M Q = Q (.tup xs) M := rfl
theorem r_listM_lst {xs : List PV} : kListM (.lst xs) M Q = ∀ p, M p = none → Q (.ptr p) (M.put p (.lst xs)) := rfl
theorem r_listM_tup {xs : List PV} : kListM (.tup xs) M Q = ∀ p, M p = none → Q (.ptr p) (M.put p (.lst xs)) := rfl
theorem r_on1 {k : PV → Mem → PQ → Prop} {x : PV} : on1 k [x] M Q = k x M Q := rfl
theorem r_on2 {k : PV → PV → Mem → PQ → Prop} {x y : PV} : on2 k [x, y] M Q = k x y M Q := rfl
theorem r_gtup {n : Nat} {u : PTGs} {xs : List PV} {R : PNx} : gpTup n u (.tup xs) σ M R = (xs.length = n ∧ u xs σ M R) := rfl
theorem r_gcons {t : PTG} {u : PTGs} {x : PV} {r : List PV} {R : PNx} : gpCons t u (x :: r) σ M R = t x σ M fun σ' M' => u r σ' M' R := rfl
theorem r_gnil {R : PNx} : gpNil [] σ M R = R σ M := rfl
theorem r_non_non : isNon .non = true := rfl
theorem r_non_int {i : Int} : isNon (.int i) = false := rfl
theorem r_non_tup {i : List PV} : isNon (.tup i) = false := rfl
theorem r_non_lst {i : List PV} : isNon (.lst i) = false := rfl
theorem r_non_str {i : Str} : isNon (.str i) = false := rfl
theorem r_non_bl {i : Bool} : isNon (.bl i) = false := rfl
theorem r_non_ptr {i : Addr} : isNon (.ptr i) = false := rfl
theorem r_non_obj {C : Addr} {fs : List (Str × PV)} : isNon (.obj C fs) = false := rfl
def kPartI (x : PV) (k : Option Int → Prop) : Prop := match x with | .int i => k (some i) | _ => False
theorem r_part {t : PTE} {R : Option Int → Mem → Prop} : pPart t E σ M R = t E σ M fun x M1 => kPartI x fun o => R o M1 := rfl
theorem r_part_int {i : Int} {k : Option Int → Prop} : kPartI (.int i) k = k (some i) := rfl
def kR1 (x : PV) (M1 : Mem) (R : List PV → Mem → Prop) : Prop := match x with | .int j => (-(2 ^ 62) ≤ j ∧ j < 2 ^ 62) ∧ R (rngP 0 j.toNat) M1 | _ => False
theorem r_R1 {te : PTE} {R : List PV → Mem → Prop} : piR1 te E σ M R = te E σ M fun x M1 => kR1 x M1 R := rfl
theorem r_R1_int {j : Int} {R : List PV → Mem → Prop} : kR1 (.int j) M R = ((-(2 ^ 62) ≤ j ∧ j < 2 ^ 62) ∧ R (rngP 0 j.toNat) M) := rfl
def kR2 (x y : PV) (M2 : Mem) (R : List PV → Mem → Prop) : Prop := match x, y with | .int i, .int j => (-(2 ^ 62) ≤ i ∧ i < 2 ^ 62 ∧ -(2 ^ 62) ≤ j ∧ j < 2 ^ 62) ∧ R (rngP i (j - i).toNat) M2 | _, _ => False
theorem r_R2 {ta tb : PTE} {R : List PV → Mem → Prop} : piR2 ta tb E σ M R = ta E σ M fun x M1 => tb E σ M1 fun y M2 => kR2 x y M2 R := rfl
theorem r_R2_int {i j : Int} {R : List PV → Mem → Prop} : kR2 (.int i) (.int j) M R = ((-(2 ^ 62) ≤ i ∧ i < 2 ^ 62 ∧ -(2 ^ 62) ≤ j ∧ j < 2 ^ 62) ∧ R (rngP i (j - i).toNat) M) := rfl
theorem r_lstF {xs : List PV} : lstF (.lst xs) = some xs := rfl
theorem r_lstF_scr {xs : List PV} : lstF (.scr xs) = some xs := rfl
theorem r_tupF {xs : List PV} : tupF (.tup xs) = some xs := rfl
end
end PL
set_option Elab.async false
set_option linter.all false
set_option maxRecDepth 100000
namespace PL
open PySem
/-! ### loops by what holds between their turns -/
theorem forL {g : PTG} {tb : PTS} {D : PEnds} (I : Nat → PNx) : ∀ (xs : List PV) (j : Nat) (hs : ∀ i x σ M K, xs[i]? = some x → I (j + i) σ M → (∀ σ' M', I (j + i + 1) σ' M' → K σ' M') → g x σ M fun σ1 M1 => tb { D with nx := K, bk := D.nx, ct := K } σ1 M1)
    (hd : ∀ σ M, I (j + xs.length) σ M → D.nx σ M) (σ : PSt) (M : Mem), I j σ M → pForL g tb xs D σ M
  | [], j, hs, hd, σ, M, h => hd σ M h
  | x :: xs, j, hs, hd, σ, M, h => by
    refine hs 0 x σ M (pForL g tb xs D) rfl h fun σ' M' h' => ?_
    refine forL I xs (j + 1) (fun i y σ M K e hi hk => ?_) (fun σ M hl => hd σ M ?_) σ' M' h'
    · have e1 : j + 1 + i = j + (i + 1) := by omega
      rw [e1] at hi hk
      exact hs (i + 1) y σ M K e hi hk
    · have e1 : j + 1 + xs.length = j + (x :: xs).length := by rw [List.length_cons]; omega
      rw [e1] at hl
      exact hl
theorem for_in {g : PTG} {tb : PTS} {D : PEnds} (I : Nat → PNx) {xs : List PV} {σ : PSt} {M : Mem} (h0 : I 0 σ M)
    (hs : ∀ i x σ M K, xs[i]? = some x → I i σ M → (∀ σ' M', I (i + 1) σ' M' → K σ' M') → g x σ M fun σ1 M1 => tb { D with nx := K, bk := D.nx, ct := K } σ1 M1)
    (hd : ∀ σ M, I xs.length σ M → D.nx σ M) : pForL g tb xs D σ M :=
  forL I xs 0 (fun i x σ M K e hi hk => by rw [Nat.zero_add] at hi hk; exact hs i x σ M K e hi hk) (fun σ M h => hd σ M (by rw [Nat.zero_add] at h; exact h)) σ M h0
theorem for_rng {g : PTG} {tb : PTS} {D : PEnds} (I : Nat → PNx) {lo : Int} {n : Nat} {σ : PSt} {M : Mem} (h0 : I 0 σ M)
    (hs : ∀ (i : Nat) σ M K, i < n → I i σ M → (∀ σ' M', I (i + 1) σ' M' → K σ' M') → g (.int (lo + i)) σ M fun σ1 M1 => tb { D with nx := K, bk := D.nx, ct := K } σ1 M1)
    (hd : ∀ σ M, I n σ M → D.nx σ M) : pForL g tb (rngP lo n) D σ M := by
  refine for_in I h0 (fun i x σ M K e hi hk => ?_) (fun σ M h => hd σ M (by rw [rngP_length] at h; exact h))
  have hlt : i < n := by
    have := (List.getElem?_eq_some_iff.mp e).1
    rw [rngP_length] at this
    exact this
  have ex : x = .int (lo + i) := by
    have e2 : (rngP lo n)[i]? = some (PV.int (lo + i)) := by
      unfold rngP
      rw [List.getElem?_map, List.getElem?_range hlt]
      rfl
    exact Option.some.inj (e.symm.trans e2)
  rw [ex]
  exact hs i σ M K hlt hi hk
theorem forG {G : Mem → Prop} {g : PTG} {tb : PTS} {D : PEnds} (I : Nat → PNx) : ∀ (xs : List PV) (j : Nat) (hs : ∀ i x σ M K, xs[i]? = some x → I (j + i) σ M → (∀ σ' M', G M' → I (j + i + 1) σ' M' → K σ' M') → g x σ M fun σ1 M1 => tb { D with nx := K, bk := D.nx, ct := K } σ1 M1)
    (hd : ∀ σ M, I (j + xs.length) σ M → D.nx σ M) (σ : PSt) (M : Mem), I j σ M → pForG G g tb xs D σ M
  | [], j, hs, hd, σ, M, h => hd σ M h
  | x :: xs, j, hs, hd, σ, M, h => by
    refine hs 0 x σ M (fun σ M => G M ∧ pForG G g tb xs D σ M) rfl h fun σ' M' hg h' => ⟨hg, ?_⟩
    refine forG I xs (j + 1) (fun i y σ M K e hi hk => ?_) (fun σ M hl => hd σ M ?_) σ' M' h'
    · have e1 : j + 1 + i = j + (i + 1) := by omega
      rw [e1] at hi hk
      exact hs (i + 1) y σ M K e hi hk
    · have e1 : j + 1 + xs.length = j + (x :: xs).length := by rw [List.length_cons]; omega
      rw [e1] at hl
      exact hl
theorem for_inG {G : Mem → Prop} {g : PTG} {tb : PTS} {D : PEnds} (I : Nat → PNx) {xs : List PV} {σ : PSt} {M : Mem} (h0 : I 0 σ M)
    (hs : ∀ i x σ M K, xs[i]? = some x → I i σ M → (∀ σ' M', G M' → I (i + 1) σ' M' → K σ' M') → g x σ M fun σ1 M1 => tb { D with nx := K, bk := D.nx, ct := K } σ1 M1)
    (hd : ∀ σ M, I xs.length σ M → D.nx σ M) : pForG G g tb xs D σ M :=
  forG I xs 0 (fun i x σ M K e hi hk => by rw [Nat.zero_add] at hi hk; exact hs i x σ M K e hi hk) (fun σ M h => hd σ M (by rw [Nat.zero_add] at h; exact h)) σ M h0
theorem whileN {c : PTT} {tb : PTS} {D : PEnds} (I : Nat → PNx)
    (hs : ∀ m σ M K, I m σ M → (∀ m' σ' M', m' < m → I m' σ' M' → K σ' M') → c D.ex σ M fun b M1 => if b = true then tb { D with nx := K, bk := D.nx, ct := K } σ M1 else D.nx σ M1) :
    ∀ (n m : Nat) (σ : PSt) (M : Mem), m < n → I m σ M → pWhileN c tb n D σ M
  | 0, m, σ, M, h, _ => absurd h (Nat.not_lt_zero _)
  | n + 1, m, σ, M, h, hI => hs m σ M (pWhileN c tb n D) hI fun m' σ' M' hm hI' => whileN I hs n m' σ' M' (by omega) hI'
theorem while_in {c : PTT} {tb : PTS} {D : PEnds} (I : Nat → PNx) {m : Nat} {σ : PSt} {M : Mem} (h0 : I m σ M)
    (hs : ∀ m σ M K, I m σ M → (∀ m' σ' M', m' < m → I m' σ' M' → K σ' M') → c D.ex σ M fun b M1 => if b = true then tb { D with nx := K, bk := D.nx, ct := K } σ M1 else D.nx σ M1) : pWhile c tb D σ M :=
  ⟨m + 1, whileN I hs (m + 1) m σ M (Nat.lt_succ_self m) h0⟩
/-! ### comprehensions of plain elements -/
theorem lc_pure {i : Nat} {tt : PTT} {te : PTE} {σ : PSt} {M : Mem} {Q : PQ} (p : PV → Bool) (f : PV → PV) : ∀ (xs : List PV) (acc : List PV)
    (ht : ∀ x ∈ xs, ∀ R : Bool → Mem → Prop, R (p x) M → tt noX (σ.set i (some x)) M R) (he : ∀ x ∈ xs, p x = true → ∀ R : PQ, R (f x) M → te noX (σ.set i (some x)) M R),
    Q (.lst (acc ++ (xs.filter p).map f)) M → pLcL i tt te xs acc σ M Q
  | [], acc, ht, he, q => by
    rw [List.filter_nil, List.map_nil, List.append_nil] at q
    exact q
  | x :: xs, acc, ht, he, q => by
    refine ht x List.mem_cons_self _ ?_
    have ht' : ∀ y ∈ xs, ∀ R : Bool → Mem → Prop, R (p y) M → tt noX (σ.set i (some y)) M R := fun y hy => ht y (List.mem_cons_of_mem _ hy)
    have he' : ∀ y ∈ xs, p y = true → ∀ R : PQ, R (f y) M → te noX (σ.set i (some y)) M R := fun y hy => he y (List.mem_cons_of_mem _ hy)
    cases hp : p x with
    | true =>
      rw [if_pos rfl]
      refine he x List.mem_cons_self hp _ (lc_pure p f xs (acc ++ [f x]) ht' he' ?_)
      rw [List.filter_cons, if_pos hp, List.map_cons] at q
      rw [List.append_assoc]
      exact q
    | false =>
      rw [if_neg Bool.false_ne_true]
      refine lc_pure p f xs acc ht' he' ?_
      rw [List.filter_cons, if_neg (by rw [hp]; exact Bool.false_ne_true)] at q
      exact q
theorem lc_map {i : Nat} {te : PTE} {σ : PSt} {M : Mem} {Q : PQ} (f : PV → PV) {xs : List PV} (he : ∀ x ∈ xs, ∀ R : PQ, R (f x) M → te noX (σ.set i (some x)) M R) (q : Q (.lst (xs.map f)) M) : pLcL i pYes te xs [] σ M Q := by
  refine lc_pure (fun _ => true) f xs [] (fun x _ R h => h) (fun x hx _ => he x hx) ?_
  rw [List.nil_append, List.filter_eq_self.mpr (fun _ _ => rfl)]
  exact q
theorem cdiv_eq (i j : Int) : L2.CDiv i j = (0 < j ∧ j < 1073741824) := rfl
theorem put_mid {M : Mem} {a b : Addr} {o o' u : MO} (h : a ≠ b) : ((M.put a o).put b u).put a o' = (M.put a o').put b u := by
  rw [put_swap (Ne.symm h), put_put]
theorem put_over {M : Mem} {a b : Addr} {o u u' : MO} : ((M.put a o).put b u).put b u' = (M.put a o).put b u' := put_put
end PL
set_option Elab.async false
set_option linter.all false
set_option maxRecDepth 100000
namespace PL
open PySem PySem.Spec PyProof.Rows L2
section
variable {X : Cx}
/-! ### an own error without fields -/
def pRaise (C : Addr) : PTS := fun D _ M => D.ex C [] M
theorem LS.raise {C : Addr} {bmB : List Value} {B newId initId : String} {x m : Str} {j : Nat} {p p2 pos pos' : Pos} (F : ExcBaseFacts B newId initId bmB) (q : PySem.W.excIn X.K C bmB newId = true) (gC : X.mg x = some (.ref C)) (kC : PySem.W.keepIn X.K (.ref C) = true)
    (r : Raises X (.ref C)) (hg : Gl X x) (hc : X.calm = true := by rfl) (hd : (x == ("__debug__" : Str)) = false := by decide) : LS X (.Raise (some (.Call (.Name x p) [.Constant (.str m) j p2] [] pos)) none pos') (pRaise C) :=
  ⟨fun σv H σ F0 M D tk rm rs h => WS.of (ps_raise hc tk (pmk_own F q gC kC r hg hd)) ⟨F0, M, C, [], rfl, Beh.refl rm, rfl, h⟩⟩
structure OwnErr (K : PySem.W.Frag) (C : Addr) : Prop where
  x : PySem.W.excIn K C [.type "ValueError", .type "Exception", .type "BaseException", .type "object"] "ValueError.__new__" = true
  k : PySem.W.keepIn K (.ref C) = true
  b : PySem.W.subIn K (.ref C) (.type "BaseException") = some true
  t : PySem.W.typeIn K (.ref C) = some (.type "type")
/-! ### try .. except X as n -/
def pTryAs (n i : Nat) (exm : Addr → Option Bool) (tb : PTS) (ts : Addr → Addr → PTS) : PTS := fun D σ M =>
  tb { D with ex := fun C fs M' => need (exm C) fun b => (b = true → fs = [] ∧ ∀ a, M' a = none → ts C a { nx := fun σ' M'' => D.nx (σ'.set i none) M'', rt := D.rt, ex := noX, bk := fun σ' M'' => D.bk (σ'.set i none) M'', ct := fun σ' M'' => D.ct (σ'.set i none) M'' } ((List.replicate n none).set i (some (.ptr a))) M') ∧ (b = false → D.ex C fs M') } σ M
theorem Takes.weak {X : Cx} {W W' : WX} (h : Takes X W) (m : ∀ cls d σ H, σ.length = X.N.length → W' cls d σ H → W cls d σ H) : Takes X W' := by
  rintro u s' ⟨a, B, sI, pins, σ, H, cls, d, e, I, q1, q2, q3, q4, q5, q6, w⟩
  exact h u s' ⟨a, B, sI, pins, σ, H, cls, d, e, I, q1, q2, q3, q4, q5, q6, m _ _ _ _ I.len w⟩
theorem LX.trB {K : PySem.W.Frag} {F F1 H H1 H' : Hp} {M M1 : Mem} {E : PXK} {cls : Value} {d : Option Addr} (b : Beh K F M H F1 M1 H1) (h : LX K F1 M1 H1 E cls d H') : LX K F M H E cls d H' := by
  obtain ⟨F', M', C, fs, e, b', xa, q⟩ := h
  exact ⟨F', M', C, fs, e, b.trans b', xa, q⟩
theorem RS.setN {K : PySem.W.Frag} {F : Hp} {σ : PSt} {σv : L2.St} (r : RS K F σ σv) (i : Nat) : RS K F (σ.set i none) (σv.set i none) := by
  refine ⟨by rw [List.length_set, List.length_set, r.len], fun j x h => ?_⟩
  rw [List.getElem?_set] at h
  split at h
  · split at h <;> cases h
  · rename_i hn
    obtain ⟨v, h1, h2⟩ := r.at_ j x h
    exact ⟨v, by rw [List.getElem?_set, if_neg hn]; exact h1, h2⟩
theorem LS.tryAs {x n : Str} {c : Value} {i : Nat} {body suite : List Stmt} {b₀ : Stmt} {np pos pos' : Pos} {tb : PTS} {ts : Addr → Addr → PTS} {exm : Addr → Option Bool}
    (hN : X.N.Nodup) (hc : Names X x c) (hx : ∀ C b, exm C = some b → PySem.W.exmOne X.K (.ref C) c = some b)
    (hb : ∀ (pn : List (Addr × Obj)) (xe : Value → Shared → Prop), PassesOwn (model X.prog X.w) X.A X.env xe → LSs (X.tr pn xe) body tb)
    (hsu : ∀ (C : Addr) (b : Bool) (a : Addr) (oe : Obj) (pn : List (Addr × Obj)), exm C = some b → Zc (.ref C) none oe → (∃ vs, oe.data = .fields vs) → LSs (X.suite a ((a, oe) :: pn)) (b₀ :: suite) (ts C a))
    (hs : X.stack = X.env :: X.outer := by rfl) (hf : X.env.frame = some X.env.locals := by rfl) (hi : X.N[i]? = some n := by rfl) (hln : X.env.kindOf n = some .local := by rfl) :
    LS X (.Try body [.ExceptHandler (some (.Name x np)) (some n) (b₀ :: suite) pos'] [] [] pos) (pTryAs X.N.length i exm tb ts) := by
  refine ⟨fun σv H σ F M D tk rm rs h => ?_⟩
  let tbV : WX → TS := fun W D' σ1 H1 => ∃ F1 M1 σp Dp, RM X.K F1 M1 H1 ∧ RS X.K F1 σp σ1 ∧ tb Dp σp M1 ∧ Ends.Le (LD X.K F1 M1 H1 Dp) D' ∧ ∀ cls d y H', y.length = X.N.length → LX X.K F1 M1 H1 Dp.ex cls d H' → W cls d y H'
  let tsV : Addr → Value → Option Addr → TS := fun a cls d D' σ1 H1 => ∃ C b F1 M1 σp Dp, cls = .ref C ∧ exm C = some b ∧ d = none ∧ RM X.K F1 M1 H1 ∧ RS X.K F1 σp σ1 ∧ ts C a Dp σp M1 ∧ Dp.ex = noX ∧ Ends.Le (LD X.K F1 M1 H1 Dp) D'
  refine WS.of (ps_try_as (tb := tbV) (ts := tsV) hs hf hN hi hln hc tk ?_ ?_) ?_
  · intro W pn xe tkW hp
    refine ⟨fun pins s σ1 H1 D' I h1 => ?_⟩
    obtain ⟨F1, M1, σp, Dp, rm1, rs1, h1, le, w⟩ := h1
    exact ((hb pn xe hp).run σ1 H1 σp F1 M1 Dp (Takes.weak tkW w) rm1 rs1 h1).mono le pins s I
  · intro a oe cls d pn hz hfl
    refine ⟨fun pins s σ1 H1 D' I h1 => ?_⟩
    obtain ⟨C, b, F1, M1, σp, Dp, rfl, hC, rfl, rm1, rs1, h1, hx0, le⟩ := h1
    refine ((hsu C b a oe pn hC hz hfl).run σ1 H1 σp F1 M1 Dp ?_ rm1 rs1 h1).mono le pins s I
    refine Takes.weak takes0 fun cls d y H' _ z => ?_
    obtain ⟨_, _, _, _, _, _, _, z⟩ := z
    rw [hx0] at z
    exact z
  · refine ⟨F, M, σ, _, rm, rs, h, ⟨fun _ _ q => q, fun _ _ q => q, fun _ _ q => q, fun _ _ q => q⟩, fun cls d y H' hy z => ?_⟩
    obtain ⟨F', M', C, fs, rfl, beh, xa, z⟩ := z
    obtain ⟨b, e1, z1, z2⟩ := need_of z
    refine ⟨b, hx C b e1, fun e a ha => ?_, fun e => ⟨F', M', C, fs, rfl, beh, xa, z2 e⟩⟩
    obtain ⟨rfl, z3⟩ := z1 e
    have hd : d = none := by
      cases d with
      | none => rfl
      | some a => exact absurd rfl xa.1
    subst hd
    have hM : M' a = none := by
      cases e2 : M' a with
      | none => rfl
      | some m =>
        obtain ⟨o, e3, _⟩ := beh.rm.mu a m e2
        rw [ha] at e3
        cases e3
    have rs0 : RS X.K F' (List.replicate X.N.length none) y := ⟨by rw [List.length_replicate, hy], fun j x h => by
      rw [List.getElem?_replicate] at h
      split at h <;> cases h⟩
    refine ⟨C, b, F', M', _, _, rfl, e1, rfl, beh.rm, rs0.set i (.ptr a), z3 a hM, rfl, ?_⟩
    have nx : ∀ (N : PNx) σ2 H2, LN X.K F' M' H' (fun σ' M'' => N (σ'.set i none) M'') σ2 H2 → LN X.K F M H N (σ2.set i none) H2 := by
      rintro N σ2 H2 ⟨F2, M2, σ3, b2, rs2, q⟩
      exact ⟨F2, M2, _, beh.trans b2, rs2.setN i, q⟩
    exact ⟨fun σ2 H2 q => nx _ _ _ q, fun v H2 q => LQ.tr beh q, fun σ2 H2 q => nx _ _ _ q, fun σ2 H2 q => nx _ _ _ q⟩
/-! ### isinstance(error, Y) in the suite -/
def kIsE (a : Addr) (b : Option Bool) (x : PV) (M : Mem) (Q : PQ) : Prop := x = .ptr a ∧ need b fun b => Q (.bl b) M
theorem LE.isE {Y : Str} {k : Option Bool} {D a CY : Addr} {oe : Obj} {pn : List (Addr × Obj)} {e : Expr} {te : PTE} {p py pos : Pos} (C : ExcC X.K D) (hz : Zc (.ref D) none oe) (hfl : ∃ vs, oe.data = .fields vs) (hg : Gl X "isinstance") (hm : X.mg "isinstance" = none) (hgY : Gl X Y) (hmY : X.mg Y = some (.ref CY))
    (hk : ∀ b, k = some b → PySem.W.kitOne X.K (.ref D) (.ref CY) = some b) (ha : LE (X.suite a ((a, oe) :: pn)) e te) (hdT : (Y == ("__debug__" : Str)) = false := by decide)
    (he : starEach [e, .Name Y py] X.env = (false, eval e X.env) :: starEach [.Name Y py] X.env := by rfl) (he2 : starEach [.Name Y py] X.env = (false, eval (.Name Y py) X.env) :: starEach [] X.env := by rfl)
    (hpl : (backTo pos (starEach [.Name Y py] X.env)).any (·.1) = false := by rfl) : LE (X.suite a ((a, oe) :: pn)) (.Call (.Name "isinstance" p) [e, .Name Y py] [] pos) (fun E σ M Q => te E σ M fun x M1 => kIsE a k x M1 Q) := by
  refine ⟨fun σv H σ F M Q E tk rm rs h => WE.of (pe_callB (call_isE C hz hfl) hg hm (by decide +kernel) (pa_cons WE.pe (pa_cons (pe_glob (v := .ref CY) hgY hmY rfl hdT) pa_nil he2) he) (he := he) (hpl := hpl)) ?_⟩
  refine (ha.run σv H σ F M _ E tk rm rs h).mono ?_
  rintro v H1 ⟨F1, M1, x, b1, rx, rfl, hx⟩
  obtain ⟨b, e1, h2⟩ := need_of hx
  cases rx
  exact ⟨.ref CY, .ref CY, b, rfl, fun u r => by cases r; rfl, hk b e1, LQ.tr b1 (LQ.now b1.rm (.bl b) h2)⟩
theorem LE.isEB {Y : Str} {Ys : String} {k : Option Bool} {D a : Addr} {oe : Obj} {pn : List (Addr × Obj)} {e : Expr} {te : PTE} {p py pos : Pos} (C : ExcC X.K D) (hz : Zc (.ref D) none oe) (hfl : ∃ vs, oe.data = .fields vs) (hg : Gl X "isinstance") (hm : X.mg "isinstance" = none) (hgY : Gl X Y) (hmY : X.mg Y = none) (hvY : bootBuiltins Y = some (.type Ys))
    (hk : ∀ b, k = some b → PySem.W.kitOne X.K (.ref D) (.type Ys) = some b) (ha : LE (X.suite a ((a, oe) :: pn)) e te) (hnY : Y ≠ "__name__" := by decide) (hdT : (Y == ("__debug__" : Str)) = false := by decide)
    (he : starEach [e, .Name Y py] X.env = (false, eval e X.env) :: starEach [.Name Y py] X.env := by rfl) (he2 : starEach [.Name Y py] X.env = (false, eval (.Name Y py) X.env) :: starEach [] X.env := by rfl)
    (hpl : (backTo pos (starEach [.Name Y py] X.env)).any (·.1) = false := by rfl) : LE (X.suite a ((a, oe) :: pn)) (.Call (.Name "isinstance" p) [e, .Name Y py] [] pos) (fun E σ M Q => te E σ M fun x M1 => kIsE a k x M1 Q) := by
  refine ⟨fun σv H σ F M Q E tk rm rs h => WE.of (pe_callB (call_isE C hz hfl) hg hm (by decide +kernel) (pa_cons WE.pe (pa_cons (pe_bltn (v := .ty Ys) hgY hmY hvY rfl hnY hdT) pa_nil he2) he) (he := he) (hpl := hpl)) ?_⟩
  refine (ha.run σv H σ F M _ E tk rm rs h).mono ?_
  rintro v H1 ⟨F1, M1, x, b1, rx, rfl, hx⟩
  obtain ⟨b, e1, h2⟩ := need_of hx
  cases rx
  exact ⟨.ty Ys, .type Ys, b, rfl, fun u r => by cases r; rfl, hk b e1, LQ.tr b1 (LQ.now b1.rm (.bl b) h2)⟩
/-! ### is True, is False -/
def oIsB : PO2 := fun x y M Q => match x, y with
  | .bl a, .bl b => Q (.bl (decide (a = b))) M
  | _, _ => False
def oNotB : PO2 := fun x y M Q => match x, y with
  | .bl a, .bl b => Q (.bl (!decide (a = b))) M
  | _, _ => False
theorem pop_isB {K : PySem.W.Frag} : POp K rIsB oIsB := by
  intro F M H x y xv yv Q Qv rm rx ry h k
  cases rx <;> cases ry <;> first
    | exact h.elim
    | exact ⟨_, _, rfl, rfl, k _ _ (LQ.now rm (.bl _) h)⟩
theorem pop_notB {K : PySem.W.Frag} : POp K rNotB oNotB := by
  intro F M H x y xv yv Q Qv rm rx ry h k
  cases rx <;> cases ry <;> first
    | exact h.elim
    | exact ⟨_, _, rfl, rfl, k _ _ (LQ.now rm (.bl _) h)⟩
theorem LE.isB {a b : Expr} {ta tb : PTE} {pos : Pos} (ha : LE X a ta) (hb : LE X b tb) : LE X (.Compare a [.Is] [b] pos) (pBin oIsB ta tb) := LE.cmp op_isBl pop_isB (nomark _) ha hb
theorem LE.notB {a b : Expr} {ta tb : PTE} {pos : Pos} (ha : LE X a ta) (hb : LE X b tb) : LE X (.Compare a [.IsNot] [b] pos) (pBin oNotB ta tb) := LE.cmp op_notBl pop_notB (nomark _) ha hb
theorem LT.isB {a b : Expr} {ta tb : PTE} {pos : Pos} (ha : LE X a ta) (hb : LE X b tb) : LT X (.Compare a [.Is] [b] pos) (pTest (pBin oIsB ta tb)) := LT.cmp op_isBl pop_isB (nomark _) ha hb
theorem LT.notB {a b : Expr} {ta tb : PTE} {pos : Pos} (ha : LE X a ta) (hb : LE X b tb) : LT X (.Compare a [.IsNot] [b] pos) (pTest (pBin oNotB ta tb)) := LT.cmp op_notBl pop_notB (nomark _) ha hb
theorem r_isB {a b : Bool} {M : Mem} {Q : PQ} : oIsB (.bl a) (.bl b) M Q = Q (.bl (decide (a = b))) M := rfl
theorem r_notB {a b : Bool} {M : Mem} {Q : PQ} : oNotB (.bl a) (.bl b) M Q = Q (.bl (!decide (a = b))) M := rfl
end
end PL
set_option Elab.async false
set_option linter.all false
set_option maxRecDepth 100000
/-! the head of a reading, step by step (made by tools/genw.py) -/
namespace PL
open PySem PySem.Spec PyProof.Rows L2
theorem w_C {x : PV} {E : PXK} {σ : PSt} {M : Mem} {Q : PQ} (h : Q x M) : pC x E σ M Q := h
theorem w_var {i : Nat} {x : PV} {E : PXK} {σ : PSt} {M : Mem} {Q : PQ} (e : σ[i]? = some (some x)) (h : Q x M) : pVar i E σ M Q := by unfold pVar; rw [e]; exact h
theorem w_nil {E : PXK} {σ : PSt} {M : Mem} {Q : List PV → Mem → Prop} (h : Q [] M) : pNil E σ M Q := h
theorem w_cons {ta : PTE} {tr : PTA} {E : PXK} {σ : PSt} {M : Mem} {Q : List PV → Mem → Prop} (h : ta E σ M fun x M1 => tr E σ M1 fun xs M2 => Q (x :: xs) M2) : pCons ta tr E σ M Q := h
theorem w_bin {o : PO2} {ta tb : PTE} {E : PXK} {σ : PSt} {M : Mem} {Q : PQ} (h : ta E σ M fun x M1 => tb E σ M1 fun y M2 => o x y M2 Q) : pBin o ta tb E σ M Q := h
theorem w_test {t : PTE} {E : PXK} {σ : PSt} {M : Mem} {Q : Bool → Mem → Prop} (h : t E σ M fun x M1 => kB x fun b => Q b M1) : pTest t E σ M Q := h
theorem w_kB {b : Bool} {k : Bool → Prop} (h : k b) : kB (.bl b) k := h
theorem w_call {sp : PSp} {t : PTA} {E : PXK} {σ : PSt} {M : Mem} {Q : PQ} (h : t E σ M fun xs M1 => sp xs M1 Q E) : pCall sp t E σ M Q := h
theorem w_callB {o : POn} {t : PTA} {E : PXK} {σ : PSt} {M : Mem} {Q : PQ} (h : t E σ M fun xs M1 => o xs M1 Q) : pCallB o t E σ M Q := h
theorem w_on1 {k : PV → Mem → PQ → Prop} {x : PV} {M : Mem} {Q : PQ} (h : k x M Q) : on1 k [x] M Q := h
theorem w_on2 {k : PV → PV → Mem → PQ → Prop} {x y : PV} {M : Mem} {Q : PQ} (h : k x y M Q) : on2 k [x, y] M Q := h
theorem w_tup {t : PTA} {E : PXK} {σ : PSt} {M : Mem} {Q : PQ} (h : t E σ M fun xs M1 => Q (.tup xs) M1) : pTup t E σ M Q := h
theorem w_lst {t : PTA} {E : PXK} {σ : PSt} {M : Mem} {Q : PQ} (h : t E σ M fun xs M1 => Q (.lst xs) M1) : pLst t E σ M Q := h
theorem w_lstM {t : PTA} {E : PXK} {σ : PSt} {M : Mem} {Q : PQ} (h : t E σ M fun xs M1 => ∀ p, M1 p = none → Q (.ptr p) (M1.put p (.lst xs))) : pLstM t E σ M Q := h
theorem w_seq {t u : PTS} {dn db dc : PNx} {dr : PQ} {de : PXK} {σ : PSt} {M : Mem} (h : t (PEnds.mk (u (PEnds.mk dn dr de db dc)) dr de db dc) σ M) : pSeq t u (PEnds.mk dn dr de db dc) σ M := h
theorem w_pset {i : Nat} {te : PTE} {f : PV → PSt} {dn db dc : PNx} {dr : PQ} {de : PXK} {σ : PSt} {M : Mem} (e : ∀ x, σ.set i (some x) = f x) (h : te de σ M fun x M1 => dn (f x) M1) : pSet i te (PEnds.mk dn dr de db dc) σ M := by unfold pSet; simp only [e]; exact h
theorem w_next {dn db dc : PNx} {dr : PQ} {de : PXK} {σ : PSt} {M : Mem} (h : dn σ M) : pNext (PEnds.mk dn dr de db dc) σ M := h
theorem w_ret {te : PTE} {dn db dc : PNx} {dr : PQ} {de : PXK} {σ : PSt} {M : Mem} (h : te de σ M dr) : pRet te (PEnds.mk dn dr de db dc) σ M := h
theorem w_retN {dn db dc : PNx} {dr : PQ} {de : PXK} {σ : PSt} {M : Mem} (h : dr .non M) : pRetN (PEnds.mk dn dr de db dc) σ M := h
theorem w_ifs {c : PTT} {t u : PTS} {dn db dc : PNx} {dr : PQ} {de : PXK} {σ : PSt} {M : Mem} (h : c de σ M fun b M1 => if b = true then t (PEnds.mk dn dr de db dc) σ M1 else u (PEnds.mk dn dr de db dc) σ M1) : pIfS c t u (PEnds.mk dn dr de db dc) σ M := h
theorem w_dnx {a c d : PNx} {b : PQ} {x : PXK} {σ : PSt} {M : Mem} {Q : PQ} {v : PV} (h : a σ M) : (PEnds.mk a b x c d).nx σ M := h
theorem w_drt {a c d : PNx} {b : PQ} {x : PXK} {σ : PSt} {M : Mem} {Q : PQ} {v : PV} (h : b v M) : (PEnds.mk a b x c d).rt v M := h
theorem w_dbk {a c d : PNx} {b : PQ} {x : PXK} {σ : PSt} {M : Mem} {Q : PQ} {v : PV} (h : c σ M) : (PEnds.mk a b x c d).bk σ M := h
theorem w_dct {a c d : PNx} {b : PQ} {x : PXK} {σ : PSt} {M : Mem} {Q : PQ} {v : PV} (h : d σ M) : (PEnds.mk a b x c d).ct σ M := h
theorem w_ifT {A B : Prop} (h : A) : if true = true then A else B := by rw [if_pos rfl]; exact h
theorem w_ifF {A B : Prop} (h : B) : if false = true then A else B := by rw [if_neg Bool.false_ne_true]; exact h
theorem w_ifd {P A B : Prop} {i : Decidable P} (h : if P then A else B) : if decide P = true then A else B := by
  by_cases p : P
  · rw [if_pos p] at h; rw [if_pos (decide_eq_true p)]; exact h
  · rw [if_neg p] at h; rw [if_neg (by rw [decide_eq_false p]; exact Bool.false_ne_true)]; exact h
theorem w_ifn {b : Bool} {A B : Prop} (h : if b = true then B else A) : if (!b) = true then A else B := by cases b <;> exact h
theorem w_drop {te : PTE} {dn db dc : PNx} {dr : PQ} {de : PXK} {σ : PSt} {M : Mem} (h : te de σ M fun _ M1 => dn σ M1) : pDrop te (PEnds.mk dn dr de db dc) σ M := h
theorem w_asg {te : PTE} {g : PTG} {dn db dc : PNx} {dr : PQ} {de : PXK} {σ : PSt} {M : Mem} (h : te de σ M fun x M1 => g x σ M1 dn) : pAsg te g (PEnds.mk dn dr de db dc) σ M := h
theorem w_gname {i : Nat} {x : PV} {σ σ1 : PSt} {M : Mem} {R : PNx} (e : σ.set i (some x) = σ1) (h : R σ1 M) : gpName i x σ M R := by unfold gpName; rw [e]; exact h
theorem w_gtup {n : Nat} {u : PTGs} {xs : List PV} {σ : PSt} {M : Mem} {R : PNx} (e : xs.length = n) (h : u xs σ M R) : gpTup n u (.tup xs) σ M R := ⟨e, h⟩
theorem w_gcons {t : PTG} {u : PTGs} {x : PV} {r : List PV} {σ : PSt} {M : Mem} {R : PNx} (h : t x σ M fun σ' M' => u r σ' M' R) : gpCons t u (x :: r) σ M R := h
theorem w_gnil {σ : PSt} {M : Mem} {R : PNx} (h : R σ M) : gpNil [] σ M R := h
theorem w_gsub {to ti : PTE} {x : PV} {σ : PSt} {M : Mem} {R : PNx} (h : to noX σ M fun o M1 => ti noX σ M1 fun i M2 => kSet o i x M2 fun M3 => R σ M3) : gpSub to ti x σ M R := h
theorem w_I0 {g : Int → Int → PV} {i j : Int} {M : Mem} {Q : PQ} (h : Q (g i j) M) : oI0 g (.int i) (.int j) M Q := h
theorem w_mod {i j : Int} {M : Mem} {Q : PQ} (c : 0 < j) (h : Q (.int (i % j)) M) : oMod (.int i) (.int j) M Q := ⟨c, h⟩
theorem w_div {i j : Int} {M : Mem} {Q : PQ} (c : 0 < j ∧ j < 1073741824) (h : Q (.int (i / j)) M) : oDiv (.int i) (.int j) M Q := ⟨c, h⟩
theorem w_I {C : Int → Int → Prop} {g : Int → Int → PV} {i j : Int} {M : Mem} {Q : PQ} (c : C i j) (h : Q (g i j) M) : oI C g (.int i) (.int j) M Q := ⟨c, h⟩
theorem w_add {i j : Int} {M : Mem} {Q : PQ} (h : Q (.int (i + j)) M) : oAdd (.int i) (.int j) M Q := h
theorem w_addT {i j : List PV} {M : Mem} {Q : PQ} (c : i.length + j.length ≤ sizeLine) (h : Q (.tup (i ++ j)) M) : oAdd (.tup i) (.tup j) M Q := ⟨c, h⟩
theorem w_addL {i j : List PV} {M : Mem} {Q : PQ} (c : i.length + j.length ≤ sizeLine) (h : Q (.lst (i ++ j)) M) : oAdd (.lst i) (.lst j) M Q := ⟨c, h⟩
theorem w_neg {ta : PTE} {E : PXK} {σ : PSt} {M : Mem} {Q : PQ} (h : ta E σ M fun x M1 => kNeg x M1 Q) : pNeg ta E σ M Q := h
theorem w_negI {i : Int} {M : Mem} {Q : PQ} (h : Q (.int (-i)) M) : kNeg (.int i) M Q := h
theorem w_eqInt {i j : Int} {M : Mem} {Q : PQ} (h : Q (.bl (decide (i = j))) M) : oEq (.int i) (.int j) M Q := by rw [eq_int']; exact h
theorem w_neInt {i j : Int} {M : Mem} {Q : PQ} (h : Q (.bl (!decide (i = j))) M) : oNe (.int i) (.int j) M Q := by rw [ne_int']; exact h
theorem w_eqBl {i j : Bool} {M : Mem} {Q : PQ} (h : Q (.bl (decide (i = j))) M) : oEq (.bl i) (.bl j) M Q := by rw [eq_bl']; exact h
theorem w_neBl {i j : Bool} {M : Mem} {Q : PQ} (h : Q (.bl (!decide (i = j))) M) : oNe (.bl i) (.bl j) M Q := by rw [ne_bl']; exact h
theorem w_eqStr {i j : Str} {M : Mem} {Q : PQ} (h : Q (.bl (decide (i = j))) M) : oEq (.str i) (.str j) M Q := by rw [eq_str']; exact h
theorem w_neStr {i j : Str} {M : Mem} {Q : PQ} (h : Q (.bl (!decide (i = j))) M) : oNe (.str i) (.str j) M Q := by rw [ne_str']; exact h
theorem w_ixtup0 {a0 : PV} {l : List PV} {M : Mem} {Q : PQ} (h : Q a0 M) : oIx (.tup (a0 :: l)) (.int 0) M Q := by rw [PL.ix_tup, at_0]; exact h
theorem w_ixlst0 {a0 : PV} {l : List PV} {M : Mem} {Q : PQ} (h : Q a0 M) : oIx (.lst (a0 :: l)) (.int 0) M Q := by rw [PL.ix_lst, at_0]; exact h
theorem w_ixtup1 {a0 a1 : PV} {l : List PV} {M : Mem} {Q : PQ} (h : Q a1 M) : oIx (.tup (a0 :: a1 :: l)) (.int 1) M Q := by rw [PL.ix_tup, at_1]; exact h
theorem w_ixlst1 {a0 a1 : PV} {l : List PV} {M : Mem} {Q : PQ} (h : Q a1 M) : oIx (.lst (a0 :: a1 :: l)) (.int 1) M Q := by rw [PL.ix_lst, at_1]; exact h
theorem w_ixtup2 {a0 a1 a2 : PV} {l : List PV} {M : Mem} {Q : PQ} (h : Q a2 M) : oIx (.tup (a0 :: a1 :: a2 :: l)) (.int 2) M Q := by rw [PL.ix_tup, at_2]; exact h
theorem w_ixlst2 {a0 a1 a2 : PV} {l : List PV} {M : Mem} {Q : PQ} (h : Q a2 M) : oIx (.lst (a0 :: a1 :: a2 :: l)) (.int 2) M Q := by rw [PL.ix_lst, at_2]; exact h
theorem w_ixtup3 {a0 a1 a2 a3 : PV} {l : List PV} {M : Mem} {Q : PQ} (h : Q a3 M) : oIx (.tup (a0 :: a1 :: a2 :: a3 :: l)) (.int 3) M Q := by rw [PL.ix_tup, at_3]; exact h
theorem w_ixlst3 {a0 a1 a2 a3 : PV} {l : List PV} {M : Mem} {Q : PQ} (h : Q a3 M) : oIx (.lst (a0 :: a1 :: a2 :: a3 :: l)) (.int 3) M Q := by rw [PL.ix_lst, at_3]; exact h
theorem w_ixtup4 {a0 a1 a2 a3 a4 : PV} {l : List PV} {M : Mem} {Q : PQ} (h : Q a4 M) : oIx (.tup (a0 :: a1 :: a2 :: a3 :: a4 :: l)) (.int 4) M Q := by rw [PL.ix_tup, at_4]; exact h
theorem w_ixlst4 {a0 a1 a2 a3 a4 : PV} {l : List PV} {M : Mem} {Q : PQ} (h : Q a4 M) : oIx (.lst (a0 :: a1 :: a2 :: a3 :: a4 :: l)) (.int 4) M Q := by rw [PL.ix_lst, at_4]; exact h
theorem w_ixtup5 {a0 a1 a2 a3 a4 a5 : PV} {l : List PV} {M : Mem} {Q : PQ} (h : Q a5 M) : oIx (.tup (a0 :: a1 :: a2 :: a3 :: a4 :: a5 :: l)) (.int 5) M Q := by rw [PL.ix_tup, at_5]; exact h
theorem w_ixlst5 {a0 a1 a2 a3 a4 a5 : PV} {l : List PV} {M : Mem} {Q : PQ} (h : Q a5 M) : oIx (.lst (a0 :: a1 :: a2 :: a3 :: a4 :: a5 :: l)) (.int 5) M Q := by rw [PL.ix_lst, at_5]; exact h
theorem w_ixT {xs : List PV} {i : Int} {x : PV} {M : Mem} {Q : PQ} (e : L2.atI xs i = some x) (h : Q x M) : oIx (.tup xs) (.int i) M Q := by rw [PL.ix_tup, e]; exact h
theorem w_ixL {xs : List PV} {i : Int} {x : PV} {M : Mem} {Q : PQ} (e : L2.atI xs i = some x) (h : Q x M) : oIx (.lst xs) (.int i) M Q := by rw [PL.ix_lst, e]; exact h
theorem w_ixS {xs : List PV} {i : Int} {x : PV} {M : Mem} {Q : PQ} (e : L2.atI xs i = some x) (h : Q x M) : oIx (.scr xs) (.int i) M Q := by rw [ix_scr, e]; exact h
theorem w_ixP {a : Addr} {xs : List PV} {i : Int} {x : PV} {M : Mem} {Q : PQ} (m : M a = some (.lst xs)) (e : L2.atI xs i = some x) (h : Q x M) : oIx (.ptr a) (.int i) M Q := by rw [ix_ptr m, e]; exact h
theorem w_need {α : Type} {a : α} {k : α → Prop} (h : k a) : need (some a) k := h
theorem w_lentup {xs : List PV} {M : Mem} {Q : PQ} (h : Q (.int xs.length) M) : kLen (.tup xs) M Q := h
theorem w_lenlst {xs : List PV} {M : Mem} {Q : PQ} (h : Q (.int xs.length) M) : kLen (.lst xs) M Q := h
theorem w_lenscr {xs : List PV} {M : Mem} {Q : PQ} (h : Q (.int xs.length) M) : kLen (.scr xs) M Q := h
theorem w_lenP {a : Addr} {xs : List PV} {M : Mem} {Q : PQ} (m : M a = some (.lst xs)) (h : Q (.int xs.length) M) : kLen (.ptr a) M Q := by rw [len_ptr m]; exact h
theorem w_sl {ta : PTE} {tl th : PTO} {E : PXK} {σ : PSt} {M : Mem} {Q : PQ} (h : ta E σ M fun x M1 => tl E σ M1 fun l M2 => th E σ M2 fun u M3 => oSl x l u M3 Q) : pSl ta tl th E σ M Q := h
theorem w_nop {E : PXK} {σ : PSt} {M : Mem} {Q : Option Int → Mem → Prop} (h : Q none M) : pNoPart E σ M Q := h
theorem w_part {t : PTE} {E : PXK} {σ : PSt} {M : Mem} {Q : Option Int → Mem → Prop} (h : t E σ M fun x M1 => kPartI x fun o => Q o M1) : pPart t E σ M Q := h
theorem w_partI {i : Int} {k : Option Int → Prop} (h : k (some i)) : kPartI (.int i) k := h
theorem w_slT {xs : List PV} {lo hi : Option Int} {M : Mem} {Q : PQ} (h : Q (.tup (cutA xs lo hi)) M) : oSl (.tup xs) lo hi M Q := h
theorem w_slL {xs : List PV} {lo hi : Option Int} {M : Mem} {Q : PQ} (h : Q (.lst (cutA xs lo hi)) M) : oSl (.lst xs) lo hi M Q := h
theorem w_slS {xs : List PV} {lo hi : Option Int} {M : Mem} {Q : PQ} (h : Q (.lst (cutA xs lo hi)) M) : oSl (.scr xs) lo hi M Q := h
theorem w_slP {a : Addr} {xs : List PV} {lo hi : Option Int} {M : Mem} {Q : PQ} (m : M a = some (.lst xs)) (h : Q (.lst (cutA xs lo hi)) M) : oSl (.ptr a) lo hi M Q := by rw [sl_ptr m]; exact h
theorem w_abs {i : Int} {M : Mem} {Q : PQ} (h : Q (.int (if i < 0 then -i else i)) M) : kAbs (.int i) M Q := h
theorem w_int {i : Int} {M : Mem} {Q : PQ} (h : Q (.int i) M) : kInt (.int i) M Q := h
theorem w_listL {xs : List PV} {M : Mem} {Q : PQ} (h : Q (.lst xs) M) : kList (.lst xs) M Q := h
theorem w_listT {xs : List PV} {M : Mem} {Q : PQ} (h : Q (.lst xs) M) : kList (.tup xs) M Q := h
theorem w_listS {xs : List PV} {M : Mem} {Q : PQ} (h : Q (.lst xs) M) : kList (.scr xs) M Q := h
theorem w_listP {a : Addr} {xs : List PV} {M : Mem} {Q : PQ} (m : M a = some (.lst xs)) (h : Q (.lst xs) M) : kList (.ptr a) M Q := by rw [list_of (lstOf_ptr m)]; exact h
theorem w_tupL {xs : List PV} {M : Mem} {Q : PQ} (h : Q (.tup xs) M) : PL.kTup (.lst xs) M Q := h
theorem w_tupT {xs : List PV} {M : Mem} {Q : PQ} (h : Q (.tup xs) M) : PL.kTup (.tup xs) M Q := h
theorem w_tupP {a : Addr} {xs : List PV} {M : Mem} {Q : PQ} (m : M a = some (.lst xs)) (h : Q (.tup xs) M) : PL.kTup (.ptr a) M Q := by rw [tupOf_of (seqOf_ptr m)]; exact h
theorem w_listML {xs : List PV} {M : Mem} {Q : PQ} (h : ∀ p, M p = none → Q (.ptr p) (M.put p (.lst xs))) : kListM (.lst xs) M Q := h
theorem w_listMT {xs : List PV} {M : Mem} {Q : PQ} (h : ∀ p, M p = none → Q (.ptr p) (M.put p (.lst xs))) : kListM (.tup xs) M Q := h
theorem w_and {t u : PTT} {E : PXK} {σ : PSt} {M : Mem} {Q : Bool → Mem → Prop} (h : t E σ M fun c M1 => if c = true then u E σ M1 Q else Q false M1) : pAnd t u E σ M Q := h
theorem w_or {t u : PTT} {E : PXK} {σ : PSt} {M : Mem} {Q : Bool → Mem → Prop} (h : t E σ M fun c M1 => if c = true then Q true M1 else u E σ M1 Q) : pOr t u E σ M Q := h
theorem w_not {t : PTT} {E : PXK} {σ : PSt} {M : Mem} {Q : Bool → Mem → Prop} (h : t E σ M fun c M1 => Q (!c) M1) : pNot t E σ M Q := h
theorem w_andV {ta tb : PTE} {E : PXK} {σ : PSt} {M : Mem} {Q : PQ} (h : ta E σ M fun x M1 => kB x fun c => if c = true then tb E σ M1 Q else Q (.bl false) M1) : pAndV ta tb E σ M Q := h
theorem w_orV {ta tb : PTE} {E : PXK} {σ : PSt} {M : Mem} {Q : PQ} (h : ta E σ M fun x M1 => kB x fun c => if c = true then Q (.bl true) M1 else tb E σ M1 Q) : pOrV ta tb E σ M Q := h
theorem w_notV {ta : PTE} {E : PXK} {σ : PSt} {M : Mem} {Q : PQ} (h : ta E σ M fun x M1 => kB x fun c => Q (.bl (!c)) M1) : pNotV ta E σ M Q := h
theorem w_if {t : PTT} {ta tb : PTE} {E : PXK} {σ : PSt} {M : Mem} {Q : PQ} (h : t E σ M fun c M1 => if c = true then ta E σ M1 Q else tb E σ M1 Q) : pIf t ta tb E σ M Q := h
theorem w_isN {ta : PTE} {E : PXK} {σ : PSt} {M : Mem} {Q : PQ} (h : ta E σ M fun x M1 => Q (.bl (isNon x)) M1) : pIsN ta E σ M Q := h
theorem w_notN {ta : PTE} {E : PXK} {σ : PSt} {M : Mem} {Q : PQ} (h : ta E σ M fun x M1 => Q (.bl (!isNon x)) M1) : pNotN ta E σ M Q := h
theorem w_tisN {ta : PTE} {E : PXK} {σ : PSt} {M : Mem} {Q : Bool → Mem → Prop} (h : ta E σ M fun x M1 => Q (isNon x) M1) : pTIsN ta E σ M Q := h
theorem w_tnotN {ta : PTE} {E : PXK} {σ : PSt} {M : Mem} {Q : Bool → Mem → Prop} (h : ta E σ M fun x M1 => Q (!isNon x) M1) : pTNotN ta E σ M Q := h
theorem w_in_non  {A B : Prop} (h : A) : if isNon .non = true then A else B := by simpa [isNon] using h
theorem w_in_int {i : Int} {A B : Prop} (h : B) : if isNon (.int i) = true then A else B := by simpa [isNon] using h
theorem w_in_tup {l : List PV} {A B : Prop} (h : B) : if isNon (.tup l) = true then A else B := by simpa [isNon] using h
theorem w_in_lst {l : List PV} {A B : Prop} (h : B) : if isNon (.lst l) = true then A else B := by simpa [isNon] using h
theorem w_in_ptr {a : Addr} {A B : Prop} (h : B) : if isNon (.ptr a) = true then A else B := by simpa [isNon] using h
theorem w_in_str {s : Str} {A B : Prop} (h : B) : if isNon (.str s) = true then A else B := by simpa [isNon] using h
theorem w_in_bl {c : Bool} {A B : Prop} (h : B) : if isNon (.bl c) = true then A else B := by simpa [isNon] using h
theorem w_isB {a b : Bool} {M : Mem} {Q : PQ} (h : Q (.bl (decide (a = b))) M) : oIsB (.bl a) (.bl b) M Q := h
theorem w_notB {a b : Bool} {M : Mem} {Q : PQ} (h : Q (.bl (!decide (a = b))) M) : oNotB (.bl a) (.bl b) M Q := h
theorem w_for {wi : PTI} {g : PTG} {tb : PTS} {dn db dc : PNx} {dr : PQ} {de : PXK} {σ : PSt} {M : Mem} (h : wi de σ M fun xs M1 => pForL g tb xs (PEnds.mk dn dr de db dc) σ M1) : pFor wi g tb (PEnds.mk dn dr de db dc) σ M := h
theorem w_iL {te : PTE} {E : PXK} {σ : PSt} {M : Mem} {Q : List PV → Mem → Prop} (h : te E σ M fun x M1 => need (lstF x) fun xs => Q xs M1) : piL te E σ M Q := h
theorem w_iT {te : PTE} {E : PXK} {σ : PSt} {M : Mem} {Q : List PV → Mem → Prop} (h : te E σ M fun x M1 => need (tupF x) fun xs => Q xs M1) : piT te E σ M Q := h
theorem w_lstF {xs : List PV} {k : List PV → Prop} (h : k xs) : need (lstF (.lst xs)) k := h
theorem w_lstFs {xs : List PV} {k : List PV → Prop} (h : k xs) : need (lstF (.scr xs)) k := h
theorem w_tupF {xs : List PV} {k : List PV → Prop} (h : k xs) : need (tupF (.tup xs)) k := h
theorem w_R1 {te : PTE} {E : PXK} {σ : PSt} {M : Mem} {Q : List PV → Mem → Prop} (h : te E σ M fun x M1 => kR1 x M1 Q) : piR1 te E σ M Q := h
theorem w_R1I {j : Int} {M : Mem} {R : List PV → Mem → Prop} (c : -(2 ^ 62) ≤ j ∧ j < 2 ^ 62) (h : R (rngP 0 j.toNat) M) : kR1 (.int j) M R := ⟨c, h⟩
theorem w_R2 {ta tb : PTE} {E : PXK} {σ : PSt} {M : Mem} {Q : List PV → Mem → Prop} (h : ta E σ M fun x M1 => tb E σ M1 fun y M2 => kR2 x y M2 Q) : piR2 ta tb E σ M Q := h
theorem w_forM {te : PTE} {g : PTG} {tb : PTS} {dn db dc : PNx} {dr : PQ} {de : PXK} {σ : PSt} {M : Mem} (h : te de σ M fun x M1 => need (lstOf M1 x) fun xs => pForG (fun M => lstOf M x = some xs) g tb xs (PEnds.mk dn dr de db dc) σ M1) : pForM te g tb (PEnds.mk dn dr de db dc) σ M := h
theorem w_brk {dn db dc : PNx} {dr : PQ} {de : PXK} {σ : PSt} {M : Mem} (h : db σ M) : pBreak (PEnds.mk dn dr de db dc) σ M := h
theorem w_cnt {dn db dc : PNx} {dr : PQ} {de : PXK} {σ : PSt} {M : Mem} (h : dc σ M) : pCont (PEnds.mk dn dr de db dc) σ M := h
theorem w_lc {wi : PTI} {i : Nat} {tt : PTT} {te : PTE} {E : PXK} {σ : PSt} {M : Mem} {Q : PQ} (h : wi E σ M fun xs M1 => xs.length ≤ sizeLine ∧ pLcL i tt te xs [] σ M1 Q) : pLc wi i tt te E σ M Q := h
theorem w_lcnil {i : Nat} {tt : PTT} {te : PTE} {acc : List PV} {σ : PSt} {M : Mem} {Q : PQ} (h : Q (.lst acc) M) : pLcL i tt te [] acc σ M Q := h
theorem w_lccons {i : Nat} {te : PTE} {x : PV} {xs acc : List PV} {σ : PSt} {M : Mem} {Q : PQ} (h : te noX (σ.set i (some x)) M fun y M2 => pLcL i pYes te xs (acc ++ [y]) σ M2 Q) : pLcL i pYes te (x :: xs) acc σ M Q := h
theorem w_fld {C : Addr} {ta : PTE} {f : Str} {E : PXK} {σ : PSt} {M : Mem} {Q : PQ} (h : ta E σ M fun x M1 => need (fldOf M1 C f x) fun v => Q v M1) : pFld C ta f E σ M Q := h
theorem w_fldO {C : Addr} {f : Str} {fs : List (Str × PV)} {v : PV} {M : Mem} {k : PV → Prop} (e : fs.lookup f = some v) (h : k v) : need (fldOf M C f (.obj C fs)) k := by
  have e2 : fldOf M C f (.obj C fs) = some v := (if_pos rfl).trans e
  rw [e2]; exact h
theorem w_meth {C : Addr} {m : Str} {sp : PSp} {ta : PTE} {t : PTA} {E : PXK} {σ : PSt} {M : Mem} {Q : PQ} (h : ta E σ M fun x M1 => need (objOf M1 C x) fun fs => fs.lookup m = none ∧ t E σ M1 fun xs M2 => sp (x :: xs) M2 Q E) : pMeth C m sp ta t E σ M Q := h
theorem w_objO {C : Addr} {m : Str} {fs : List (Str × PV)} {M : Mem} {A : Prop} (e : fs.lookup m = none) (h : A) : need (objOf M C (.obj C fs)) fun fs => fs.lookup m = none ∧ A := by
  have e2 : objOf M C (.obj C fs) = some fs := if_pos rfl
  rw [e2]; exact ⟨e, h⟩
theorem w_make {C : Addr} {sp : PSp} {t : PTA} {E : PXK} {σ : PSt} {M : Mem} {Q : PQ} (h : t E σ M fun xs M1 => ∀ p, M1 p = none → sp (.ptr p :: xs) (M1.put p (.obj C [])) (fun r M2 => isNon r = true ∧ match M2 p with | some (.obj C' fs) => C' = C ∧ Q (.obj C fs) (M2.drop p) | _ => False) E) : pMake C sp t E σ M Q := h
theorem w_fldS {C : Addr} {f : Str} {to tv : PTE} {dn db dc : PNx} {dr : PQ} {de : PXK} {σ : PSt} {M : Mem} (h : tv de σ M fun x M1 => to de σ M1 fun o M2 => kPutF C f x o M2 fun M3 => dn σ M3) : pFldS C f to tv (PEnds.mk dn dr de db dc) σ M := h
theorem w_app {to te : PTE} {E : PXK} {σ : PSt} {M : Mem} {Q : PQ} (h : to E σ M fun o M1 => lstOf M1 o ≠ none ∧ te E σ M1 fun x M2 => kApp o x M2 Q) : pApp to te E σ M Q := h
theorem w_retF {te : PTE} {dn db dc : PNx} {dr : PQ} {de : PXK} {σ : PSt} {M : Mem} (h : te de σ M fun x M1 => kFz x M1 dr) : pRetF te (PEnds.mk dn dr de db dc) σ M := h
theorem w_retD {js : List Nat} {te : PTE} {dn db dc : PNx} {dr : PQ} {de : PXK} {σ : PSt} {M : Mem} (h : te de σ M fun x M1 => dr x (dropSlots σ js M1)) : pRetD js te (PEnds.mk dn dr de db dc) σ M := h
theorem w_retFD {js : List Nat} {te : PTE} {dn db dc : PNx} {dr : PQ} {de : PXK} {σ : PSt} {M : Mem} (h : te de σ M fun x M1 => kFz x M1 fun y M2 => dr y (dropSlots σ js M2)) : pRetFD js te (PEnds.mk dn dr de db dc) σ M := h
theorem w_raise {C : Addr} {dn db dc : PNx} {dr : PQ} {de : PXK} {σ : PSt} {M : Mem} (h : de C [] M) : pRaise C (PEnds.mk dn dr de db dc) σ M := h
theorem w_aug {i : Nat} {o : PO2} {te : PTE} {x : PV} {f : PV → PSt} {dn db dc : PNx} {dr : PQ} {de : PXK} {σ : PSt} {M : Mem} (e : σ[i]? = some (some x)) (g : ∀ x, σ.set i (some x) = f x) (h : te de σ M fun y M1 => o x y M1 fun z M2 => dn (f z) M2) : pAug i o te (PEnds.mk dn dr de db dc) σ M := by unfold pAug; rw [e]; simp only [g]; exact h
theorem w_try {n i : Nat} {exm : Addr → Option Bool} {tb : PTS} {ts : Addr → Addr → PTS} {dn db dc : PNx} {dr : PQ} {de : PXK} {σ : PSt} {M : Mem} (h : tb (PEnds.mk dn dr (fun C fs M' => need (exm C) fun b => (b = true → fs = [] ∧ ∀ a, M' a = none → ts C a { nx := fun σ' M'' => dn (σ'.set i none) M'', rt := dr, ex := noX, bk := fun σ' M'' => db (σ'.set i none) M'', ct := fun σ' M'' => dc (σ'.set i none) M'' } ((List.replicate n none).set i (some (.ptr a))) M') ∧ (b = false → de C fs M') ) db dc) σ M) : pTryAs n i exm tb ts (PEnds.mk dn dr de db dc) σ M := h
theorem w_isi_i {i : Int} {T : String} {b : Bool} {M : Mem} {Q : PQ} (e : kitB "int" T = some b) (h : Q (.bl b) M) : kIsi T (.int i) M Q := need_by e h
theorem w_isi_b {c : Bool} {T : String} {b : Bool} {M : Mem} {Q : PQ} (e : kitB "bool" T = some b) (h : Q (.bl b) M) : kIsi T (.bl c) M Q := need_by e h
theorem w_isi_t {l : List PV} {T : String} {b : Bool} {M : Mem} {Q : PQ} (e : kitB "tuple" T = some b) (h : Q (.bl b) M) : kIsi T (.tup l) M Q := need_by e h
theorem w_isi_l {l : List PV} {T : String} {b : Bool} {M : Mem} {Q : PQ} (e : kitB "list" T = some b) (h : Q (.bl b) M) : kIsi T (.lst l) M Q := need_by e h
theorem w_isi_s {s : Str} {T : String} {b : Bool} {M : Mem} {Q : PQ} (e : kitB "str" T = some b) (h : Q (.bl b) M) : kIsi T (.str s) M Q := need_by e h
theorem w_isi_n  {T : String} {b : Bool} {M : Mem} {Q : PQ} (e : kitB "NoneType" T = some b) (h : Q (.bl b) M) : kIsi T .non M Q := need_by e h
theorem set_h0 {α : Type} {a0 y : α} {l : List α} : (a0 :: l).set 0 y = y :: l := rfl
theorem set_h1 {α : Type} {a0 a1 y : α} {l : List α} : (a0 :: a1 :: l).set 1 y = a0 :: y :: l := rfl
theorem set_h2 {α : Type} {a0 a1 a2 y : α} {l : List α} : (a0 :: a1 :: a2 :: l).set 2 y = a0 :: a1 :: y :: l := rfl
theorem set_h3 {α : Type} {a0 a1 a2 a3 y : α} {l : List α} : (a0 :: a1 :: a2 :: a3 :: l).set 3 y = a0 :: a1 :: a2 :: y :: l := rfl
theorem set_h4 {α : Type} {a0 a1 a2 a3 a4 y : α} {l : List α} : (a0 :: a1 :: a2 :: a3 :: a4 :: l).set 4 y = a0 :: a1 :: a2 :: a3 :: y :: l := rfl
theorem set_h5 {α : Type} {a0 a1 a2 a3 a4 a5 y : α} {l : List α} : (a0 :: a1 :: a2 :: a3 :: a4 :: a5 :: l).set 5 y = a0 :: a1 :: a2 :: a3 :: a4 :: y :: l := rfl
theorem set_h6 {α : Type} {a0 a1 a2 a3 a4 a5 a6 y : α} {l : List α} : (a0 :: a1 :: a2 :: a3 :: a4 :: a5 :: a6 :: l).set 6 y = a0 :: a1 :: a2 :: a3 :: a4 :: a5 :: y :: l := rfl
theorem set_h7 {α : Type} {a0 a1 a2 a3 a4 a5 a6 a7 y : α} {l : List α} : (a0 :: a1 :: a2 :: a3 :: a4 :: a5 :: a6 :: a7 :: l).set 7 y = a0 :: a1 :: a2 :: a3 :: a4 :: a5 :: a6 :: y :: l := rfl
theorem set_h8 {α : Type} {a0 a1 a2 a3 a4 a5 a6 a7 a8 y : α} {l : List α} : (a0 :: a1 :: a2 :: a3 :: a4 :: a5 :: a6 :: a7 :: a8 :: l).set 8 y = a0 :: a1 :: a2 :: a3 :: a4 :: a5 :: a6 :: a7 :: y :: l := rfl
theorem set_h9 {α : Type} {a0 a1 a2 a3 a4 a5 a6 a7 a8 a9 y : α} {l : List α} : (a0 :: a1 :: a2 :: a3 :: a4 :: a5 :: a6 :: a7 :: a8 :: a9 :: l).set 9 y = a0 :: a1 :: a2 :: a3 :: a4 :: a5 :: a6 :: a7 :: a8 :: y :: l := rfl
theorem set_h10 {α : Type} {a0 a1 a2 a3 a4 a5 a6 a7 a8 a9 a10 y : α} {l : List α} : (a0 :: a1 :: a2 :: a3 :: a4 :: a5 :: a6 :: a7 :: a8 :: a9 :: a10 :: l).set 10 y = a0 :: a1 :: a2 :: a3 :: a4 :: a5 :: a6 :: a7 :: a8 :: a9 :: y :: l := rfl
theorem set_h11 {α : Type} {a0 a1 a2 a3 a4 a5 a6 a7 a8 a9 a10 a11 y : α} {l : List α} : (a0 :: a1 :: a2 :: a3 :: a4 :: a5 :: a6 :: a7 :: a8 :: a9 :: a10 :: a11 :: l).set 11 y = a0 :: a1 :: a2 :: a3 :: a4 :: a5 :: a6 :: a7 :: a8 :: a9 :: a10 :: y :: l := rfl
theorem set_h12 {α : Type} {a0 a1 a2 a3 a4 a5 a6 a7 a8 a9 a10 a11 a12 y : α} {l : List α} : (a0 :: a1 :: a2 :: a3 :: a4 :: a5 :: a6 :: a7 :: a8 :: a9 :: a10 :: a11 :: a12 :: l).set 12 y = a0 :: a1 :: a2 :: a3 :: a4 :: a5 :: a6 :: a7 :: a8 :: a9 :: a10 :: a11 :: y :: l := rfl
theorem set_h13 {α : Type} {a0 a1 a2 a3 a4 a5 a6 a7 a8 a9 a10 a11 a12 a13 y : α} {l : List α} : (a0 :: a1 :: a2 :: a3 :: a4 :: a5 :: a6 :: a7 :: a8 :: a9 :: a10 :: a11 :: a12 :: a13 :: l).set 13 y = a0 :: a1 :: a2 :: a3 :: a4 :: a5 :: a6 :: a7 :: a8 :: a9 :: a10 :: a11 :: a12 :: y :: l := rfl
theorem set_h14 {α : Type} {a0 a1 a2 a3 a4 a5 a6 a7 a8 a9 a10 a11 a12 a13 a14 y : α} {l : List α} : (a0 :: a1 :: a2 :: a3 :: a4 :: a5 :: a6 :: a7 :: a8 :: a9 :: a10 :: a11 :: a12 :: a13 :: a14 :: l).set 14 y = a0 :: a1 :: a2 :: a3 :: a4 :: a5 :: a6 :: a7 :: a8 :: a9 :: a10 :: a11 :: a12 :: a13 :: y :: l := rfl
theorem set_h15 {α : Type} {a0 a1 a2 a3 a4 a5 a6 a7 a8 a9 a10 a11 a12 a13 a14 a15 y : α} {l : List α} : (a0 :: a1 :: a2 :: a3 :: a4 :: a5 :: a6 :: a7 :: a8 :: a9 :: a10 :: a11 :: a12 :: a13 :: a14 :: a15 :: l).set 15 y = a0 :: a1 :: a2 :: a3 :: a4 :: a5 :: a6 :: a7 :: a8 :: a9 :: a10 :: a11 :: a12 :: a13 :: a14 :: y :: l := rfl
theorem set_h16 {α : Type} {a0 a1 a2 a3 a4 a5 a6 a7 a8 a9 a10 a11 a12 a13 a14 a15 a16 y : α} {l : List α} : (a0 :: a1 :: a2 :: a3 :: a4 :: a5 :: a6 :: a7 :: a8 :: a9 :: a10 :: a11 :: a12 :: a13 :: a14 :: a15 :: a16 :: l).set 16 y = a0 :: a1 :: a2 :: a3 :: a4 :: a5 :: a6 :: a7 :: a8 :: a9 :: a10 :: a11 :: a12 :: a13 :: a14 :: a15 :: y :: l := rfl
theorem set_h17 {α : Type} {a0 a1 a2 a3 a4 a5 a6 a7 a8 a9 a10 a11 a12 a13 a14 a15 a16 a17 y : α} {l : List α} : (a0 :: a1 :: a2 :: a3 :: a4 :: a5 :: a6 :: a7 :: a8 :: a9 :: a10 :: a11 :: a12 :: a13 :: a14 :: a15 :: a16 :: a17 :: l).set 17 y = a0 :: a1 :: a2 :: a3 :: a4 :: a5 :: a6 :: a7 :: a8 :: a9 :: a10 :: a11 :: a12 :: a13 :: a14 :: a15 :: a16 :: y :: l := rfl
theorem set_h18 {α : Type} {a0 a1 a2 a3 a4 a5 a6 a7 a8 a9 a10 a11 a12 a13 a14 a15 a16 a17 a18 y : α} {l : List α} : (a0 :: a1 :: a2 :: a3 :: a4 :: a5 :: a6 :: a7 :: a8 :: a9 :: a10 :: a11 :: a12 :: a13 :: a14 :: a15 :: a16 :: a17 :: a18 :: l).set 18 y = a0 :: a1 :: a2 :: a3 :: a4 :: a5 :: a6 :: a7 :: a8 :: a9 :: a10 :: a11 :: a12 :: a13 :: a14 :: a15 :: a16 :: a17 :: y :: l := rfl
theorem set_h19 {α : Type} {a0 a1 a2 a3 a4 a5 a6 a7 a8 a9 a10 a11 a12 a13 a14 a15 a16 a17 a18 a19 y : α} {l : List α} : (a0 :: a1 :: a2 :: a3 :: a4 :: a5 :: a6 :: a7 :: a8 :: a9 :: a10 :: a11 :: a12 :: a13 :: a14 :: a15 :: a16 :: a17 :: a18 :: a19 :: l).set 19 y = a0 :: a1 :: a2 :: a3 :: a4 :: a5 :: a6 :: a7 :: a8 :: a9 :: a10 :: a11 :: a12 :: a13 :: a14 :: a15 :: a16 :: a17 :: a18 :: y :: l := rfl
theorem set_h20 {α : Type} {a0 a1 a2 a3 a4 a5 a6 a7 a8 a9 a10 a11 a12 a13 a14 a15 a16 a17 a18 a19 a20 y : α} {l : List α} : (a0 :: a1 :: a2 :: a3 :: a4 :: a5 :: a6 :: a7 :: a8 :: a9 :: a10 :: a11 :: a12 :: a13 :: a14 :: a15 :: a16 :: a17 :: a18 :: a19 :: a20 :: l).set 20 y = a0 :: a1 :: a2 :: a3 :: a4 :: a5 :: a6 :: a7 :: a8 :: a9 :: a10 :: a11 :: a12 :: a13 :: a14 :: a15 :: a16 :: a17 :: a18 :: a19 :: y :: l := rfl
theorem set_h21 {α : Type} {a0 a1 a2 a3 a4 a5 a6 a7 a8 a9 a10 a11 a12 a13 a14 a15 a16 a17 a18 a19 a20 a21 y : α} {l : List α} : (a0 :: a1 :: a2 :: a3 :: a4 :: a5 :: a6 :: a7 :: a8 :: a9 :: a10 :: a11 :: a12 :: a13 :: a14 :: a15 :: a16 :: a17 :: a18 :: a19 :: a20 :: a21 :: l).set 21 y = a0 :: a1 :: a2 :: a3 :: a4 :: a5 :: a6 :: a7 :: a8 :: a9 :: a10 :: a11 :: a12 :: a13 :: a14 :: a15 :: a16 :: a17 :: a18 :: a19 :: a20 :: y :: l := rfl
theorem set_h22 {α : Type} {a0 a1 a2 a3 a4 a5 a6 a7 a8 a9 a10 a11 a12 a13 a14 a15 a16 a17 a18 a19 a20 a21 a22 y : α} {l : List α} : (a0 :: a1 :: a2 :: a3 :: a4 :: a5 :: a6 :: a7 :: a8 :: a9 :: a10 :: a11 :: a12 :: a13 :: a14 :: a15 :: a16 :: a17 :: a18 :: a19 :: a20 :: a21 :: a22 :: l).set 22 y = a0 :: a1 :: a2 :: a3 :: a4 :: a5 :: a6 :: a7 :: a8 :: a9 :: a10 :: a11 :: a12 :: a13 :: a14 :: a15 :: a16 :: a17 :: a18 :: a19 :: a20 :: a21 :: y :: l := rfl
theorem set_h23 {α : Type} {a0 a1 a2 a3 a4 a5 a6 a7 a8 a9 a10 a11 a12 a13 a14 a15 a16 a17 a18 a19 a20 a21 a22 a23 y : α} {l : List α} : (a0 :: a1 :: a2 :: a3 :: a4 :: a5 :: a6 :: a7 :: a8 :: a9 :: a10 :: a11 :: a12 :: a13 :: a14 :: a15 :: a16 :: a17 :: a18 :: a19 :: a20 :: a21 :: a22 :: a23 :: l).set 23 y = a0 :: a1 :: a2 :: a3 :: a4 :: a5 :: a6 :: a7 :: a8 :: a9 :: a10 :: a11 :: a12 :: a13 :: a14 :: a15 :: a16 :: a17 :: a18 :: a19 :: a20 :: a21 :: a22 :: y :: l := rfl
theorem set_h24 {α : Type} {a0 a1 a2 a3 a4 a5 a6 a7 a8 a9 a10 a11 a12 a13 a14 a15 a16 a17 a18 a19 a20 a21 a22 a23 a24 y : α} {l : List α} : (a0 :: a1 :: a2 :: a3 :: a4 :: a5 :: a6 :: a7 :: a8 :: a9 :: a10 :: a11 :: a12 :: a13 :: a14 :: a15 :: a16 :: a17 :: a18 :: a19 :: a20 :: a21 :: a22 :: a23 :: a24 :: l).set 24 y = a0 :: a1 :: a2 :: a3 :: a4 :: a5 :: a6 :: a7 :: a8 :: a9 :: a10 :: a11 :: a12 :: a13 :: a14 :: a15 :: a16 :: a17 :: a18 :: a19 :: a20 :: a21 :: a22 :: a23 :: y :: l := rfl
theorem set_h25 {α : Type} {a0 a1 a2 a3 a4 a5 a6 a7 a8 a9 a10 a11 a12 a13 a14 a15 a16 a17 a18 a19 a20 a21 a22 a23 a24 a25 y : α} {l : List α} : (a0 :: a1 :: a2 :: a3 :: a4 :: a5 :: a6 :: a7 :: a8 :: a9 :: a10 :: a11 :: a12 :: a13 :: a14 :: a15 :: a16 :: a17 :: a18 :: a19 :: a20 :: a21 :: a22 :: a23 :: a24 :: a25 :: l).set 25 y = a0 :: a1 :: a2 :: a3 :: a4 :: a5 :: a6 :: a7 :: a8 :: a9 :: a10 :: a11 :: a12 :: a13 :: a14 :: a15 :: a16 :: a17 :: a18 :: a19 :: a20 :: a21 :: a22 :: a23 :: a24 :: y :: l := rfl
theorem at_mem {α : Type} (xs : List α) {i : Int} (h0 : 0 ≤ i) (h1 : i < xs.length) : ∃ c, c ∈ xs ∧ L2.atI xs i = some c := by
  have h2 : i.toNat < xs.length := by omega
  exact ⟨xs[i.toNat], List.getElem_mem h2, by rw [at_pos xs h0, List.getElem?_eq_getElem h2]⟩
end PL
set_option Elab.async false
set_option linter.all false
set_option maxRecDepth 100000
namespace PL
open PySem PySem.Spec PyProof.Rows L2
section
variable {X : Cx} {a b c e : Expr} {ta tb tc te to : PTE} {pos p : Pos} {es : List Expr} {t : PTA} {x : Str}
/-! ### what never changes from now on, in the midst of an expression -/
def pFzE (te : PTE) : PTE := fun E σ M Q => te E σ M fun x M1 => kFz x M1 Q
theorem LE.fz (he : LE X e te) : LE X e (pFzE te) := by
  refine ⟨fun σv H σ F M Q E tk rm rs h => ?_⟩
  refine (he.run σv H σ F M _ E tk rm rs h).mono ?_
  rintro v H1 ⟨F1, M1, x, b1, rx, hx⟩
  exact LQ.tr b1 (R.fz b1.rm rx hx)
theorem w_fzE {E : PXK} {σ : PSt} {M : Mem} {Q : PQ} (h : te E σ M fun x M1 => kFz x M1 Q) : pFzE te E σ M Q := h
theorem w_fzP {p : Addr} {xs : List PV} {M : Mem} {Q : PQ} (e : M p = some (.lst xs)) (h : Q (.lst xs) (M.drop p)) : kFz (.ptr p) M Q := by rw [fz_ptr e]; exact h
/-! ### list(range(n)) -/
def kLstRg (x : PV) (M : Mem) (Q : PQ) : Prop := match x with | .int j => (0 ≤ j ∧ j ≤ 16777216) ∧ ∀ p, M p = none → Q (.ptr p) (M.put p (.lst (rngP 0 j.toNat))) | _ => False
def pLstRg (te : PTE) : PTE := fun E σ M Q => te E σ M fun x M1 => kLstRg x M1 Q
theorem rall_rng {K : PySem.W.Frag} {F : Hp} : ∀ ns : List Nat, RAll K F (ns.map fun (i : Nat) => PV.int (0 + (i : Int))) (ns.map fun (i : Nat) => V.int (0 + (i : Int)))
  | [] => .nil
  | n :: r => .cons (.int _) (rall_rng r)
theorem LE.listRg {pr pl : Pos} (hc : X.calm = true) (hg : Gl X "list") (hm : X.mg "list" = none) (hg2 : Gl X "range") (hm2 : X.mg "range" = none) (ha : LE X a ta) (na : starEach [a] X.env = (false, eval a X.env) :: starEach [] X.env := by rfl)
    (ne : starEach [.Call (.Name "range" pr) [a] [] p] X.env = (false, eval (.Call (.Name "range" pr) [a] [] p) X.env) :: starEach [] X.env := by rfl) :
    LE X (.Call (.Name "list" pl) [.Call (.Name "range" pr) [a] [] p] [] pos) (pLstRg ta) := by
  refine ⟨fun σv H σ F M Q E tk rm rs h => WE.of (pe_listRg hc hg hm (prg_1 hg2 hm2 WE.pe na) ne) ?_⟩
  refine (ha.run σv H σ F M _ E tk rm rs h).mono ?_
  rintro v H1 ⟨F1, M1, x, b1, rx, hx⟩
  cases rx with
  | int j =>
    obtain ⟨⟨h0, h1⟩, hx⟩ := hx
    refine ⟨j, rfl, .of_le (Int.le_refl 0) h1 (by decide) h0, fun q nq => ?_⟩
    have eq : (j - 0).toNat = j.toNat := by rw [Int.sub_zero]
    have rr : RAll X.K F1 (rngP 0 j.toNat) (rgV 0 j) := by
      unfold rngP rgV
      rw [eq]
      exact rall_rng _
    exact ⟨_, _, _, b1.trans (b1.rm.behNew nq (.lst rr)), .ptr q, hx q (b1.rm.nones nq).2⟩
  | _ => exact hx.elim
theorem w_lstRg {E : PXK} {σ : PSt} {M : Mem} {Q : PQ} (h : te E σ M fun x M1 => kLstRg x M1 Q) : pLstRg te E σ M Q := h
/-! ### xs.pop(i) of a list that may change -/
def kPop (o i : PV) (M : Mem) (Q : PQ) : Prop := match o, i with
  | .ptr p, .int k => match M p with
    | some (.lst xs) => (0 ≤ k ∧ k < xs.length ∧ xs.length < 2 ^ 62) ∧ need xs[k.toNat]? fun y => Q y (M.put p (.lst (xs.eraseIdx k.toNat)))
    | _ => False
  | _, _ => False
def pPop (to te : PTE) : PTE := fun E σ M Q => to E σ M fun o M1 => lstOf M1 o ≠ none ∧ te E σ M1 fun i M2 => kPop o i M2 Q
theorem rall_erase {K : PySem.W.Frag} {F : Hp} : ∀ {xs : List PV} {vs : List V} (k : Nat), RAll K F xs vs → RAll K F (xs.eraseIdx k) (vs.eraseIdx k)
  | _, _, _, .nil => .nil
  | _, _, 0, .cons _ r => r
  | _, _, k + 1, .cons h r => .cons h (rall_erase k r)
theorem rall_get {K : PySem.W.Frag} {F : Hp} : ∀ {xs : List PV} {vs : List V} {k : Nat} {y : PV}, RAll K F xs vs → xs[k]? = some y → ∃ v, vs[k]? = some v ∧ R K F y v
  | _, _, 0, _, .cons h r, e => by cases e; exact ⟨_, rfl, h⟩
  | _, _, k + 1, _, .cons h r, e => rall_get (k := k) r e
theorem LE.popAt {apos : Pos} (ho : LE X a to) (he : LE X e te) (hbase : attributeBase a "pop" X.env (eval a X.env) = eval a X.env := by rfl)
    (hfew : ((backTo pos (starEach [e] X.env)).all (fun x => !x.1) && (backToKw pos (keywordEach [] X.env)).all (fun x => x.1.isSome) && decide ([e].length + ([] : List Keyword).length + (if ([] : List Keyword).isEmpty then 0 else 1) < 30)) = true := by rfl)
    (hline : (apos.endLine == pos.line) = true := by rfl) (hs : starEach [e] X.env = (false, eval e X.env) :: starEach [] X.env := by rfl) (hplain : (backTo pos (starEach [] X.env)).any (·.1) = false := by rfl) :
    LE X (.Call (.Attribute a "pop" apos) [e] [] pos) (pPop to te) := by
  refine ⟨fun σv H σ F M Q E tk rm rs h => WE.of (pe_bm PySem.F.plainAttrs_list PySem.F.slot_list_pop PySem.F.type_list_pop mt_popAt WE.pe (pa_cons WE.pe pa_nil hs) hbase hfew hline hs hplain) ?_⟩
  refine (ho.run σv H σ F M _ E tk rm rs h).mono ?_
  rintro v H1 ⟨F1, M1, x, b1, rx, hl, hx⟩
  refine ⟨?_, ?_⟩
  · cases hq : lstOf M1 x with
    | none => exact absurd hq hl
    | some xs =>
      obtain ⟨q, ws, ev, hs, _⟩ := rx.lstI b1.rm hq
      subst ev
      exact .inl ⟨rfl, _, hs⟩
  · refine (he.run σv H1 σ F1 M1 _ E (tk.tr b1) b1.rm (rs.same b1.sm) hx).mono ?_
    rintro w H2 ⟨F2, M2, y, b2, ry, hy⟩
    unfold kPop at hy
    split at hy
    · rename_i p k
      cases rx
      cases ry
      split at hy
      · rename_i xs hm
        obtain ⟨u, e2, ru⟩ := b2.rm.mu _ _ hm
        obtain ⟨⟨h1, h2, h3⟩, h4⟩ := hy
        obtain ⟨y, e3, h4⟩ := need_of h4
        cases ru with
        | lst ru =>
          rename_i vs
          obtain ⟨z, e4, rz⟩ := rall_get ru e3
          have hk : k = ((k.toNat : Nat) : Int) := (Int.toNat_of_nonneg h1).symm
          have lz := ru.length
          refine ⟨p, vs, k, k.toNat, z, rfl, rfl, e2, by omega, by omega, ?_, e4, ?_⟩
          · unfold seqIndex?
            simp only [if_neg (show ¬ k < 0 from by omega)]
            rw [if_pos (by simp only [Bool.and_eq_true, decide_eq_true_eq]; exact ⟨h1, by omega⟩)]
          · have b3 := b2.rm.behWrite (o := .lst _) hm (.lst (rall_erase k.toNat ru))
            exact ⟨F2, _, _, (b1.trans b2).trans b3, rz, h4⟩
      · exact hy.elim
    · exact hy.elim
theorem w_pop {E : PXK} {σ : PSt} {M : Mem} {Q : PQ} (h : to E σ M fun o M1 => lstOf M1 o ≠ none ∧ te E σ M1 fun i M2 => kPop o i M2 Q) : pPop to te E σ M Q := h
/-! ### sorted(xs) of ints -/
def kSort (x : PV) (M : Mem) (Q : PQ) : Prop := need (lstOf M x) fun xs => need (intsOf xs) fun ns => ∀ ns' : List Int, ns'.Perm ns → ns'.Pairwise (· ≤ ·) → Q (.lst (ns'.map .int)) M
theorem rall_intsV {K : PySem.W.Frag} {F : Hp} : ∀ ns : List Int, RAll K F (ns.map PV.int) (ns.map V.int)
  | [] => .nil
  | n :: r => .cons (.int n) (rall_intsV r)
theorem LE.sorted (hg : Gl X "sorted") (hm : X.mg "sorted" = none) (ha : LA X [e] t) (he : starEach [e] X.env = (false, eval e X.env) :: starEach [] X.env := by rfl) : LE X (.Call (.Name "sorted" p) [e] [] pos) (pCallB (on1 kSort) t) := by
  refine LE.callB cr_sortedI (fun F M H xs vs Q Qv rm rx h k => ?_) hg hm (by decide +kernel) ha (he := he)
  obtain ⟨x, ex, h1⟩ := on1_of h
  subst ex
  obtain ⟨v, ev, rx1⟩ := rx.one
  subst ev
  obtain ⟨ys, e1, h2⟩ := need_of h1
  obtain ⟨ns, e2, h3⟩ := need_of h2
  obtain ⟨q, ws, ev, hs, ra⟩ := rx1.lstI rm e1
  subst ev
  rw [intsOf_eq e2] at ra
  rw [ra.intsI] at hs
  refine ⟨q, ns, rfl, hs, fun ns' l h5 h6 nl => k _ _ ⟨_, M, _, rm.beh nl, .lst upd_same (rall_intsV ns'), h3 ns' h5 h6⟩⟩
theorem w_sort {x : PV} {xs : List PV} {ns : List Int} {M : Mem} {Q : PQ} (e1 : lstOf M x = some xs) (e2 : intsOf xs = some ns) (h : ∀ ns' : List Int, ns'.Perm ns → ns'.Pairwise (· ≤ ·) → Q (.lst (ns'.map .int)) M) : kSort x M Q := need_by e1 (need_by e2 h)
/-! ### xs[::-1] of a list -/
def kRev (x : PV) (M : Mem) (Q : PQ) : Prop := need (lstOf M x) fun xs => Q (.lst xs.reverse) M
def pRev (te : PTE) : PTE := fun E σ M Q => te E σ M fun x M1 => kRev x M1 Q
theorem RAll.rev {K : PySem.W.Frag} {F : Hp} : ∀ {xs : List PV} {vs : List V}, RAll K F xs vs → RAll K F xs.reverse vs.reverse
  | _, _, .nil => .nil
  | _, _, .cons h r => by
    rw [List.reverse_cons, List.reverse_cons]
    exact (RAll.rev r).append (.cons h .nil)
theorem LE.revL {k : Nat} {p1 p2 p3 : Pos} (he : LE X e te) : LE X (.Subscript e (.Slice none none (some (.UnaryOp .USub (.Constant (.int 1) k p1) p2)) p3) pos) (pRev te) := by
  refine ⟨fun σv H σ F M Q E tk rm rs h => WE.of (pe_revL WE.pe) ?_⟩
  refine (he.run σv H σ F M _ E tk rm rs h).mono ?_
  rintro v H1 ⟨F1, M1, x, b1, rx, hx⟩
  obtain ⟨xs, e1, h2⟩ := need_of hx
  obtain ⟨q, ws, ev, hs, ra⟩ := rx.lstI b1.rm e1
  subst ev
  exact ⟨q, ws, rfl, hs, fun l nl => ⟨_, M1, _, b1.trans (b1.rm.beh nl), .lst upd_same (ra.rev.same (b1.rm.beh (o := .lst ws.reverse) nl).sm), h2⟩⟩
theorem w_rev {E : PXK} {σ : PSt} {M : Mem} {Q : PQ} (h : te E σ M fun x M1 => kRev x M1 Q) : pRev te E σ M Q := h
theorem w_revL {xs : List PV} {M : Mem} {Q : PQ} (h : Q (.lst xs.reverse) M) : kRev (.lst xs) M Q := h
/-! ### x in t, a tuple -/
def inP (x y : PV) (k : Bool → Prop) : Prop := match y with
  | .tup ys => need (toD x) fun d => need (toDs ys) fun ds => d.depth ≤ 64 ∧ k (ds.any fun z => PyData.eqv z d)
  | _ => False
def oIn : PO2 := fun x y M Q => inP x y fun b => Q (.bl b) M
def oNin : PO2 := fun x y M Q => inP x y fun b => Q (.bl (!b)) M
def rInT (K : PySem.W.Frag) (f : Bool → Bool) : R2 := fun x y H Q => ∃ d ds, Dp K H x d ∧ Dp K H y (.tuple ds) ∧ d.canLay0 = true ∧ PyData.canLayAll0 ds = true ∧ d.depth ≤ 64 ∧ Q (.bl (f (ds.any fun z => PyData.eqv z d))) H
theorem op_inT (hu : X.A.units + 65 < cLine) : OpR X (compareOp .In) (rInT X.K id) := by
  intro pins s σ H x y v u Q I rx ry h
  obtain ⟨d, ds, hd, he, sd, se, h64, q⟩ := h
  obtain ⟨as, r1⟩ := Dp.reads I d x v hd rx
  obtain ⟨bs, r2⟩ := Dp.reads I (.tuple ds) y u he ry
  exact SeqAt.in_tuple_reads r2 r1 se sd (by have := Nat.min_le_right (PyData.depthAll ds) d.depth; omega) ⟨.bl _, H, I, rfl, q⟩
theorem op_ninT (hu : X.A.units + 65 < cLine) : OpR X (compareOp .NotIn) (rInT X.K not) := by
  intro pins s σ H x y v u Q I rx ry h
  obtain ⟨d, ds, hd, he, sd, se, h64, q⟩ := h
  obtain ⟨as, r1⟩ := Dp.reads I d x v hd rx
  obtain ⟨bs, r2⟩ := Dp.reads I (.tuple ds) y u he ry
  exact SeqAt.notIn_tuple_reads r2 r1 se sd (by have := Nat.min_le_right (PyData.depthAll ds) d.depth; omega) ⟨.bl _, H, I, rfl, q⟩
theorem pop_inT {K : PySem.W.Frag} {f : Bool → Bool} : POp K (rInT K f) (fun x y M Q => inP x y fun b => Q (.bl (f b)) M) := by
  intro F M H x y xv yv Q Qv rm rx ry h k
  cases y with
  | tup ys =>
    obtain ⟨d, e1, h⟩ := need_of h
    obtain ⟨ds, e2, h⟩ := need_of h
    obtain ⟨h1, h2⟩ := h
    obtain ⟨a1, a2⟩ := toD_dp rm.fr x xv d rx e1
    have e3 : toD (.tup ys) = some (.tuple ds) := by unfold toD; rw [e2]; rfl
    obtain ⟨b1, b2⟩ := toD_dp rm.fr (.tup ys) _ _ ry e3
    exact ⟨d, ds, a1, b1, a2, b2, h1, k _ _ (LQ.now rm (.bl _) h2)⟩
  | _ => exact h.elim
theorem LE.inT (hu : X.A.units + 65 < cLine) (ha : LE X a ta) (hb : LE X b tb) (hm : behindInMarks .In b = false := by rfl) : LE X (.Compare a [.In] [b] pos) (pBin oIn ta tb) := LE.cmp (op_inT hu) pop_inT hm ha hb
theorem LT.inT (hu : X.A.units + 65 < cLine) (ha : LE X a ta) (hb : LE X b tb) (hm : behindInMarks .In b = false := by rfl) : LT X (.Compare a [.In] [b] pos) (pTest (pBin oIn ta tb)) := LT.cmp (op_inT hu) pop_inT hm ha hb
theorem LE.ninT (hu : X.A.units + 65 < cLine) (ha : LE X a ta) (hb : LE X b tb) (hm : behindInMarks .NotIn b = false := by rfl) : LE X (.Compare a [.NotIn] [b] pos) (pBin oNin ta tb) := LE.cmp (op_ninT hu) pop_inT hm ha hb
theorem LT.ninT (hu : X.A.units + 65 < cLine) (ha : LE X a ta) (hb : LE X b tb) (hm : behindInMarks .NotIn b = false := by rfl) : LT X (.Compare a [.NotIn] [b] pos) (pTest (pBin oNin ta tb)) := LT.cmp (op_ninT hu) pop_inT hm ha hb
/-! ### for .. else -/
def pForEL (g : PTG) (tb u : PTS) : List PV → PTS
  | [] => fun D σ M => u D σ M
  | x :: xs => fun D σ M => g x σ M fun σ1 M1 => tb { D with nx := pForEL g tb u xs D, bk := D.nx, ct := pForEL g tb u xs D } σ1 M1
def pForE (wi : PTI) (g : PTG) (tb u : PTS) : PTS := fun D σ M => wi D.ex σ M fun xs M1 => pForEL g tb u xs D σ M1
theorem LS.forE {tg iter : Expr} {body orelse : List Stmt} {wi : PTI} {g : PTG} {tb u : PTS} (hp : PassesOwn (model X.prog X.w) X.A X.env X.xe) (hc : X.calm = true) (hi : LI X tg iter wi) (hg : LG X tg g) (hb : LSs X body tb) (ho : LSs X orelse u) (hs : ∀ x, foldedSetIterable iter X.env x = pure x := by intro _; rfl) : LS X (.For tg iter body orelse pos) (pForE wi g tb u) := by
  refine ⟨fun σv H σ F M D tk rm rs h => WS.of (ps_forE hp hc WI.pi WG.pg WSs.ps WSs.ps hs) ?_⟩
  refine (hi.run σv H σ F M _ D.ex tk rm rs h).mono ?_
  rintro J H1 ⟨F1, M1, xs, b1, st, h1⟩
  refine ⟨fun i m σv' H' => m = xs.length - i ∧ i ≤ xs.length ∧ ∃ F' M' σ', Beh X.K F M H F' M' H' ∧ Same F1 F' ∧ RS X.K F' σ' σv' ∧ pForEL g tb u (xs.drop i) D σ' M', ⟨xs.length, rfl, Nat.zero_le _, F1, M1, σ, b1, Same.refl _, rs.same b1.sm, h1⟩, ?_⟩
  rintro i m σv2 H2 ⟨rfl, hi2, F2, M2, σ2, b2, sm2, rs2, h2⟩
  obtain ⟨s1, s2⟩ := st i F2 M2 H2 sm2 b2.rm
  by_cases hlt : i < xs.length
  · obtain ⟨go, yl⟩ := s1 hlt
    rw [List.drop_eq_getElem_cons hlt] at h2
    refine .inr ⟨go, _, fun σv' H' n => ⟨_, (show xs.length - (i + 1) < xs.length - i by omega), n⟩, fun v H3 y => ?_⟩
    obtain ⟨F3, b3, r3⟩ := yl v H3 y
    refine (hg.run σv2 H3 σ2 F3 M2 _ v _ b3.rm (rs2.same b3.sm) r3 h2).mono ?_
    rintro σv4 H4 ⟨F4, M4, σ4, b4, rs4, h4⟩
    have b24 := b3.trans b4
    have b04 := b2.trans b24
    refine (hb.run σv4 H4 σ4 F4 M4 { D with nx := pForEL g tb u (xs.drop (i + 1)) D, bk := D.nx, ct := pForEL g tb u (xs.drop (i + 1)) D } (tk.tr b04) b04.rm rs4 h4).mono ⟨?_, fun _ _ q => q.tr b04, fun _ _ q => q.tr b04, ?_⟩
    · rintro σv5 H5 ⟨F5, M5, σ5, b5, rs5, h5⟩
      exact ⟨rfl, hlt, F5, M5, σ5, b04.trans b5, (sm2.trans b24.sm).trans b5.sm, rs5, h5⟩
    · rintro σv5 H5 ⟨F5, M5, σ5, b5, rs5, h5⟩
      exact ⟨rfl, hlt, F5, M5, σ5, b04.trans b5, (sm2.trans b24.sm).trans b5.sm, rs5, h5⟩
  · have e : i = xs.length := by omega
    subst e
    rw [List.drop_length] at h2
    refine .inl ⟨s2 (Nat.le_refl _), ?_⟩
    refine (ho.run σv2 H2 σ2 F2 M2 D (tk.tr b2) b2.rm rs2 h2).mono ⟨?_, fun _ _ q => q.tr b2, ?_, ?_⟩
    · rintro σv5 H5 ⟨F5, M5, σ5, b5, rs5, h5⟩
      exact ⟨F5, M5, σ5, b2.trans b5, rs5, h5⟩
    · rintro σv5 H5 ⟨F5, M5, σ5, b5, rs5, h5⟩
      exact ⟨F5, M5, σ5, b2.trans b5, rs5, h5⟩
    · rintro σv5 H5 ⟨F5, M5, σ5, b5, rs5, h5⟩
      exact ⟨F5, M5, σ5, b2.trans b5, rs5, h5⟩
theorem w_forE {wi : PTI} {g : PTG} {tb u : PTS} {dn db dc : PNx} {dr : PQ} {de : PXK} {σ : PSt} {M : Mem} (h : wi de σ M fun xs M1 => pForEL g tb u xs (PEnds.mk dn dr de db dc) σ M1) : pForE wi g tb u (PEnds.mk dn dr de db dc) σ M := h
/-- the loop that may be left: what holds as long as it goes on, and what where it is left -/
theorem forE_in {g : PTG} {tb u : PTS} {D : PEnds} (I : Nat → PNx) : ∀ (xs : List PV) (j : Nat) (hs : ∀ i x σ M K, xs[i]? = some x → I (j + i) σ M → (∀ σ' M', I (j + i + 1) σ' M' → K σ' M') → g x σ M fun σ1 M1 => tb { D with nx := K, bk := D.nx, ct := K } σ1 M1)
    (hd : ∀ σ M, I (j + xs.length) σ M → u D σ M) (σ : PSt) (M : Mem), I j σ M → pForEL g tb u xs D σ M
  | [], j, hs, hd, σ, M, h => hd σ M h
  | x :: xs, j, hs, hd, σ, M, h => by
    refine hs 0 x σ M (pForEL g tb u xs D) rfl h fun σ' M' h' => ?_
    refine forE_in I xs (j + 1) (fun i y σ M K e hi hk => ?_) (fun σ M hl => hd σ M ?_) σ' M' h'
    · have e1 : j + 1 + i = j + (i + 1) := by omega
      rw [e1] at hi hk
      exact hs (i + 1) y σ M K e hi hk
    · have e1 : j + 1 + xs.length = j + (x :: xs).length := by rw [List.length_cons]; omega
      rw [e1] at hl
      exact hl
theorem w_inT {x : PV} {ys : List PV} {d : PyData} {ds : List PyData} {M : Mem} {Q : PQ} (e1 : toD x = some d) (e2 : toDs ys = some ds) (h1 : d.depth ≤ 64) (h : Q (.bl (ds.any fun z => PyData.eqv z d)) M) : oIn x (.tup ys) M Q := need_by e1 (need_by e2 ⟨h1, h⟩)
theorem w_ninT {x : PV} {ys : List PV} {d : PyData} {ds : List PyData} {M : Mem} {Q : PQ} (e1 : toD x = some d) (e2 : toDs ys = some ds) (h1 : d.depth ≤ 64) (h : Q (.bl (!ds.any fun z => PyData.eqv z d)) M) : oNin x (.tup ys) M Q := need_by e1 (need_by e2 ⟨h1, h⟩)
/-! ### a number that stands in the text's own names -/
theorem LE.globI {x : Str} {i : Int} (hg : Gl X x) (hm : ∃ t, X.mg x = some (.int i t)) (hd : (x == ("__debug__" : Str)) = false := by decide) : LE X (.Name x pos) (pC (.int i)) := by
  refine ⟨fun σv H σ F M Q E tk rm rs h => ?_⟩
  obtain ⟨t, hm⟩ := hm
  exact WE.of (pe_glob (v := .int i) hg hm ⟨t, rfl⟩ hd) (LQ.now rm (.int i) h)
/-! ### a place among those of a list, dropped behind a loop's turn -/
theorem w_dropAt {i : Nat} {t : PTS} {p : Addr} {D : PEnds} {σ : PSt} {M : Mem} (e : σ[i]? = some (some (.ptr p))) (h : t D σ (M.drop p)) : pDropAt i t D σ M := by unfold pDropAt; rw [e]; exact h
theorem Room.units65 {k : Nat} {A : Around} (r : Room k A) : A.units + 65 < cLine := by have := r.un; omega
/-! ### a, b = x, y -/
def kPar (i j : Nat) (σ : PSt) (dn : PNx) (xs : List PV) (M : Mem) : Prop := match xs with
  | [x, y] => dn ((σ.set i (some x)).set j (some y)) M
  | _ => False
def pPar (i j : Nat) (ta : PTA) : PTS := fun D σ M => ta D.ex σ M fun xs M1 => kPar i j σ D.nx xs M1
theorem w_kpar {i j : Nat} {x y : PV} {σ σ1 σ2 : PSt} {dn : PNx} {M : Mem} (e1 : σ.set i (some x) = σ1) (e2 : σ1.set j (some y) = σ2) (h : dn σ2 M) : kPar i j σ dn [x, y] M := by
  subst e1
  subst e2
  exact h
theorem LS.par {y : Str} {e1 e2 : Expr} {px py pt : Pos} {kt k2 pt2} (i j : Nat) {ta : PTA} (hc : X.calm = true) (hN : X.N.Nodup) (hij : i ≠ j) (ha : LA X [e1, e2] ta)
    (hw : swappedStores [.Tuple [.Name x px, .Name y py] kt pt] (.Tuple [e1, e2] k2 pt2) X.env = pure (some [x, y])) (hi : X.N[i]? = some x := by rfl) (hj : X.N[j]? = some y := by rfl)
    (hx : X.env.scope.names.lookup x = some .local := by rfl) (hy : X.env.scope.names.lookup y = some .local := by rfl)
    (hs : swapsWithSole [.Tuple [.Name x px, .Name y py] kt pt] (.Tuple [e1, e2] k2 pt2) pos.line X.env = pure false := by rfl) :
    LS X (.Assign [.Tuple [.Name x px, .Name y py] kt pt] (.Tuple [e1, e2] k2 pt2) pos) (pPar i j ta) := by
  refine ⟨fun σv H σ F M D tk rm rs h => WS.of (ps_par hc hN hi hj hij hx hy WA.pa hw hs) ?_⟩
  refine (ha.run σv H σ F M _ D.ex tk rm rs h).mono ?_
  rintro vs H1 ⟨hl, F1, M1, xs, b1, ra, q⟩
  unfold kPar at q
  split at q
  · rename_i x y
    obtain ⟨v, w, rfl, r1, r2⟩ := ra.two
    exact ⟨v, w, rfl, F1, M1, _, b1, ((rs.same b1.sm).set i r1).set j r2, q⟩
  · exact q.elim
theorem w_par {i j : Nat} {ta : PTA} {dn db dc : PNx} {dr : PQ} {de : PXK} {σ : PSt} {M : Mem} (h : ta de σ M fun xs M1 => kPar i j σ dn xs M1) : pPar i j ta (PEnds.mk dn dr de db dc) σ M := h
end
end PL
set_option Elab.async false
set_option linter.all false
set_option maxRecDepth 100000
namespace PL
open PySem PySem.Spec PyProof.Rows L2
section
variable {X : Cx} {a b c e : Expr} {ta tb tc te to : PTE} {pos p : Pos} {es : List Expr} {t : PTA} {x : Str}
/-! ### [..] * n, a list of its own -/
def oRepP : PO2 := fun x y M Q => match x, y with
  | .ptr p, .int k => match M p with
    | some (.lst xs) => (0 ≤ k ∧ k < 2 ^ 62) ∧ xs.length * k.toNat ≤ sizeLine ∧ Q (.lst (List.replicate k.toNat xs).flatten) M
    | _ => False
  | _, _ => False
theorem LE.repP (ha : LE X a ta) (hb : LE X b tb) : LE X (.BinOp a .Mult b pos) (pBin oRepP ta tb) := by
  refine LE.bin op_rep (fun F M H x y xv yv Q Qv rm rx ry h k => ?_) ha hb
  unfold oRepP at h
  split at h
  · rename_i p j
    cases rx
    cases ry
    split at h
    · rename_i xs hm
      obtain ⟨u, e2, ru⟩ := rm.mu _ _ hm
      obtain ⟨⟨h1, h2⟩, h3, h4⟩ := h
      cases ru with
      | lst ru =>
        rename_i vs
        refine ⟨p, j, vs, rfl, rfl, e2, by omega, by omega, by rw [← ru.length]; exact h3, fun l nl => k _ _ ⟨_, M, _, rm.beh nl, .lst upd_same ((ru.rep _).same (rm.beh (o := .lst _) nl).sm), h4⟩⟩
    · exact h.elim
  · exact h.elim
theorem w_repP {p : Addr} {k : Int} {xs : List PV} {M : Mem} {Q : PQ} (m : M p = some (.lst xs)) (h0 : 0 ≤ k ∧ k < 2 ^ 62) (h1 : xs.length * k.toNat ≤ sizeLine) (h : Q (.lst (List.replicate k.toNat xs).flatten) M) : oRepP (.ptr p) (.int k) M Q := by
  show (match M p with | some (.lst xs) => (0 ≤ k ∧ k < 2 ^ 62) ∧ xs.length * k.toNat ≤ sizeLine ∧ Q (.lst (List.replicate k.toNat xs).flatten) M | _ => False)
  rw [m]
  exact ⟨h0, h1, h⟩
/-- a comprehension whose elements may leave things in the memory -/
theorem lc_mem {i : Nat} {te : PTE} {σ : PSt} {Q : PQ} (f : PV → PV) : ∀ (xs acc : List PV) (M : Mem), (∀ x ∈ xs, ∀ (M : Mem) (R : PQ), (∀ M', R (f x) M') → te noX (σ.set i (some x)) M R) → (∀ M', Q (.lst (acc ++ xs.map f)) M') → pLcL i pYes te xs acc σ M Q
  | [], acc, M, _, q => by
    have := q M
    rw [List.map_nil, List.append_nil] at this
    exact this
  | x :: xs, acc, M, h, q => by
    refine w_lccons (h x List.mem_cons_self M _ fun M' => lc_mem f xs (acc ++ [f x]) M' (fun y hy => h y (List.mem_cons_of_mem _ hy)) ?_)
    rw [List.append_assoc]
    exact q
end
end PL
set_option Elab.async false
set_option linter.all false
set_option maxRecDepth 100000
namespace HT
open PySem PySem.Spec PyProof.Rows
section
variable {prog : Program} {w : World} {A : Around} {E : Value → Shared → Prop} {s : Shared}
theorem places_rev (n : Nat) : Builtin.Slice.slicePlaces ((n : Int) - 1) (-1) (-1) = n := by
  unfold Builtin.Slice.slicePlaces
  have h1 : ¬ ((-1 : Int) > 0) := by omega
  simp only [h1, if_false]
  split
  · rw [show (- -1 : Int) = 1 from rfl, Int.ediv_one]
    omega
  · omega
theorem adjust_rev (n : Nat) : Builtin.Slice.sliceAdjust none none (-1) (n : Int) = ((n : Int) - 1, -1) := by
  unfold Builtin.Slice.sliceAdjust
  have h1 : ((-1 : Int) < 0) := by omega
  simp only [h1, if_true]
theorem sliceApplied_rev {sl : Addr} {vs : Value} {n : Nat} {Q : Int × Int × Nat → Shared → Prop} (hs : s.heap.IsSliceOf sl .none .none vs) (ps : IsPart vs (some (-1)))
    (h : Q ((n : Int) - 1, -1, n) s) : wpAny (model prog w) A (Builtin.Slice.sliceApplied (.ref sl) (pure (n : Int))) Q E s := by
  obtain ⟨os, hos, hcs, hds⟩ := id hs
  unfold Builtin.Slice.sliceApplied Builtin.Slice.sliceFields
  refine wpAny_bind (wpAny_bind (wpAny_field hos hds (x := .none) rfl (wpAny_bind (wpAny_field hos hds (x := .none) rfl (wpAny_bind (wpAny_field hos hds (x := vs) rfl (wpAny_pure ?_)))))))
  refine wpAny_bind (slicePart_ ps ?_)
  show wpAny _ _ (if ((-1 : Int) == 0) = true then _ else _) _ _ s
  rw [if_neg (by decide)]
  refine wpAny_bind (slicePart_none (wpAny_bind (slicePart_none (wpAny_bind (wpAny_pure ?_)))))
  show wpAny _ _ (match Builtin.Slice.sliceAdjust none none (-1) (n : Int) with | (lo, hi) => pure (lo, (-1 : Int), Builtin.Slice.slicePlaces lo hi (-1))) _ _ s
  rw [adjust_rev n]
  show wpAny _ _ (pure ((n : Int) - 1, (-1 : Int), Builtin.Slice.slicePlaces ((n : Int) - 1) (-1) (-1))) _ _ s
  rw [places_rev]
  exact wpAny_pure h
theorem fm_congr {α β : Type} {f g : α → Option β} : ∀ l : List α, (∀ k ∈ l, f k = g k) → l.filterMap f = l.filterMap g
  | [], _ => rfl
  | a :: l, h => by
    have ih := fm_congr l fun k hk => h k (List.mem_cons_of_mem _ hk)
    rw [List.filterMap_cons, List.filterMap_cons, h a List.mem_cons_self, ih]
theorem pick_rev (xs : Array Value) : ((List.range xs.size).filterMap fun (m : Nat) => xs[((xs.size : Int) - 1 + (m : Int) * (-1)).toNat]?).toArray = xs.toList.reverse.toArray := by
  congr 1
  apply List.ext_getElem?
  intro i
  have e : ∀ k ∈ List.range xs.size, (fun (m : Nat) => xs[((xs.size : Int) - 1 + (m : Int) * (-1)).toNat]?) k = some (xs.toList.reverse.getD k Value.none) := by
    intro k hk
    rw [List.mem_range] at hk
    show xs[((xs.size : Int) - 1 + (k : Int) * (-1)).toNat]? = _
    have h1 : ((xs.size : Int) - 1 + (k : Int) * (-1)).toNat = xs.size - 1 - k := by omega
    rw [h1]
    have h2 : k < xs.toList.reverse.length := by rw [List.length_reverse, Array.length_toList]; exact hk
    have h3 : xs.size - 1 - k < xs.toList.length := by rw [Array.length_toList]; omega
    rw [List.getD_eq_getElem?_getD, List.getElem?_reverse (by rw [Array.length_toList]; exact hk), Array.length_toList, ← Array.getElem?_toList, List.getElem?_eq_getElem h3]
    rfl
  rw [fm_congr _ e]
  have e2 : (List.range xs.size).filterMap (fun k => some (xs.toList.reverse.getD k Value.none)) = (List.range xs.size).map fun k => xs.toList.reverse.getD k Value.none := by
    rw [← List.filterMap_eq_map]
    rfl
  rw [e2]
  have e3 : (List.range xs.size).map (fun k => xs.toList.reverse.getD k Value.none) = xs.toList.reverse := by
    have hl : xs.toList.reverse.length = xs.size := by rw [List.length_reverse, Array.length_toList]
    rw [← hl]
    apply List.ext_getElem
    · rw [List.length_map, List.length_range]
    · intro j h1 h2
      rw [List.getElem_map, List.getElem_range, List.getD_eq_getElem?_getD, List.getElem?_eq_getElem h2]
      rfl
  rw [e3]
theorem getItem_tuple_rev {t sl : Addr} {items : Array Value} {vs : Value} {Q : Value → Shared → Prop} (ht : IsTup s.heap t items) (hs : s.heap.IsSliceOf sl .none .none vs) (ps : IsPart vs (some (-1)))
    (h : Q (.ref s.heap.objs.size) { s with heap := s.heap.push { cls := .type "tuple", data := .seq items.toList.reverse.toArray } })
    (hsz : items.size ≤ sizeLine) : wpAny (model prog w) A (getItem (.ref t) (.ref sl)) Q E s := by
  have htake : sizeOk (.seq items.toList.reverse.toArray) := by
    show items.toList.reverse.toArray.size ≤ sizeLine
    rw [List.size_toArray, List.length_reverse, Array.length_toList]
    exact hsz
  obtain ⟨os, hos, hcs, hds⟩ := id hs
  have hTs : s.TypeIs (.ref sl) "slice" := ⟨os, hos, hcs⟩
  unfold getItem
  try with_reducible refine wpAny_holding ?_
  first | refine wpAny_bind (wpAny_pure ?_) | skip
  refine wpAny_bind (wpAny_sequenceKey ht.typeIs (by decide) ?_)
  refine wpAny_bind (wpAny_callSpecial?_slot (name := Str.ofString "__getitem__") ht.typeIs PyProof.Rows.slot_tuple_getitem
    (wpAny_call_entry PyProof.Rows.slot_tuple_getitem ht.typeIs entry_tuple_getitem ?_ (args_tuple_getitem _ _)))
  show wpAny _ _ (Builtin.Tuple.tupleItemsOf (.ref t) >>= _) _ _ s
  refine wpAny_bind (tupleItemsOf_ ht ?_)
  refine wpAny_bind (wpAny_typeOf hTs ?_)
  rw [if_pos (by decide)]
  refine wpAny_bind (sliceApplied_rev hs ps ?_)
  have hno : ¬ ((((items.size : Int) - 1) == 0 && (-1 : Int) == 1 && items.size == items.size) = true) := by
    intro q
    rw [Bool.and_eq_true, Bool.and_eq_true] at q
    have q1 : (-1 : Int) = 1 := eq_of_beq q.1.2
    omega
  show wpAny _ _ (if (((items.size : Int) - 1) == 0 && (-1 : Int) == 1 && items.size == items.size) = true then _ else _) _ _ s
  rw [if_neg hno, pick_rev]
  first
    | exact wpAny_bind (m := Builtin.Tuple.tupleExact _) (wpAny_newObj_type (wpAny_pure ⟨_, rfl, wpAny_pure h⟩) htake)
    | exact wpAny_bind (m := Builtin.Tuple.tupleExact _) (wpAny_newObj_type (wpAny_bind (wpAny_pure (wpAny_pure ⟨_, rfl, wpAny_pure h⟩))) htake)
    | exact wpAny_bind (wpAny_bind (m := Builtin.Tuple.tupleExact _) (wpAny_newObj_type (wpAny_pure (wpAny_pure ⟨_, rfl, wpAny_pure h⟩)) htake))
    | exact wpAny_bind (wpAny_bind (m := Builtin.Tuple.tupleExact _) (wpAny_newObj_type (wpAny_pure ⟨_, rfl, wpAny_pure h⟩) htake))
end
end HT

namespace PL
open PySem PySem.Spec PyProof.Rows L2
section
variable {X : Cx} {a b c e : Expr} {ta tb tc te to : PTE} {pos p : Pos} {es : List Expr} {t : PTA} {x : Str}
/-! ### t[::-1] of a tuple -/
def kRevT (x : PV) (M : Mem) (Q : PQ) : Prop := need (tupF x) fun xs => Q (.tup xs.reverse) M
def pRevT (te : PTE) : PTE := fun E σ M Q => te E σ M fun x M1 => kRevT x M1 Q
def tRevT (K : PySem.W.Frag) (te : TE) : TE := fun σ H Q => te σ H fun x H1 => ∃ a xs, x = .ref a ∧ SqT K H1 a xs ∧ ∀ p, H1 p = none → Q (.ref p) (upd H1 p (.tup xs.reverse))
theorem pe_revT {te : TE} {k : Nat} {p1 p2 p3 : Pos} (he : PE X e te) : PE X (.Subscript e (.Slice none none (some (.UnaryOp .USub (.Constant (.int 1) k p1) p2)) p3) pos) (tRevT X.K te) := by
  refine ⟨fun pins s σ H Q I h => ?_⟩
  refine Subscript_ (thn (he.run pins s σ H _ I h) fun v s1 ⟨x, H1, I1, r1, q1⟩ => ?_)
  obtain ⟨a, xs, ex, hx, q⟩ := q1
  subst ex
  cases r1
  have hst : PO X (some (.UnaryOp .USub (.Constant (.int 1) k p1) p2)) (tPart (tUn (rU fun i => .int (-i)) (tC (.int 1)))) := po_some (pe_un un_neg pe_int)
  refine wpAny_Slice (thn (po_none.run pins s1 σ H1 (fun o H2 => o = none ∧ H2 = H1) I1 ⟨rfl, rfl⟩) fun vl s2 ⟨l, H2, I2, pl, el, e2⟩ => ?_)
  subst el e2
  refine thn (po_none.run pins s2 σ H2 (fun o H3 => o = none ∧ H3 = H2) I2 ⟨rfl, rfl⟩) fun vu s3 ⟨u, H3, I3, pu, eu, e3⟩ => ?_
  subst eu e3
  refine thn (hst.run pins s3 σ H3 (fun o H4 => o = some (-1) ∧ H4 = H3) I3 ⟨1, rfl, -1, rfl, rfl, rfl⟩) fun vs s4 ⟨o, H4, I4, ps, eo, e4⟩ => ?_
  subst eo e4
  cases pl
  cases pu
  have I5 : Inv X pins σ H4 { s4 with heap := s4.heap.push { cls := .type "slice", data := .fields #[.none, .none, vs] } } := I4.kept (t' := s4.toks) fun b ob q => Heap.get?_push_of_some _ q
  obtain ⟨its, r, ht, hz⟩ := I5.tuple hx
  have hlen := r.length
  show wpAny (model X.prog X.w) X.A (subscriptTail e (.Slice none none (some (.UnaryOp .USub (.Constant (.int 1) k p1) p2)) p3) (.ref a) (.ref s4.heap.objs.size)) (EP X pins σ Q) X.xe { s4 with heap := s4.heap.push { cls := .type "slice", data := .fields #[.none, .none, vs] } }
  refine tail_any (ops := [.ref a, .ref s4.heap.objs.size]) ht.typeIs (PyProof.Rows.slot_tuple_getitem.lookup) ?_ (by with_unfolding_all rfl)
  refine HT.getItem_tuple_rev ht (Heap.IsSliceOf.new _ .none .none vs) ps ?_ (by rw [List.size_toArray]; omega)
  refine ⟨.ref _, _, I5.laid (t' := s4.toks) (o := .tup xs.reverse) (fun b ob q => Heap.get?_push_of_some _ q) (Nat.le_refl _) ?_, rfl, q _ (I5.hok.fresh (Nat.le_refl _))⟩
  exact ⟨by rw [List.length_reverse]; exact hz, _, r.reverse, IsTup.new _ _⟩
theorem LE.revT {k : Nat} {p1 p2 p3 : Pos} (he : LE X e te) : LE X (.Subscript e (.Slice none none (some (.UnaryOp .USub (.Constant (.int 1) k p1) p2)) p3) pos) (pRevT te) := by
  refine ⟨fun σv H σ F M Q E tk rm rs h => WE.of (pe_revT WE.pe) ?_⟩
  refine (he.run σv H σ F M _ E tk rm rs h).mono ?_
  rintro v H1 ⟨F1, M1, x, b1, rx, hx⟩
  obtain ⟨xs, e1, h2⟩ := need_of hx
  cases rx with
  | tup q ra =>
    cases e1
    exact ⟨_, _, rfl, sqT_same b1.rm.fr q, fun l nl => ⟨_, M1, _, b1.trans (b1.rm.beh nl), .tup (SqT.of upd_same) (ra.rev.same (b1.rm.beh (o := .tup _) nl).sm), h2⟩⟩
  | _ => cases e1
theorem w_revT {E : PXK} {σ : PSt} {M : Mem} {Q : PQ} (h : te E σ M fun x M1 => kRevT x M1 Q) : pRevT te E σ M Q := h
theorem w_revTt {xs : List PV} {M : Mem} {Q : PQ} (h : Q (.tup xs.reverse) M) : kRevT (.tup xs) M Q := h
/-! ### == of data, lists that may change among them -/
def toM (M : Mem) : PV → Option PyData
  | .ptr a => match M a with | some (.lst xs) => (toDs xs).map .list | _ => none
  | x => toD x
def oEqM : PO2 := fun x y M Q => need (toM M x) fun d => need (toM M y) fun e => d.depth ≤ 64 ∧ e.depth ≤ 64 ∧ Q (.bl (PyData.eqv d e)) M
def oNeM : PO2 := fun x y M Q => need (toM M x) fun d => need (toM M y) fun e => d.depth ≤ 64 ∧ e.depth ≤ 64 ∧ Q (.bl (!PyData.eqv d e)) M
theorem toM_dp {K : PySem.W.Frag} {F H : Hp} {M : Mem} (rm : RM K F M H) {x : PV} {v : V} {d : PyData} (r : R K F x v) (h : toM M x = some d) : Dp K H v d ∧ d.canLay0 = true := by
  cases x with
  | ptr a =>
    have h' : (match M a with | some (.lst xs) => (toDs xs).map PyData.list | _ => none) = some d := h
    cases r
    split at h'
    · rename_i xs hm
      obtain ⟨q, ws, ev, hs, ra⟩ := R.lstI (x := .ptr a) rm (.ptr a) (lstOf_ptr hm)
      cases ev
      cases e : toDs xs with
      | none => rw [e] at h'; cases h'
      | some ds =>
        rw [e] at h'
        cases h'
        obtain ⟨a1, a2⟩ := toDs_dp rm.fr xs ws ds ra e
        exact ⟨.lst hs a1, by simpa [PyData.canLay0] using a2⟩
    · cases h'
  | _ => exact toD_dp rm.fr _ v d r h
theorem LE.eqM (hu : X.A.units + 64 < cLine) (ha : LE X a ta) (hb : LE X b tb) : LE X (.Compare a [.Eq] [b] pos) (pBin oEqM ta tb) := LE.cmp (op_eqD hu) (fun F M H x y xv yv Q Qv rm rx ry h k => by
  obtain ⟨d, e1, h⟩ := need_of h
  obtain ⟨e, e2, h1, h2, h3⟩ := need_of h
  obtain ⟨a1, a2⟩ := toM_dp rm rx e1
  obtain ⟨b1, b2⟩ := toM_dp rm ry e2
  exact ⟨d, e, a1, b1, shaped_of a2 h1, shaped_of b2 h2, k _ _ (LQ.now rm (.bl _) h3)⟩) (nomark _) ha hb
theorem LE.neM (hu : X.A.units + 64 < cLine) (ha : LE X a ta) (hb : LE X b tb) : LE X (.Compare a [.NotEq] [b] pos) (pBin oNeM ta tb) := LE.cmp (op_neD hu) (fun F M H x y xv yv Q Qv rm rx ry h k => by
  obtain ⟨d, e1, h⟩ := need_of h
  obtain ⟨e, e2, h1, h2, h3⟩ := need_of h
  obtain ⟨a1, a2⟩ := toM_dp rm rx e1
  obtain ⟨b1, b2⟩ := toM_dp rm ry e2
  exact ⟨d, e, a1, b1, shaped_of a2 h1, shaped_of b2 h2, k _ _ (LQ.now rm (.bl _) h3)⟩) (nomark _) ha hb
theorem LT.eqM (hu : X.A.units + 64 < cLine) (ha : LE X a ta) (hb : LE X b tb) : LT X (.Compare a [.Eq] [b] pos) (pTest (pBin oEqM ta tb)) := LT.cmp (op_eqD hu) (fun F M H x y xv yv Q Qv rm rx ry h k => by
  obtain ⟨d, e1, h⟩ := need_of h
  obtain ⟨e, e2, h1, h2, h3⟩ := need_of h
  obtain ⟨a1, a2⟩ := toM_dp rm rx e1
  obtain ⟨b1, b2⟩ := toM_dp rm ry e2
  exact ⟨d, e, a1, b1, shaped_of a2 h1, shaped_of b2 h2, k _ _ (LQ.now rm (.bl _) h3)⟩) (nomark _) ha hb
theorem LT.neM (hu : X.A.units + 64 < cLine) (ha : LE X a ta) (hb : LE X b tb) : LT X (.Compare a [.NotEq] [b] pos) (pTest (pBin oNeM ta tb)) := LT.cmp (op_neD hu) (fun F M H x y xv yv Q Qv rm rx ry h k => by
  obtain ⟨d, e1, h⟩ := need_of h
  obtain ⟨e, e2, h1, h2, h3⟩ := need_of h
  obtain ⟨a1, a2⟩ := toM_dp rm rx e1
  obtain ⟨b1, b2⟩ := toM_dp rm ry e2
  exact ⟨d, e, a1, b1, shaped_of a2 h1, shaped_of b2 h2, k _ _ (LQ.now rm (.bl _) h3)⟩) (nomark _) ha hb
/-! ### what was there stays -/
def Ext (M M' : Mem) : Prop := ∀ b, M b ≠ none → M' b = M b
theorem Ext.refl {M : Mem} : Ext M M := fun _ _ => rfl
theorem Ext.put {M : Mem} {p : Addr} {o : MO} (h : M p = none) : Ext M (M.put p o) := fun b hb => put_ne fun e => hb (by rw [e]; exact h)
theorem Ext.trans {M M1 M2 : Mem} (a : Ext M M1) (b : Ext M1 M2) : Ext M M2 := fun c hc => by rw [b c (by rw [a c hc]; exact hc), a c hc]
end
end PL
set_option Elab.async false
set_option linter.all false
set_option maxRecDepth 100000
namespace SrtO
open PySem PySem.Spec PyProof.Rows
section
variable {prog : Program} {w : World} {A : Around} {E : Value → Shared → Prop} {s : Shared}
theorem collect_tup {l : Addr} {vs : List Value} {Q : List Value → Shared → Prop} (hl : IsTup s.heap l vs.toArray)
    (h : Q vs { s with heap := (s.heap.push (seqObj "list" #[] 0)).update s.heap.objs.size (Obj.mapSeq (· ++ vs.toArray)) }) (hsz : vs.length ≤ sizeLine) :
    wpAny (model prog w) A (collect (.ref l)) Q E s := by
  obtain ⟨o, ho, hc, n, hd⟩ := id hl
  unfold collect
  refine wpAny_bind (wpAny_runValue (codeAny_builtin entry_proto_collect' ?_))
  show wpAny _ _ (do again (.builtin "list.__iadd__" ⟨[← newList [], .ref l], []⟩)) _ _ s
  refine wpAny_bind (wpAny_newList (wpAny_pure ⟨Code.quiet_builtin _ (by decide +kernel), codeAny_builtin entry_list_iadd' ?_⟩))
  show wpAny _ _ (Builtin.List.listExtendWith (.ref s.heap.objs.size) (.ref l) (.ref s.heap.objs.size)) _ _ { s with heap := s.heap.push (seqObj "list" #[] 0) }
  unfold Builtin.List.listExtendWith
  have ho' : (s.heap.push (seqObj "list" #[] 0)).get? l = some o := Heap.get?_push_of_some _ ho
  refine wpAny_bind (wpAny_typeOf (T := "tuple") ⟨o, ho', hc⟩ ?_)
  have ht : (Value.type "tuple" == Value.type "tuple") = true := by rfl
  rw [if_pos (by rw [ht]; simp)]
  refine wpAny_bind (listItems_at ho' hd ?_)
  refine wpAny_bind (listItems_at (xs := #[]) (n := 0) (Heap.get?_push_size _ rfl) rfl ?_)
  rw [if_neg (by simp)]
  refine wpAny_bind (listUpdate_at (xs := #[]) (n := 0) (Heap.get?_push_size _ rfl) rfl ?_ (Nat.zero_le _) (by show (#[] ++ vs.toArray).size ≤ sizeLine + 1; simp only [Array.size_append, List.size_toArray, List.length_nil]; omega))
  refine wpAny_pure ?_
  show wpAny (model prog w) A (do
      let o ← load s.heap.objs.size
      match o.data with
      | .seq xs _ => pure xs.toList
      | _ => unsupported "internal:collect") Q E { s with heap := (s.heap.push (seqObj "list" #[] 0)).update s.heap.objs.size (Obj.mapSeq (· ++ vs.toArray)) }
  refine wpAny_bind (wpAny_load (get?_update_seq (Heap.get?_push_size _ rfl) _) ?_)
  show wpAny _ _ (pure ((#[] : Array Value) ++ vs.toArray).toList) Q E _
  rw [show ((#[] : Array Value) ++ vs.toArray).toList = vs by simp]
  exact wpAny_pure h
theorem sorted_ordT {l : Addr} {vs : List Value} {ltv : Value → Value → Bool} {Q : Value → Shared → Prop} (O : Swo ltv) (hl : IsTup s.heap l vs.toArray) (hz : vs.length ≤ sizeLine)
    (hS : 2 ≤ vs.length → ∀ (h₁ : Heap) (a : Addr), h₁.get? a = some (seqObj "list" vs.toArray 0) → (∀ b o, s.heap.get? b = some o → b ≠ a ∧ h₁.get? b = some o) → SortableO prog w A.in1.in1 { s with heap := h₁ } a vs ltv)
    (h : ∀ out : List Value, Srtd ltv out → Stb ltv out vs → Q (.ref (s.heap.objs.size + 1)) { s with heap := sortedAll s.heap vs out.toArray }) :
    wpAny (model prog w) A (call (.builtin "sorted") [.ref l]) Q E s := by
  refine Calls.call_function_entry kind_sorted plain_sorted entry_sorted (args_sorted1 _) ?_
  unfold Builtin.«sorted»
  refine wpAny_bind (m := checkCount "sorted" 1 1 _) (wpAny_pure ?_)
  refine wpAny_bind (collect_tup hl ?_ hz)
  refine wpAny_bind (wpAny_newList ?_ hz)
  have hsz : ((s.heap.push (seqObj "list" #[] 0)).update s.heap.objs.size (Obj.mapSeq (· ++ vs.toArray))).objs.size = s.heap.objs.size + 1 := by
    rw [Heap.size_update, size_push']
  have hoL : (((s.heap.push (seqObj "list" #[] 0)).update s.heap.objs.size (Obj.mapSeq (· ++ vs.toArray))).push (seqObj "list" vs.toArray 0)).get? (s.heap.objs.size + 1) = some (seqObj "list" vs.toArray 0) := by
    rw [← hsz]; exact Heap.get?_push_size _ rfl
  have keep : ∀ b o, s.heap.get? b = some o → b ≠ s.heap.objs.size + 1 ∧ (((s.heap.push (seqObj "list" #[] 0)).update s.heap.objs.size (Obj.mapSeq (· ++ vs.toArray))).push (seqObj "list" vs.toArray 0)).get? b = some o := fun b o q => by
    have hlt : b < s.heap.objs.size := Heap.lt_size q
    refine ⟨Nat.ne_of_lt (Nat.lt_succ_of_lt hlt), Heap.get?_push_of_some _ ?_⟩
    rw [Heap.get?_update_ne _ _ _ _ (Nat.ne_of_lt hlt)]
    exact Heap.get?_push_of_some _ q
  show wpAny _ _ _ _ _ { s with heap := ((s.heap.push (seqObj "list" #[] 0)).update s.heap.objs.size (Obj.mapSeq (· ++ vs.toArray))).push (seqObj "list" vs.toArray 0) }
  rw [hsz]
  refine wpAny_bind (wpAny_holding (wpAny_call_entry slot_list_sort ⟨_, hoL, rfl⟩ entry_list_sort (list_sort_ord O hoL hz (fun h2 => hS h2 _ _ hoL keep) fun out hs hb => ⟨_, rfl, ?_⟩) (args_list_sort _)))
  exact wpAny_pure ⟨_, rfl, h out hs hb⟩
end
end SrtO
namespace PL
open PySem PySem.Spec PyProof.Rows L2
section
variable {X : Cx} {a b c e : Expr} {ta tb tc te to : PTE} {pos p : Pos} {es : List Expr} {t : PTA} {x : Str}
def rSortedT (K : PySem.W.Frag) : List V → Hp → VK → Prop := fun vs H Q => ∃ (a : Addr) (ns : List Int), vs = [V.ref a] ∧ SqT K H a (ns.map V.int) ∧
  ∀ (ns' : List Int) (p : Addr), ns'.Perm ns → ns'.Pairwise (· ≤ ·) → H p = none → Q (.ref p) (upd H p (.lst (ns'.map V.int)))
theorem cr_sortedT' : CallR X (.builtin "sorted") (rSortedT X.K) := by
  intro pins s σ H vs us Q I r h
  obtain ⟨a, ns, rfl, hs, q⟩ := h
  obtain ⟨its, rv, hl, hz⟩ := I.tuple hs
  rw [Vals.ref1 r]
  have hi := rv.ints
  refine SrtO.sorted_ordT SrtO.swo_int hl (by rw [← rv.length]; exact hz) (fun h2 h₁ a' _ _ => SrtO.ints_sortable hi h2) fun out h1 h2 => ?_
  obtain ⟨k1, k2, k3⟩ := SrtO.ints_out hi h1 h2
  obtain ⟨ep, he'⟩ := PyProof.Rows.sortedAll_at s.heap its out.toArray
  have hlen : ((out.map SrtO.iv).map V.int).length ≤ sizeLine := by
    rw [List.length_map, k2.length_eq]
    rw [List.length_map] at hz
    exact hz
  exact ⟨.ref _, upd H (s.heap.objs.size + 1) (.lst ((out.map SrtO.iv).map V.int)), I.laid (t' := s.toks) (fun _ _ => PyProof.Rows.sortedAll_old) (Nat.le_succ _) ⟨hlen, out, ep, vals_of_ints k1, he'⟩, rfl, q _ _ k2 k3 (I.hok.fresh (Nat.le_succ _))⟩
def kSortT (x : PV) (M : Mem) (Q : PQ) : Prop := need (tupF x) fun xs => need (intsOf xs) fun ns => ∀ ns' : List Int, ns'.Perm ns → ns'.Pairwise (· ≤ ·) → Q (.lst (ns'.map .int)) M
theorem LE.sortedT (hg : Gl X "sorted") (hm : X.mg "sorted" = none) (ha : LA X [e] t) (he : starEach [e] X.env = (false, eval e X.env) :: starEach [] X.env := by rfl) : LE X (.Call (.Name "sorted" p) [e] [] pos) (pCallB (on1 kSortT) t) := by
  refine LE.callB cr_sortedT' (fun F M H xs vs Q Qv rm rx h k => ?_) hg hm (by decide +kernel) ha (he := he)
  obtain ⟨x, ex, h1⟩ := on1_of h
  subst ex
  obtain ⟨v, ev, rx1⟩ := rx.one
  subst ev
  obtain ⟨ys, e1, h2⟩ := need_of h1
  obtain ⟨ns, e2, h3⟩ := need_of h2
  cases rx1 with
  | tup q ra =>
    cases e1
    rw [intsOf_eq e2] at ra
    have hs := sqT_same rm.fr q
    rw [ra.intsI] at hs
    exact ⟨_, ns, rfl, hs, fun ns' l h5 h6 nl => k _ _ ⟨_, M, _, rm.beh nl, .lst upd_same (rall_intsV ns'), h3 ns' h5 h6⟩⟩
  | _ => cases e1
theorem w_sortT {xs : List PV} {ns : List Int} {M : Mem} {Q : PQ} (e2 : intsOf xs = some ns) (h : ∀ ns' : List Int, ns'.Perm ns → ns'.Pairwise (· ≤ ·) → Q (.lst (ns'.map .int)) M) : kSortT (.tup xs) M Q := need_by (a := xs) rfl (need_by e2 h)
end
end PL
set_option Elab.async false
set_option linter.all false
set_option maxRecDepth 100000
namespace PL
open PySem PySem.Spec PyProof.Rows L2
section
variable {X : Cx} {a b c e : Expr} {ta tb tc te to : PTE} {pos p : Pos} {es : List Expr} {t : PTA} {x : Str}
/-! ### xs + ys of lists, those that may change among them -/
def lstM (M : Mem) : PV → Option (List PV)
  | .lst xs => some xs
  | .ptr a => match M a with | some (.lst xs) => some xs | _ => none
  | _ => none
theorem lstM_ptr {M : Mem} {a : Addr} {xs : List PV} (h : M a = some (.lst xs)) : lstM M (.ptr a) = some xs := by
  show (match M a with | some (.lst xs) => some xs | _ => none) = some xs
  rw [h]
theorem R.lstM {K : PySem.W.Frag} {F H : Hp} {M : Mem} {x : PV} {v : V} {xs : List PV} (rm : RM K F M H) (r : R K F x v) (h : lstM M x = some xs) : ∃ a vs, v = .ref a ∧ H a = some (.lst vs) ∧ RAll K F xs vs := by
  cases r with
  | lst e q => cases h; exact ⟨_, _, rfl, rm.fr _ _ e, q⟩
  | ptr a =>
    cases hm : M a with
    | none =>
      have h' : (match M a with | some (.lst xs) => some xs | _ => none) = some xs := h
      rw [hm] at h'
      cases h'
    | some m =>
      have h' : (match M a with | some (.lst xs) => some xs | _ => none) = some xs := h
      rw [hm] at h'
      cases m with
      | lst ys =>
        cases h'
        obtain ⟨u, e, ru⟩ := rm.mu _ _ hm
        cases ru with
        | lst ru => exact ⟨_, _, rfl, e, ru⟩
      | _ => cases h'
  | _ => cases h
def oAddL : PO2 := fun x y M Q => need (lstM M x) fun xs => need (lstM M y) fun ys => xs.length + ys.length ≤ sizeLine ∧ Q (.lst (xs ++ ys)) M
theorem LE.addL (ha : LE X a ta) (hb : LE X b tb) : LE X (.BinOp a .Add b pos) (pBin oAddL ta tb) := by
  refine LE.bin op_cat (fun F M H x y xv yv Q Qv rm rx ry h k => ?_) ha hb
  obtain ⟨xs, e1, h⟩ := need_of h
  obtain ⟨ys, e2, h⟩ := need_of h
  obtain ⟨a', vs, ev, hs, ra⟩ := R.lstM rm rx e1
  obtain ⟨b', ws, ew, hs2, rb⟩ := R.lstM rm ry e2
  subst ev ew
  exact ⟨_, _, vs, ws, rfl, rfl, hs, hs2, by rw [← ra.length, ← rb.length]; exact h.1, fun p np => k _ _ ⟨_, M, _, rm.beh np, .lst upd_same ((ra.append rb).same (rm.beh (o := .lst (vs ++ ws)) np).sm), h.2⟩⟩
theorem w_addLs {x y : PV} {xs ys : List PV} {M : Mem} {Q : PQ} (e1 : lstM M x = some xs) (e2 : lstM M y = some ys) (c : xs.length + ys.length ≤ sizeLine) (h : Q (.lst (xs ++ ys)) M) : oAddL x y M Q := need_by e1 (need_by e2 ⟨c, h⟩)
/-! ### xs += ys of a list that may change -/
def oExt : PO2 := fun x y M Q => match x with
  | .ptr p => match M p with
    | some (.lst xs) => need (lstM M y) fun ys => xs.length + ys.length ≤ sizeLine ∧ Q (.ptr p) (M.put p (.lst (xs ++ ys)))
    | _ => False
  | _ => False
theorem pop_ext {K : PySem.W.Frag} : POp K rExt2 oExt := by
  intro F M H x y xv yv Q Qv rm rx ry h k
  unfold oExt at h
  split at h
  · rename_i p
    split at h
    · rename_i xs hm
      obtain ⟨ys, e2, h⟩ := need_of h
      obtain ⟨b', ws, ew, hs2, rb⟩ := R.lstM rm ry e2
      obtain ⟨u, e3, ru⟩ := rm.mu _ _ hm
      cases rx
      cases ru with
      | lst ru =>
        refine ⟨p, b', _, _, rfl, ew, e3, hs2, by rw [← ru.length, ← rb.length]; exact h.1, k _ _ ⟨F, _, _, rm.behWrite (o := .lst _) hm (.lst (ru.append rb)), .ptr p, h.2⟩⟩
    · exact h.elim
  · exact h.elim
theorem LS.augExt (i : Nat) {pos' : Pos} (hN : X.N.Nodup) (he : LE X e te) (hi : X.N[i]? = some x := by rfl) (hx : Loc X.env.scope x := by first | exact .inl rfl | exact .inr rfl)
    (hf : X.fn x = true ∨ X.env.scope.names.lookup x = some .local := by first | exact .inl rfl | exact .inr rfl) : LS X (.AugAssign (.Name x pos') .Add e pos) (pAug i oExt te) := LS.aug i iop_ext pop_ext hN he hi hx hf
theorem w_ext {p : Addr} {y : PV} {xs ys : List PV} {M : Mem} {Q : PQ} (e1 : M p = some (.lst xs)) (e2 : lstM M y = some ys) (c : xs.length + ys.length ≤ sizeLine) (h : Q (.ptr p) (M.put p (.lst (xs ++ ys)))) : oExt (.ptr p) y M Q := by
  show (match M p with | some (.lst xs) => _ | _ => False)
  rw [e1]
  exact need_by e2 ⟨c, h⟩
end
/-! ### max(xs) of a list of ints -/
section
variable {prog : Program} {w : World} {A : Around} {E : Value → Shared → Prop} {s : Shared} {l : Addr}
theorem max_lstRaw {its : List Value} {ns : List Int} {Q : Value → Shared → Prop} (hh : A.handled = none) (hl : s.heap.IsList l its.toArray) (hi : IntsAre its ns) (hne : 0 < ns.length)
    (h : ∀ h' tk m t', (∀ b o, s.heap.get? b = some o → h'.get? b = some o) → m ∈ ns → (∀ a, a ∈ ns → a ≤ m) → Q (.int m t') { s with heap := h', toks := tk }) : wpAny (model prog w) A (call (.builtin "max") [.ref l]) Q E s := by
  obtain ⟨xs, e⟩ := hi.allInts.items
  have hn : numsOf (intItems xs).toList = ns := by rw [← e]; exact hi.numsOf
  rw [nums_intItems] at hn
  subst hn
  rw [e] at hl
  have hsz : 0 < xs.size := by simpa using hne
  have hlt : l < s.heap.objs.size := by
    obtain ⟨_, q, _⟩ := hl
    exact Heap.lt_size q
  have push1 : ∀ b o, s.heap.get? b = some o → (s.heap.push { cls := .type "list_iterator", data := .fields #[.ref l, .int 0 0] }).get? b = some o := fun b o q => Heap.get?_push_of_some _ q
  refine call_max_walk (wpAny_pyIter_list hl ?_)
  refine ⟨_, _, _, _, _, _, _, rfl, Walks.list (A := A.in1) hh _ l (Nat.ne_of_lt hlt) (intItems xs), ⟨⟨_, Heap.get?_push_size _ rfl, rfl, rfl⟩, hl.at fun o e => push1 l o e⟩, fun b hb => ?_, by simpa [intItems] using hsz, CmpOf.ints_gt (numAt xs) (fun _ _ => intItems_at), fun v h' tk hP hk => ?_⟩
  · show b < (s.heap.push _).objs.size
    rw [Heap.size_push]
    have hb2 : b = s.heap.objs.size ∨ b = l := by simpa using hb
    rcases hb2 with e1 | e1
    · rw [e1]; exact Nat.lt_succ_self _
    · rw [e1]; exact Nat.lt_succ_of_lt hlt
  · obtain ⟨t, rfl⟩ := intItems_at (by simpa [intItems] using hP)
    obtain ⟨h1, h2⟩ := argBest_gt (numAt xs) (xs.size - 1)
    refine h h' tk _ t (fun b o q => hk b o (fun hm => ?_) (push1 b o q)) ?_ fun a ha => ?_
    · have : b = s.heap.objs.size := by simpa using hm
      exact absurd (this ▸ Heap.lt_size q) (Nat.lt_irrefl _)
    · rw [numAt_eq]; exact PySem.getD_mem (by rw [List.length_map, Array.length_toList]; exact Nat.lt_of_le_of_lt h1 (by omega))
    · obtain ⟨j, hj, rfl⟩ := mem_getD ha
      have hj' : j < xs.size := by simpa using hj
      rw [← numAt_eq]; exact h2 j (by omega)
end
def kMaxL (x : PV) (M : Mem) (Q : PQ) : Prop := need (lstOf M x) fun xs => need (intsOf xs) fun ns => 0 < ns.length ∧ ∀ m, m ∈ ns → (∀ y, y ∈ ns → y ≤ m) → Q (.int m) M
section
variable {X : Cx} {a b c e : Expr} {ta tb tc te : PTE} {pos p p2 pos2 : Pos} {es : List Expr} {t : PTA} {x : Str}
theorem cr_maxL (hc : X.calm = true) : CallR X (.builtin "max") (fun vs H Q => ∃ (a : Addr) (ns : List Int), vs = [V.ref a] ∧ SqL X.K H a (ns.map V.int) ∧ 0 < ns.length ∧ ∀ m, m ∈ ns → (∀ y, y ∈ ns → y ≤ m) → Q (.int m) H) := by
  rintro pins s σ H vs us Q I r ⟨a, ns, ev, hs, hne, q⟩
  subst ev
  obtain ⟨its, rv, hl, _⟩ := I.list hs
  rw [Vals.ref1 r]
  exact max_lstRaw (I.ok.hd hc) hl.isList (intsAre_of rv) hne fun h' tk m t' hk h1 h2 => ⟨.int _, H, I.kept hk, ⟨_, rfl⟩, q m h1 h2⟩
theorem LE.maxL (hc : X.calm = true) (hg : Gl X "max") (hm : X.mg "max" = none) (ha : LA X [e] t) (he : starEach [e] X.env = (false, eval e X.env) :: starEach [] X.env := by rfl) : LE X (.Call (.Name "max" p) [e] [] pos) (pCallB (on1 kMaxL) t) := by
  refine LE.callB (cr_maxL hc) (fun F M H xs vs Q Qv rm rx h k => ?_) hg hm (by decide +kernel) ha (he := he)
  obtain ⟨x, ex, h1⟩ := on1_of h
  subst ex
  obtain ⟨v, ev, rx1⟩ := rx.one
  subst ev
  obtain ⟨ys, e1, h2⟩ := need_of h1
  obtain ⟨ns, e2, h3, h4⟩ := need_of h2
  obtain ⟨q, ws, ev, hs, ra⟩ := rx1.lstI rm e1
  subst ev
  rw [intsOf_eq e2] at ra
  rw [ra.intsI] at hs
  exact ⟨_, ns, rfl, hs, h3, fun m h5 h6 => k _ _ (LQ.now rm (.int _) (h4 m h5 h6))⟩
end
end PL
set_option Elab.async false
set_option linter.all false
set_option maxRecDepth 100000
namespace PL
open PySem PySem.Spec PyProof.Rows L2
section
variable {X : Cx} {a b c e tg : Expr} {ta tb tc te to : PTE} {pos p : Pos} {es : List Expr} {t : PTA} {x : Str}
/-! ### shifts and bits -/
abbrev oShl := oI CPow fun i j => .int (i * 2 ^ j.toNat)
abbrev oShr := oI (fun _ j => 0 ≤ j) fun i j => .int (i / 2 ^ j.toNat)
abbrev oBand := oI0 fun i j => .int (Builtin.bitAnd i j)
abbrev oBor := oI0 fun i j => .int (Builtin.bitOr i j)
abbrev oBxor := oI0 fun i j => .int (Builtin.bitXor i j)
theorem LE.shl (ha : LE X a ta) (hb : LE X b tb) : LE X (.BinOp a .LShift b pos) (pBin oShl ta tb) := LE.bin op_shl (pop_I fun _ _ _ => .int _) ha hb
theorem LE.shr (ha : LE X a ta) (hb : LE X b tb) : LE X (.BinOp a .RShift b pos) (pBin oShr ta tb) := LE.bin op_shr (pop_I fun _ _ _ => .int _) ha hb
theorem LE.band (ha : LE X a ta) (hb : LE X b tb) : LE X (.BinOp a .BitAnd b pos) (pBin oBand ta tb) := LE.bin op_and (pop_I0 fun _ _ _ => .int _) ha hb
theorem LE.bor (ha : LE X a ta) (hb : LE X b tb) : LE X (.BinOp a .BitOr b pos) (pBin oBor ta tb) := LE.bin op_or (pop_I0 fun _ _ _ => .int _) ha hb
theorem LE.bxor (ha : LE X a ta) (hb : LE X b tb) : LE X (.BinOp a .BitXor b pos) (pBin oBxor ta tb) := LE.bin op_xor (pop_I0 fun _ _ _ => .int _) ha hb
/-! ### zip of two frozen lists, or of two tuples -/
def zipP (xs ys : List PV) : List PV := (xs.zip ys).map fun p => .tup [p.1, p.2]
theorem zipP_at {xs ys : List PV} {i : Nat} {x y : PV} (e : xs[i]? = some x) (e' : ys[i]? = some y) : (zipP xs ys)[i]? = some (.tup [x, y]) := by
  unfold zipP
  rw [List.getElem?_map, List.zip_eq_zipWith, List.getElem?_zipWith, e, e']
  rfl
theorem stab_zip {K : PySem.W.Frag} {F : Hp} {a b : Addr} {xs ys : List PV} {vs ws : List V} (h : SqL K F a vs) (r : RAll K F xs vs) (h' : SqL K F b ws) (r' : RAll K F ys ws) : Stab K (Itz K a b) F (zipP xs ys) := by
  intro i F' M H sm rm
  have hH : SqL K H a vs := rm.fr.seq (sm.seq h)
  have hH' : SqL K H b ws := rm.fr.seq (sm.seq h')
  have hl : (zipP xs ys).length = min xs.length ys.length := by unfold zipP; rw [List.length_map, List.length_zip]
  refine ⟨fun hi => ?_, fun hi => ⟨vs, ws, hH, hH', by rw [← r.length, ← r'.length]; omega⟩⟩
  have hi2 := hi
  rw [hl] at hi2
  obtain ⟨v, e, rv⟩ := r.get (List.getElem?_eq_getElem (show i < xs.length by omega))
  obtain ⟨w, e', rw'⟩ := r'.get (List.getElem?_eq_getElem (show i < ys.length by omega))
  refine ⟨⟨vs, ws, v, w, hH, hH', e, e'⟩, fun u H' y => ?_⟩
  obtain ⟨T, v1, w1, rfl, nT, rfl, y1, y2⟩ := y
  have e2 := y1 vs hH
  rw [e] at e2
  cases e2
  have e3 := y2 ws hH'
  rw [e'] at e3
  cases e3
  have eq : (zipP xs ys)[i] = .tup [xs[i], ys[i]] := by
    have z := zipP_at (List.getElem?_eq_getElem (show i < xs.length by omega)) (List.getElem?_eq_getElem (show i < ys.length by omega))
    rw [List.getElem?_eq_getElem hi] at z
    exact Option.some.inj z
  rw [eq]
  exact ⟨_, rm.beh nT, .tup (SqT.of upd_same) (.cons ((rv.same sm).same (rm.beh (o := .tup [v, w]) nT).sm) (.cons ((rw'.same sm).same (rm.beh (o := .tup [v, w]) nT).sm) .nil))⟩
theorem stab_zipT {K : PySem.W.Frag} {F : Hp} {a b : Addr} {xs ys : List PV} {vs ws : List V} (h : SqT K F a vs) (r : RAll K F xs vs) (h' : SqT K F b ws) (r' : RAll K F ys ws) : Stab K (RZ.ItzT K a b) F (zipP xs ys) := by
  intro i F' M H sm rm
  have hH : SqT K H a vs := sqT_same rm.fr (sqT_same sm h)
  have hH' : SqT K H b ws := sqT_same rm.fr (sqT_same sm h')
  have hl : (zipP xs ys).length = min xs.length ys.length := by unfold zipP; rw [List.length_map, List.length_zip]
  refine ⟨fun hi => ?_, fun hi => ⟨vs, ws, hH, hH', by rw [← r.length, ← r'.length]; omega⟩⟩
  have hi2 := hi
  rw [hl] at hi2
  obtain ⟨v, e, rv⟩ := r.get (List.getElem?_eq_getElem (show i < xs.length by omega))
  obtain ⟨w, e', rw'⟩ := r'.get (List.getElem?_eq_getElem (show i < ys.length by omega))
  refine ⟨⟨vs, ws, v, w, hH, hH', e, e'⟩, fun u H' y => ?_⟩
  obtain ⟨T, v1, w1, rfl, nT, rfl, y1, y2⟩ := y
  have e2 := y1 vs hH
  rw [e] at e2
  cases e2
  have e3 := y2 ws hH'
  rw [e'] at e3
  cases e3
  have eq : (zipP xs ys)[i] = .tup [xs[i], ys[i]] := by
    have z := zipP_at (List.getElem?_eq_getElem (show i < xs.length by omega)) (List.getElem?_eq_getElem (show i < ys.length by omega))
    rw [List.getElem?_eq_getElem hi] at z
    exact Option.some.inj z
  rw [eq]
  exact ⟨_, rm.beh nT, .tup (SqT.of upd_same) (.cons ((rv.same sm).same (rm.beh (o := .tup [v, w]) nT).sm) (.cons ((rw'.same sm).same (rm.beh (o := .tup [v, w]) nT).sm) .nil))⟩
def seqK : PV → Option (Bool × List PV)
  | .lst xs => some (false, xs)
  | .scr xs => some (false, xs)
  | .tup xs => some (true, xs)
  | _ => none
def piZ (ta tb : PTE) : PTI := fun E σ M Q => ta E σ M fun x M1 => tb E σ M1 fun y M2 => need (seqK x) fun p => need (seqK y) fun q => p.1 = q.1 ∧ Q (zipP p.2 q.2) M2
theorem R.seqK_lst {K : PySem.W.Frag} {F : Hp} {x : PV} {v : V} {xs : List PV} (r : R K F x v) (h : seqK x = some (false, xs)) : ∃ a vs, v = .ref a ∧ SqL K F a vs ∧ RAll K F xs vs := by
  cases r with
  | lst q s => cases h; exact ⟨_, _, rfl, SqL.of q, s⟩
  | scr q s => cases h; exact ⟨_, _, rfl, q, s⟩
  | _ => cases h
theorem R.seqK_tup {K : PySem.W.Frag} {F : Hp} {x : PV} {v : V} {xs : List PV} (r : R K F x v) (h : seqK x = some (true, xs)) : ∃ a vs, v = .ref a ∧ SqT K F a vs ∧ RAll K F xs vs := by
  cases r with
  | tup q s => cases h; exact ⟨_, _, rfl, q, s⟩
  | _ => cases h
theorem LI.zip {elts : List Expr} {kk : Nat} {tpos : Pos} (hg : Gl X "zip") (hm : X.mg "zip" = none) (ha : LE X a ta) (hb : LE X b tb)
    (hs : starEach [a, b] X.env = (false, eval a X.env) :: starEach [b] X.env := by rfl) (hs2 : starEach [b] X.env = [(false, eval b X.env)] := by rfl) :
    LI X (.Tuple elts kk tpos) (.Call (.Name "zip" p) [a, b] [] pos) (piZ ta tb) := by
  refine ⟨fun σv H σ F M Q E tk rm rs h => WI.of (RZ.pi_zipA hg hm (pa_cons WE.pe (pa_cons WE.pe pa_nil hs2) hs) hs (by rw [hs2]; rfl)) ?_⟩
  refine seq2 ha hb tk rm rs h fun x y xv yv F2 M2 H2 bh rx ry h2 => ?_
  obtain ⟨⟨k1, xs⟩, e1, h3⟩ := need_of h2
  obtain ⟨⟨k2, ys⟩, e2, h4⟩ := need_of h3
  obtain ⟨h5, h6⟩ := h4
  have h5' : k1 = k2 := h5
  subst h5'
  cases k1 with
  | false =>
    obtain ⟨a1, vs, rfl, q1, r1⟩ := rx.seqK_lst e1
    obtain ⟨a2, ws, rfl, q2, r2⟩ := ry.seqK_lst e2
    exact ⟨a1, a2, vs, ws, rfl, .inl ⟨bh.rm.fr.seq q1, bh.rm.fr.seq q2, F2, M2, _, bh, stab_zip q1 r1 q2 r2, h6⟩⟩
  | true =>
    obtain ⟨a1, vs, rfl, q1, r1⟩ := rx.seqK_tup e1
    obtain ⟨a2, ws, rfl, q2, r2⟩ := ry.seqK_tup e2
    exact ⟨a1, a2, vs, ws, rfl, .inr ⟨sqT_same bh.rm.fr q1, sqT_same bh.rm.fr q2, F2, M2, _, bh, stab_zipT q1 r1 q2 r2, h6⟩⟩
/-! ### reversed(range(n)) -/
theorem stab_rev {K : PySem.W.Frag} {F : Hp} {n : Nat} : Stab K (Itc (0 + (((n : Int) - 0).toNat : Nat) - 1) (-1) ((n : Int) - 0).toNat) F (rngP 0 n).reverse := by
  intro i F' M H sm rm
  have en : ((n : Int) - 0).toNat = n := by omega
  rw [en]
  have hl : (rngP 0 n).reverse.length = n := by rw [List.length_reverse, rngP_length]
  refine ⟨fun hi => ?_, fun hi => by rw [hl] at hi; exact hi⟩
  have hn : i < n := by rw [hl] at hi; exact hi
  refine ⟨hn, fun w H' y => ?_⟩
  obtain ⟨rfl, rfl⟩ := y
  refine ⟨F', Beh.refl rm, ?_⟩
  have e : (rngP 0 n).reverse[i] = PV.int (0 + ((n : Nat) : Int) - 1 + (i : Int) * (-1)) := by
    rw [List.getElem_reverse]
    simp only [rngP, List.getElem_map, List.getElem_range, List.length_map, List.length_range]
    congr 1
    omega
  rw [e]
  exact .int _
def piRv (te : PTE) : PTI := fun E σ M Q => te E σ M fun x M1 => match x with | .int j => (0 ≤ j ∧ j < 2 ^ 62) ∧ Q (rngP 0 j.toNat).reverse M1 | _ => False
theorem LI.rvR {p2 pos2 : Pos} (hg : Gl X "reversed") (hm : X.mg "reversed" = none) (hg2 : Gl X "range") (hm2 : X.mg "range" = none) (ha : LE X a ta) (hs : starEach [a] X.env = [(false, eval a X.env)] := by rfl)
    (hs2 : starEach [.Call (.Name "range" p2) [a] [] pos2] X.env = (false, eval (.Call (.Name "range" p2) [a] [] pos2) X.env) :: starEach [] X.env := by rfl) : LI X tg (.Call (.Name "reversed" p) [.Call (.Name "range" p2) [a] [] pos2] [] pos) (piRv ta) := by
  refine ⟨fun σv H σ F M Q E tk rm rs h => WI.of (pi_revR hg hm (prg_1 hg2 hm2 WE.pe hs) hs2) ?_⟩
  refine (ha.run σv H σ F M _ E tk rm rs h).mono ?_
  rintro v H1 ⟨F1, M1, x, b1, rx, hx⟩
  cases rx <;> first
    | exact hx.elim
    | skip
  rename_i j
  obtain ⟨⟨h1, h2⟩, h3⟩ := hx
  obtain ⟨n, rfl⟩ := Int.eq_ofNat_of_zero_le h1
  exact ⟨_, rfl, by omega, by omega, by omega, by omega, F1, M1, _, b1, stab_rev, by rw [Int.toNat_natCast] at h3; exact h3⟩
/-! ### tuple(range(n)) -/
theorem rall_rg {K : PySem.W.Frag} {F : Hp} {j : Int} : RAll K F (rngP 0 j.toNat) (rgV 0 j) := by
  have eq : (j - 0).toNat = j.toNat := by rw [Int.sub_zero]
  unfold rngP rgV
  rw [eq]
  exact rall_rng _
def kTupRg (x : PV) (M : Mem) (Q : PQ) : Prop := match x with | .int j => (-1000000 < j ∧ j < 1000000) ∧ Q (.tup (rngP 0 j.toNat)) M | _ => False
def pTupRg (ta : PTE) : PTE := fun E σ M Q => ta E σ M fun x M1 => kTupRg x M1 Q
theorem LE.tupRg {pr pl : Pos} (hc : X.calm = true) (hg : Gl X "tuple") (hm : X.mg "tuple" = none) (hg2 : Gl X "range") (hm2 : X.mg "range" = none) (ha : LE X a ta) (na : starEach [a] X.env = (false, eval a X.env) :: starEach [] X.env := by rfl)
    (ne : starEach [.Call (.Name "range" pr) [a] [] p] X.env = (false, eval (.Call (.Name "range" pr) [a] [] p) X.env) :: starEach [] X.env := by rfl) :
    LE X (.Call (.Name "tuple" pl) [.Call (.Name "range" pr) [a] [] p] [] pos) (pTupRg ta) := by
  refine ⟨fun σv H σ F M Q E tk rm rs h => WE.of (pe_tupRg hc hg hm (prg_1 hg2 hm2 WE.pe na) ne) ?_⟩
  refine (ha.run σv H σ F M _ E tk rm rs h).mono ?_
  rintro v H1 ⟨F1, M1, x, b1, rx, hx⟩
  cases rx with
  | int j =>
    obtain ⟨⟨h0, h1⟩, hx⟩ := hx
    refine ⟨j, rfl, ?_, fun q nq => ?_⟩
    · exact ⟨by omega, by omega, by omega, by omega, by omega⟩
    · exact ⟨_, _, _, b1.trans (b1.rm.beh nq), .tup (SqT.of upd_same) (rall_rg.same (b1.rm.beh (o := .tup (rgV 0 j)) nq).sm), hx⟩
  | _ => exact hx.elim
theorem w_tupRg {E : PXK} {σ : PSt} {M : Mem} {Q : PQ} (h : ta E σ M fun x M1 => kTupRg x M1 Q) : pTupRg ta E σ M Q := h
/-! ### steps of the walk -/
def kRv (x : PV) (M : Mem) (Q : List PV → Mem → Prop) : Prop := match x with | .int j => (0 ≤ j ∧ j < 2 ^ 62) ∧ Q (rngP 0 j.toNat).reverse M | _ => False
theorem w_rv {E : PXK} {σ : PSt} {M : Mem} {Q : List PV → Mem → Prop} (h : ta E σ M fun x M1 => kRv x M1 Q) : piRv ta E σ M Q := h
theorem w_rvI {j : Int} {M : Mem} {Q : List PV → Mem → Prop} (hj : 0 ≤ j ∧ j < 2 ^ 62) (h : Q (rngP 0 j.toNat).reverse M) : kRv (.int j) M Q := ⟨hj, h⟩
def kZ (x y : PV) (M : Mem) (Q : List PV → Mem → Prop) : Prop := need (seqK x) fun p => need (seqK y) fun q => p.1 = q.1 ∧ Q (zipP p.2 q.2) M
theorem w_z {E : PXK} {σ : PSt} {M : Mem} {Q : List PV → Mem → Prop} (h : ta E σ M fun x M1 => tb E σ M1 fun y M2 => kZ x y M2 Q) : piZ ta tb E σ M Q := h
theorem w_zL {xs ys : List PV} {M : Mem} {Q : List PV → Mem → Prop} (h : Q (zipP xs ys) M) : kZ (.lst xs) (.lst ys) M Q := ⟨rfl, h⟩
theorem w_zT {xs ys : List PV} {M : Mem} {Q : List PV → Mem → Prop} (h : Q (zipP xs ys) M) : kZ (.tup xs) (.tup ys) M Q := ⟨rfl, h⟩
theorem w_shr {i j : Int} {M : Mem} {Q : PQ} (hj : 0 ≤ j) (h : Q (.int (i / 2 ^ j.toNat)) M) : oShr (.int i) (.int j) M Q := ⟨hj, h⟩
theorem w_shl {i j : Int} {M : Mem} {Q : PQ} (hj : 0 ≤ j ∧ j ≤ 1000000 ∧ i.natAbs < 2 ^ 64) (h : Q (.int (i * 2 ^ j.toNat)) M) : oShl (.int i) (.int j) M Q := ⟨hj, h⟩
end
end PL
set_option Elab.async false
set_option linter.all false
set_option maxRecDepth 100000
namespace PL
open PySem PySem.Spec PyProof.Rows L2
/-! ### min(t) of a tuple of ints -/
section
variable {prog : Program} {w : World} {A : Around} {E : Value → Shared → Prop} {s : Shared} {l : Addr}
theorem min_tupRaw {its : List Value} {ns : List Int} {Q : Value → Shared → Prop} (hh : A.handled = none) (hl : s.heap.IsTuple l its.toArray) (hi : IntsAre its ns) (hne : 0 < ns.length)
    (h : ∀ h' tk m t', (∀ b o, s.heap.get? b = some o → h'.get? b = some o) → m ∈ ns → (∀ a, a ∈ ns → m ≤ a) → Q (.int m t') { s with heap := h', toks := tk }) : wpAny (model prog w) A (call (.builtin "min") [.ref l]) Q E s := by
  obtain ⟨xs, e⟩ := hi.allInts.items
  have hn : numsOf (intItems xs).toList = ns := by rw [← e]; exact hi.numsOf
  rw [nums_intItems] at hn
  subst hn
  rw [e] at hl
  have hsz : 0 < xs.size := by simpa using hne
  have hlt : l < s.heap.objs.size := by
    obtain ⟨_, q, _⟩ := hl
    exact Heap.lt_size q
  have push1 : ∀ b o, s.heap.get? b = some o → (s.heap.push { cls := .type "tuple_iterator", data := .fields #[.ref l, .int 0 0] }).get? b = some o := fun b o q => Heap.get?_push_of_some _ q
  refine call_min_walk (wpAny_pyIter_tuple hl ?_)
  refine ⟨_, _, _, _, _, _, _, rfl, Walks.tuple (A := A.in1) hh _ l (Nat.ne_of_lt hlt) (intItems xs), ⟨⟨_, Heap.get?_push_size _ rfl, rfl, rfl⟩, hl.push _⟩, fun b hb => ?_, by simpa [intItems] using hsz, CmpOf.ints_lt (numAt xs) (fun _ _ => intItems_at), fun v h' tk hP hk => ?_⟩
  · show b < (s.heap.push _).objs.size
    rw [Heap.size_push]
    have hb2 : b = s.heap.objs.size ∨ b = l := by simpa using hb
    rcases hb2 with e1 | e1
    · rw [e1]; exact Nat.lt_succ_self _
    · rw [e1]; exact Nat.lt_succ_of_lt hlt
  · obtain ⟨t, rfl⟩ := intItems_at (by simpa [intItems] using hP)
    obtain ⟨h1, h2⟩ := argBest_lt (numAt xs) (xs.size - 1)
    refine h h' tk _ t (fun b o q => hk b o (fun hm => ?_) (push1 b o q)) ?_ fun a ha => ?_
    · have : b = s.heap.objs.size := by simpa using hm
      exact absurd (this ▸ Heap.lt_size q) (Nat.lt_irrefl _)
    · rw [numAt_eq]; exact PySem.getD_mem (by rw [List.length_map, Array.length_toList]; exact Nat.lt_of_le_of_lt h1 (by omega))
    · obtain ⟨j, hj, rfl⟩ := mem_getD ha
      have hj' : j < xs.size := by simpa using hj
      rw [← numAt_eq]; exact h2 j (by omega)
end
def kMinT (x : PV) (M : Mem) (Q : PQ) : Prop := need (tupF x) fun xs => need (intsOf xs) fun ns => 0 < ns.length ∧ ∀ m, m ∈ ns → (∀ y, y ∈ ns → m ≤ y) → Q (.int m) M
section
variable {X : Cx} {a b c e : Expr} {ta tb tc te : PTE} {pos p p2 pos2 : Pos} {es : List Expr} {t : PTA} {x : Str}
theorem cr_minT (hc : X.calm = true) : CallR X (.builtin "min") (fun vs H Q => ∃ (a : Addr) (ns : List Int), vs = [V.ref a] ∧ SqT X.K H a (ns.map V.int) ∧ 0 < ns.length ∧ ∀ m, m ∈ ns → (∀ y, y ∈ ns → m ≤ y) → Q (.int m) H) := by
  rintro pins s σ H vs us Q I r ⟨a, ns, ev, hs, hne, q⟩
  subst ev
  obtain ⟨its, rv, hl, _⟩ := I.tuple hs
  rw [Vals.ref1 r]
  exact min_tupRaw (I.ok.hd hc) hl (intsAre_of rv) hne fun h' tk m t' hk h1 h2 => ⟨.int _, H, I.kept hk, ⟨_, rfl⟩, q m h1 h2⟩
theorem LE.minT (hc : X.calm = true) (hg : Gl X "min") (hm : X.mg "min" = none) (ha : LA X [e] t) (he : starEach [e] X.env = (false, eval e X.env) :: starEach [] X.env := by rfl) : LE X (.Call (.Name "min" p) [e] [] pos) (pCallB (on1 kMinT) t) := by
  refine LE.callB (cr_minT hc) (fun F M H xs vs Q Qv rm rx h k => ?_) hg hm (by decide +kernel) ha (he := he)
  obtain ⟨x, ex, h1⟩ := on1_of h
  subst ex
  obtain ⟨v, ev, rx1⟩ := rx.one
  subst ev
  obtain ⟨ys, e1, h2⟩ := need_of h1
  obtain ⟨ns, e2, h3, h4⟩ := need_of h2
  cases rx1 with
  | tup q ra =>
    cases e1
    rw [intsOf_eq e2] at ra
    have hs := sqT_same rm.fr q
    rw [ra.intsI] at hs
    exact ⟨_, ns, rfl, hs, h3, fun m h5 h6 => k _ _ (LQ.now rm (.int _) (h4 m h5 h6))⟩
  | _ => cases e1
end
/-! ### s.join(xs), xs a frozen list or a tuple of texts -/
def strsOf : List PV → Option (List Str)
  | [] => some []
  | .str x :: r => (strsOf r).map (x :: ·)
  | _ :: _ => none
theorem strsOf_eq : ∀ {xs : List PV} {ss : List Str}, strsOf xs = some ss → xs = ss.map PV.str
  | [], ss, h => by cases h; rfl
  | .str x :: r, ss, h => by
    cases e : strsOf r with
    | none => simp only [strsOf, e] at h; cases h
    | some t =>
      simp only [strsOf, e] at h
      cases h
      rw [strsOf_eq e]
      rfl
  | .non :: _, _, h => by cases h
  | .bl _ :: _, _, h => by cases h
  | .int _ :: _, _, h => by cases h
  | .ty _ :: _, _, h => by cases h
  | .tup _ :: _, _, h => by cases h
  | .lst _ :: _, _, h => by cases h
  | .scr _ :: _, _, h => by cases h
  | .obj _ _ :: _, _, h => by cases h
  | .ptr _ :: _, _, h => by cases h
  | .dct _ :: _, _, h => by cases h
theorem RAll.strs {K : PySem.W.Frag} {F : Hp} : ∀ {ss : List Str} {vs : List V}, RAll K F (ss.map PV.str) vs → vs = ss.map V.str
  | [], _, .nil => rfl
  | x :: r, _, .cons h t => by
    cases h
    rw [RAll.strs t]
    rfl
def kStr (x : PV) (k : Str → Prop) : Prop := match x with | .str a => k a | _ => False
def kJoin (a : Str) (y : PV) (M : Mem) (Q : PQ) : Prop := need (seqK y) fun p => need (strsOf p.2) fun ss => (ss.map (·.length)).sum + ss.length * a.length ≤ 16777216 ∧ Q (.str (Str.join a ss)) M
def pJoin (to te : PTE) : PTE := fun E σ M Q => to E σ M fun x M1 => kStr x fun a => te E σ M1 fun y M2 => kJoin a y M2 Q
section
variable {X : Cx} {o e : Expr} {to te : PTE} {pos apos : Pos}
theorem LE.join (ho : LE X o to) (he : LE X e te) (hs : starEach [e] X.env = [(false, eval e X.env)] := by rfl) (hbase : attributeBase o "join" X.env (eval o X.env) = eval o X.env := by rfl) (hline : (apos.endLine == pos.line) = true := by rfl) :
    LE X (.Call (.Attribute o "join" apos) [e] [] pos) (pJoin to te) := by
  refine ⟨fun σv H σ F M Q E tk rm rs h => WE.of (pe_join WE.pe WE.pe hs hbase hline) ?_⟩
  refine (ho.run σv H σ F M _ E tk rm rs h).mono ?_
  rintro v H1 ⟨F1, M1, x, b1, rx, hx⟩
  cases rx with
  | str a =>
    refine ⟨⟨a, rfl⟩, (he.run σv H1 σ F1 M1 _ E (tk.tr b1) b1.rm (rs.same b1.sm) hx).mono ?_⟩
    rintro w H2 ⟨F2, M2, y, b2, ry, h2⟩
    obtain ⟨⟨k, xs⟩, e1, h3⟩ := need_of h2
    obtain ⟨ss, e2, h4, h5⟩ := need_of h3
    have e3 := strsOf_eq e2
    dsimp only at e3
    subst e3
    cases k with
    | false =>
      obtain ⟨p, vs, rfl, q1, r1⟩ := ry.seqK_lst e1
      rw [r1.strs] at q1
      exact ⟨a, p, ss, rfl, rfl, .inl (b2.rm.fr.seq q1), h4, LQ.tr b1 (LQ.tr b2 (LQ.now b2.rm (.str _) (by rw [TL.join_eq]; exact h5)))⟩
    | true =>
      obtain ⟨p, vs, rfl, q1, r1⟩ := ry.seqK_tup e1
      rw [r1.strs] at q1
      exact ⟨a, p, ss, rfl, rfl, .inr (sqT_same b2.rm.fr q1), h4, LQ.tr b1 (LQ.tr b2 (LQ.now b2.rm (.str _) (by rw [TL.join_eq]; exact h5)))⟩
  | _ => exact hx.elim
theorem w_join {E : PXK} {σ : PSt} {M : Mem} {Q : PQ} (h : to E σ M fun x M1 => kStr x fun a => te E σ M1 fun y M2 => kJoin a y M2 Q) : pJoin to te E σ M Q := h
theorem w_kStr {a : Str} {k : Str → Prop} (h : k a) : kStr (.str a) k := h
theorem w_kJoin {a : Str} {xs : List PV} {ss : List Str} {M : Mem} {Q : PQ} (e : strsOf xs = some ss) (c : (ss.map (·.length)).sum + ss.length * a.length ≤ 16777216) (h : Q (.str (Str.join a ss)) M) : kJoin a (.lst xs) M Q := need_by rfl (need_by e ⟨c, h⟩)
end
end PL
set_option Elab.async false
set_option linter.all false
set_option maxRecDepth 100000
/-! dicts with ints and (nested) tuples as keys -/
namespace PD
open PySem PySem.Spec PyProof.Rows L2 PL
/-! ### keys and rows by values -/
mutual
def KeyV (K : PySem.W.Frag) (H : Hp) : NestedKey → V → Prop
  | .none, v => v = .non
  | .num i, v => v = .int i
  | .text x, v => v = .str x
  | .tup ks, v => ∃ a vs, v = .ref a ∧ SqT K H a vs ∧ KeyVs K H ks vs
def KeyVs (K : PySem.W.Frag) (H : Hp) : List NestedKey → List V → Prop
  | [], vs => vs = []
  | k :: ks, vs => ∃ v r, vs = v :: r ∧ KeyV K H k v ∧ KeyVs K H ks r
end
def KeysV (K : PySem.W.Frag) (H : Hp) (es : List VRow) : Prop := ∀ e ∈ es, KeyV K H e.1 e.2.1
def atV (es : List VRow) (k : NestedKey) : Option V := (es.find? fun e => decide (e.1 = k)).map (·.2.2)
def putV (es : List VRow) (k : NestedKey) (u v : V) : List VRow := if (atV es k).isSome then es.map (fun e => if e.1 = k then (e.1, e.2.1, v) else e) else es ++ [(k, u, v)]
section
variable {X : Cx} {pins : List (Addr × Obj)} {σ : L2.St} {H : Hp} {s : Shared}
mutual
theorem KeyV.is (I : Inv X pins σ H s) : ∀ (k : NestedKey) (v : V) (u : Value), KeyV X.K H k v → RelV v u → NestedIs s.heap k u
  | .none, v, u, h, r => by
    have h' : v = .non := by unfold KeyV at h; exact h
    subst h'
    have : u = .none := r
    rw [this]
    exact .none
  | .num i, v, u, h, r => by
    have h' : v = .int i := by unfold KeyV at h; exact h
    subst h'
    obtain ⟨t, rfl⟩ := r
    exact .int _ _
  | .text x, v, u, h, r => by
    have h' : v = .str x := by unfold KeyV at h; exact h
    subst h'
    obtain ⟨t, rfl⟩ := r
    exact .text _ _
  | .tup ks, v, u, h, r => by
    unfold KeyV at h
    obtain ⟨a, vs, rfl, q, hk⟩ := h
    have : u = .ref a := r
    subst this
    obtain ⟨its, rv, hl, _⟩ := I.tuple q
    obtain ⟨o, h1, h2, n, h3⟩ := hl
    exact .tup h1 h2 h3 (by simpa using KeyVs.is I ks vs its hk rv)
theorem KeyVs.is (I : Inv X pins σ H s) : ∀ (ks : List NestedKey) (vs : List V) (us : List Value), KeyVs X.K H ks vs → Vals vs us → NestedAll s.heap ks us
  | [], vs, us, h, r => by
    have h' : vs = [] := by unfold KeyVs at h; exact h
    subst h'
    cases r
    exact .nil
  | k :: ks, vs, us, h, r => by
    unfold KeyVs at h
    obtain ⟨v, t, rfl, h1, h2⟩ := h
    cases r with
    | cons r1 r2 => exact .cons (KeyV.is I k v _ h1 r1) (KeyVs.is I ks t _ h2 r2)
end
theorem at_rel {k : NestedKey} : ∀ {es : List VRow} {xs : List Row}, Paired Same2 es xs → RelO (atV es k) (at_ xs k)
  | _, _, .nil => trivial
  | _, _, .cons (a := a) (b := b) (l₁ := l1) (l₂ := l2) h t => by
    have ih := at_rel (k := k) t
    unfold atV at_ at ih ⊢
    rw [List.find?_cons, List.find?_cons, h.1]
    by_cases e : b.1 = k
    · rw [decide_eq_true e]
      exact h.2.2
    · rw [decide_eq_false e]
      exact ih
theorem repl_rel {k : NestedKey} {v : V} {y : Value} (rv : RelV v y) : ∀ {es : List VRow} {xs : List Row}, Paired Same2 es xs → Paired Same2 (es.map fun e => if e.1 = k then (e.1, e.2.1, v) else e) (repl xs k y)
  | _, _, .nil => .nil
  | _, _, .cons (a := a) (b := b) (l₁ := l1) (l₂ := l2) h t => by
    refine .cons ?_ (repl_rel rv t)
    obtain ⟨h1, h2, h3⟩ := h
    show Same2 (if a.1 = k then (a.1, a.2.1, v) else a) (if b.1 = k then (b.1, b.2.1, y) else b)
    rw [h1]
    split
    · exact ⟨rfl, h2, rv⟩
    · exact ⟨h1, h2, h3⟩
theorem app_rel {p : VRow} {q : Row} (h : Same2 p q) : ∀ {es : List VRow} {xs : List Row}, Paired Same2 es xs → Paired Same2 (es ++ [p]) (xs ++ [q])
  | _, _, .nil => .cons h .nil
  | _, _, .cons h1 t => .cons h1 (app_rel h t)
theorem put_rel {k : NestedKey} {u v : V} {x y : Value} (ru : RelV u x) (rv : RelV v y) {es : List VRow} {xs : List Row} (r : Paired Same2 es xs) : Paired Same2 (putV es k u v) (put xs k x y) := by
  have hs : (atV es k).isSome = (at_ xs k).isSome := RelO.isSome_eq (at_rel r)
  unfold putV put
  rw [hs]
  split
  · exact repl_rel rv r
  · exact app_rel ⟨rfl, ru, rv⟩ r
theorem keyed_of (I : Inv X pins σ H s) : ∀ {es : List VRow} {xs : List Row}, Paired Same2 es xs → KeysV X.K H es → (∀ x ∈ xs, okK x.1) → Keyed s.heap xs
  | _, _, .nil, _, _ => fun _ h => absurd h List.not_mem_nil
  | _, _, .cons (a := b) (b := c) (l₁ := l1) (l₂ := l2) h t, hk, ok => fun x hx => by
    rcases List.mem_cons.mp hx with ex | ex
    · subst ex
      obtain ⟨q1, q2, q3⟩ := h
      have := hk b List.mem_cons_self
      rw [q1] at this
      exact ⟨KeyV.is I _ _ _ this q2, (ok x List.mem_cons_self).2⟩
    · exact keyed_of I t (fun e he => hk e (List.mem_cons_of_mem _ he)) (fun y hy => ok y (List.mem_cons_of_mem _ hy)) x ex
theorem d_rows (I : Inv X pins σ H s) {a : Addr} {es : List VRow} (e : H a = some (dO a es)) (hk : KeysV X.K H es) : (a == sysModules) = false ∧ (∀ x ∈ es, okK x.1) ∧ es.length ≤ sizeLine ∧ ∃ xs, Paired Same2 es xs ∧ Tab X.w s.heap a xs ∧ Keyed s.heap xs := by
  have p : dPhi a es s.heap := dO_phi (I.hok a _ e)
  obtain ⟨h1, h2, h3, w, xs, r, t⟩ := p
  have ok : ∀ x ∈ xs, okK x.1 := fun x hx => by
    obtain ⟨y, hy, ey⟩ := Paired.same_keys r x hx
    rw [← ey]
    exact h3 y hy
  exact ⟨h2, h3, h1, xs, r, t.world fun x hx => (ok x hx).1, keyed_of I r hk ok⟩
theorem paired_len {es : List VRow} {xs : List Row} (r : Paired Same2 es xs) : xs.length = es.length := by
  induction r with
  | nil => rfl
  | cons _ _ ih => rw [List.length_cons, List.length_cons, ih]
theorem putV_len (es : List VRow) (k : NestedKey) (u v : V) : (putV es k u v).length ≤ es.length + 1 := by
  unfold putV
  split
  · rw [List.length_map]; omega
  · rw [List.length_append]; simp
theorem putV_ok {es : List VRow} {k : NestedKey} {u v : V} (ok : okK k) (h : ∀ x ∈ es, okK x.1) : ∀ x ∈ putV es k u v, okK x.1 := by
  intro x hx
  unfold putV at hx
  split at hx
  · obtain ⟨y, hy, rfl⟩ := List.mem_map.mp hx
    split
    · exact h y hy
    · exact h y hy
  · rcases List.mem_append.mp hx with hx | hx
    · exact h x hx
    · rw [List.mem_singleton.mp hx]; exact ok
/-- d[k] -/
def rIxD (K : PySem.W.Frag) : R2 := fun x y H Q => ∃ a es k v, x = .ref a ∧ H a = some (dO a es) ∧ KeysV K H es ∧ KeyV K H k y ∧ okK k ∧ atV es k = some v ∧ Q v H
theorem ix_dct (hu : X.A.units + 65 < cLine) : IxR X (rIxD X.K) := by
  intro value slice pins s σ H x y v u Q I rx ry h hs
  obtain ⟨a, es, k, w, rfl, e, hk, ky, ok, hv, q⟩ := h
  have : v = .ref a := rx
  subst this
  obtain ⟨h1, h2, h3, xs, r, t, kd⟩ := d_rows I e hk
  have ra := at_rel (k := k) r
  rw [hv] at ra
  cases hx : at_ xs k with
  | none => rw [hx] at ra; exact ra.elim
  | some z =>
    rw [hx] at ra
    have hT : s.TypeIs (.ref a) "dict" := t.typeIs
    unfold subscriptTail
    refine wpAny_bind ?_
    rw [getitemInPython_of_ne hT.not_modules]
    refine wpAny_bind (wpAny_specialOf hT PySem.F.slot_dict_getitem.lookup ?_)
    have fin : wpAny (model X.prog X.w) X.A (subscripted slice false (.ref a) u) (fun r s₃ => wpAny (model X.prog X.w) X.A (letTemporaryGo value (.ref a) r >>= fun _ => pure r) (EP X pins σ Q) X.xe s₃) X.xe s := by
      rw [hs]
      exact wpAny_operating (getItem_key (by omega) (KeyV.is I k y u ky ry) ok.2 ok.1.notText t kd hx (wpAny_bind (wpAny_letTemporaryGo (wpAny_pure ⟨w, H, I.tok _, ra, q⟩))))
    first
      | exact wpAny_pure (wpAny_bind fin)
      | exact wpAny_bind (wpAny_pure (wpAny_bind fin))
      | exact wpAny_bind fin
/-- d[k] = v -/
def rSetD (K : PySem.W.Frag) : TSet := fun o i v H Q => ∃ a es k, o = .ref a ∧ H a = some (dO a es) ∧ KeysV K H es ∧ KeyV K H k i ∧ okK k ∧ es.length < sizeLine ∧ Q (upd H a (dO a (putV es k i v)))
theorem set_dct (hu : X.A.units + 65 < cLine) : PSet X (rSetD X.K) := by
  intro pins s σ H o i v ov iv u Q I ro ri rv h
  obtain ⟨a, es, k, rfl, e, hk, ky, ok, hl, q⟩ := h
  have : ov = .ref a := ro
  subst this
  obtain ⟨h1, h2, h3, xs, r, t, kd⟩ := d_rows I e hk
  refine setItem_key (by omega) (KeyV.is I k i iv ky ri) ok.2 ok.1.notText t kd (by rw [paired_len r]; exact h3) fun h' t' hs => ⟨_, ?_, q⟩
  obtain ⟨ob, en, ep, q1, q2⟩ := t'
  refine I.write (x := a) (e := a) (by rw [e]; trivial) (.inl rfl) (fun b w hb z => (hs.2 b hb).trans z) ⟨ob, q1⟩ (dO_ok ⟨?_, h1, putV_ok ok h2, X.w, _, put_rel ri rv r, ob, en, ep, q1, q2⟩)
  have := putV_len es k i v
  omega
/-- k in d -/
def rInD (K : PySem.W.Frag) (f : Bool → Bool) : R2 := fun y x H Q => ∃ a es k, x = .ref a ∧ H a = some (dO a es) ∧ KeysV K H es ∧ KeyV K H k y ∧ okK k ∧ Q (.bl (f (atV es k).isSome)) H
theorem op_inD (hu : X.A.units + 65 < cLine) : OpR X (compareOp .In) (rInD X.K id) := by
  intro pins s σ H y x v u Q I ry rx h
  obtain ⟨a, es, k, rfl, e, hk, ky, ok, q⟩ := h
  have : u = .ref a := rx
  subst this
  obtain ⟨h1, h2, h3, xs, r, t, kd⟩ := d_rows I e hk
  refine in_key (by omega) h1 (KeyV.is I k y v ky ry) ok.2 ok.1.notText t kd ?_
  rw [← RelO.isSome_eq (at_rel r)]
  exact ⟨.bl _, H, I.tok _, rfl, q⟩
end
end PD
set_option Elab.async false
set_option linter.all false
set_option maxRecDepth 100000
namespace PL
open PySem PySem.Spec PyProof.Rows L2 PD
mutual
/-- the key that a value is -/
def keyP : PV → Option NestedKey
  | .int i => some (.num i)
  | .tup xs => (keyPs xs).map .tup
  | .non => some .none
  | _ => none
def keyPs : List PV → Option (List NestedKey)
  | [] => some []
  | x :: xs => match keyP x, keyPs xs with
    | some k, some ks => some (k :: ks)
    | _, _ => none
end
mutual
theorem keyP_eq : ∀ (x : PV) (k : NestedKey), keyP x = some k → x = pvK k ∧ plainK k
  | .int i, k, h => by
    unfold keyP at h
    cases h
    exact ⟨by unfold pvK; rfl, by unfold plainK; trivial⟩
  | .non, k, h => by
    unfold keyP at h
    cases h
    exact ⟨by unfold pvK; rfl, by unfold plainK; trivial⟩
  | .tup xs, k, h => by
    unfold keyP at h
    cases e : keyPs xs with
    | none => rw [e] at h; cases h
    | some ks =>
      rw [e] at h
      cases h
      obtain ⟨h1, h2⟩ := keyPs_eq xs ks e
      exact ⟨by unfold pvK; rw [← h1], by unfold plainK; exact h2⟩
  | .bl _, _, h => by unfold keyP at h; cases h
  | .str _, _, h => by unfold keyP at h; cases h
  | .ty _, _, h => by unfold keyP at h; cases h
  | .lst _, _, h => by unfold keyP at h; cases h
  | .scr _, _, h => by unfold keyP at h; cases h
  | .obj _ _, _, h => by unfold keyP at h; cases h
  | .ptr _, _, h => by unfold keyP at h; cases h
  | .dct _, _, h => by unfold keyP at h; cases h
theorem keyPs_eq : ∀ (xs : List PV) (ks : List NestedKey), keyPs xs = some ks → xs = pvKs ks ∧ plainKs ks
  | [], ks, h => by
    unfold keyPs at h
    cases h
    exact ⟨by unfold pvKs; rfl, by unfold plainKs; trivial⟩
  | x :: xs, ks, h => by
    unfold keyPs at h
    cases e1 : keyP x with
    | none => rw [e1] at h; cases h
    | some k =>
      cases e2 : keyPs xs with
      | none => rw [e1, e2] at h; cases h
      | some r =>
        rw [e1, e2] at h
        cases h
        obtain ⟨h1, h2⟩ := keyP_eq x k e1
        obtain ⟨h3, h4⟩ := keyPs_eq xs r e2
        exact ⟨by unfold pvKs; rw [← h1, ← h3], by unfold plainKs; exact ⟨h2, h4⟩⟩
end
section
variable {K : PySem.W.Frag} {F H : Hp} {M : Mem}
mutual
theorem R.keyV (sm : Same F H) : ∀ (k : NestedKey) (v : V), R K F (pvK k) v → KeyV K H k v
  | .none, v, r => by unfold pvK at r; cases r; unfold KeyV; rfl
  | .num i, v, r => by unfold pvK at r; cases r; unfold KeyV; rfl
  | .text x, v, r => by unfold pvK at r; cases r; unfold KeyV; rfl
  | .tup ks, v, r => by
    unfold pvK at r
    cases r with
    | tup q ra =>
      unfold KeyV
      exact ⟨_, _, rfl, sqT_same sm q, RAll.keyVs sm ks _ ra⟩
theorem RAll.keyVs (sm : Same F H) : ∀ (ks : List NestedKey) (vs : List V), RAll K F (pvKs ks) vs → KeyVs K H ks vs
  | [], vs, r => by unfold pvKs at r; cases r; unfold KeyVs; rfl
  | k :: ks, vs, r => by
    unfold pvKs at r
    cases r with
    | cons r1 r2 =>
      unfold KeyVs
      exact ⟨_, _, rfl, R.keyV sm k _ r1, RAll.keyVs sm ks _ r2⟩
end
def atP (kvs : List (NestedKey × PV)) (k : NestedKey) : Option PV := (kvs.find? fun e => decide (e.1 = k)).map (·.2)
def putD (kvs : List (NestedKey × PV)) (k : NestedKey) (x : PV) : List (NestedKey × PV) := if (atP kvs k).isSome then kvs.map (fun e => if e.1 = k then (e.1, x) else e) else kvs ++ [(k, x)]
theorem RKs.at_ {k : NestedKey} : ∀ {kvs : List (NestedKey × PV)} {es : List VRow}, RKs K F kvs es → (∀ x, atP kvs k = some x → ∃ v, atV es k = some v ∧ R K F x v) ∧ (atP kvs k = none → atV es k = none)
  | _, _, .nil => ⟨(fun _ h => by cases h), fun _ => rfl⟩
  | _, _, .cons (k := k') (x := x) (kvs := r) (u := u) (v := v) (es := t) r1 r2 r3 => by
    have ih := RKs.at_ (k := k) r3
    unfold atP atV at ih ⊢
    rw [List.find?_cons, List.find?_cons]
    dsimp only at ih ⊢
    by_cases e : k' = k
    · rw [decide_eq_true e]
      refine ⟨fun y hy => ?_, fun h => by cases h⟩
      cases hy
      exact ⟨v, rfl, r2⟩
    · rw [decide_eq_false e]
      exact ih
theorem RKs.repl {k : NestedKey} {x : PV} {v : V} (r : R K F x v) : ∀ {kvs : List (NestedKey × PV)} {es : List VRow}, RKs K F kvs es → RKs K F (kvs.map fun e => if e.1 = k then (e.1, x) else e) (es.map fun e => if e.1 = k then (e.1, e.2.1, v) else e)
  | _, _, .nil => .nil
  | _, _, .cons (k := k') (x := y) r1 r2 r3 => by
    have ih := RKs.repl (k := k) r r3
    rw [List.map_cons, List.map_cons]
    dsimp only
    by_cases e : k' = k
    · rw [if_pos e, if_pos e]
      exact .cons r1 r ih
    · rw [if_neg e, if_neg e]
      exact .cons r1 r2 ih
theorem RKs.app {k : NestedKey} {x : PV} {u v : V} (ru : R K F (pvK k) u) (r : R K F x v) : ∀ {kvs : List (NestedKey × PV)} {es : List VRow}, RKs K F kvs es → RKs K F (kvs ++ [(k, x)]) (es ++ [(k, u, v)])
  | _, _, .nil => .cons ru r .nil
  | _, _, .cons r1 r2 r3 => .cons r1 r2 (RKs.app ru r r3)
theorem RKs.put {k : NestedKey} {x : PV} {u v : V} {kvs : List (NestedKey × PV)} {es : List VRow} (ru : R K F (pvK k) u) (r : R K F x v) (h : RKs K F kvs es) : RKs K F (putD kvs k x) (putV es k u v) := by
  have hs : (atP kvs k).isSome = (atV es k).isSome := by
    cases e : atP kvs k with
    | none => rw [(RKs.at_ h).2 e]; rfl
    | some y =>
      obtain ⟨w, e2, _⟩ := (RKs.at_ h).1 y e
      rw [e2]
      rfl
  unfold putD putV
  rw [hs]
  split
  · exact RKs.repl r h
  · exact RKs.app ru r h
theorem RKs.keysV (sm : Same F H) : ∀ {kvs : List (NestedKey × PV)} {es : List VRow}, RKs K F kvs es → KeysV K H es
  | _, _, .nil => fun _ h => absurd h List.not_mem_nil
  | _, _, .cons r1 r2 r3 => fun e he => by
    rcases List.mem_cons.mp he with h | h
    · rw [h]; exact R.keyV sm _ _ r1
    · exact RKs.keysV sm r3 e h
theorem RKs.length : ∀ {kvs : List (NestedKey × PV)} {es : List VRow}, RKs K F kvs es → es.length = kvs.length
  | _, _, .nil => rfl
  | _, _, .cons _ _ r => congrArg (· + 1) (RKs.length r)
def dctOf (M : Mem) : PV → Option (List (NestedKey × PV))
  | .dct kvs => some kvs
  | .ptr p => match M p with | some (.dct a kvs) => if a = p then some kvs else none | _ => none
  | _ => none
theorem dctOf_ptr {p : Addr} {kvs : List (NestedKey × PV)} (h : M p = some (.dct p kvs)) : dctOf M (.ptr p) = some kvs := by
  show (match M p with | some (.dct a kvs) => if a = p then some kvs else none | _ => none) = _
  rw [h]
  exact if_pos rfl
theorem R.dctI {x : PV} {v : V} {kvs : List (NestedKey × PV)} (rm : RM K F M H) (r : R K F x v) (h : dctOf M x = some kvs) : ∃ a es, v = .ref a ∧ H a = some (dO a es) ∧ RKs K F kvs es := by
  cases r with
  | dct e q => cases h; exact ⟨_, _, rfl, rm.fr _ _ e, q⟩
  | ptr a =>
    have h' : (match M a with | some (.dct b kvs) => if b = a then some kvs else none | _ => none) = some kvs := h
    cases hm : M a with
    | none => rw [hm] at h'; cases h'
    | some m =>
      rw [hm] at h'
      cases m with
      | lst _ => cases h'
      | obj _ _ => cases h'
      | dct b ks =>
        dsimp only at h'
        split at h'
        · rename_i e
          subst e
          cases h'
          obtain ⟨o, e1, q⟩ := rm.mu _ _ hm
          cases q with
          | dct q => exact ⟨_, _, rfl, e1, q⟩
        · cases h'
  | _ => cases h
end
def kKey (x : PV) (f : NestedKey → Prop) : Prop := need (keyP x) fun k => k.depth ≤ 8 ∧ f k
theorem kKey.of {x : PV} {f : NestedKey → Prop} (h : kKey x f) : ∃ k, x = pvK k ∧ okK k ∧ f k := by
  obtain ⟨k, e, h1, h2⟩ := need_of h
  obtain ⟨e1, e2⟩ := keyP_eq x k e
  exact ⟨k, e1, ⟨e2, h1⟩, h2⟩
section
variable {X : Cx} {a b c e o i f : Expr} {ta tb tc te to ti tf : PTE} {pos p apos cpos : Pos} {es : List Expr} {t : PTA} {x : Str}
/-! ### {} -/
def pDNew : PTE := fun _ _ M Q => ∀ p, M p = none → Q (.ptr p) (M.put p (.dct p []))
theorem LE.dnew : LE X (.Dict [] [] pos) pDNew := by
  refine ⟨fun σv H σ F M Q E tk rm rs h pins s I => ?_⟩
  refine wpAny_Dict_empty ⟨.ref s.heap.objs.size, upd H s.heap.objs.size (dO s.heap.objs.size []), I.laid (a := s.heap.objs.size) (o := dO s.heap.objs.size []) (t' := s.toks) (fun _ _ q => Heap.get?_push_of_some _ q) (Nat.le_refl _) ?_, rfl, ?_⟩
  · refine dO_ok ⟨Nat.zero_le _, beq_eq_false_iff_ne.mpr (Ne.symm (Nat.ne_of_lt I.big)), fun _ h => absurd h List.not_mem_nil, X.w, [], .nil, _, #[], 0, Heap.get?_push_size _ rfl, ⟨rfl, rfl, rfl⟩, rfl, rfl, List.nodup_nil⟩
  · have n := I.hok.fresh (Nat.le_refl s.heap.objs.size)
    exact ⟨_, _, _, rm.behNew n (.dct .nil), .ptr _, h _ (rm.nones n).2⟩
/-! ### d[k] -/
def oIxD : PO2 := fun x y M Q => need (dctOf M x) fun kvs => kKey y fun k => need (atP kvs k) fun z => Q z M
theorem LE.ixD (hu : X.A.units + 65 < cLine) (ha : LE X a ta) (hb : LE X b tb) (hs : PlainIx b := by exact fun _ _ => rfl) : LE X (.Subscript a b pos) (pBin oIxD ta tb) := by
  refine ⟨fun σv H σ F M Q E tk rm rs h => WE.of (pe_ix (ix_dct hu) WE.pe WE.pe hs) ?_⟩
  refine seq2 ha hb tk rm rs h fun x y xv yv F2 M2 H2 bh rx ry h2 => ?_
  obtain ⟨kvs, e1, h3⟩ := need_of h2
  obtain ⟨k, rfl, ok, h4⟩ := kKey.of h3
  obtain ⟨z, e2, h5⟩ := need_of h4
  obtain ⟨q, es, rfl, e3, rk⟩ := rx.dctI bh.rm e1
  obtain ⟨v, e4, rv⟩ := (RKs.at_ rk).1 z e2
  exact ⟨q, es, k, v, rfl, e3, rk.keysV bh.rm.fr, R.keyV bh.rm.fr k yv ry, ok, e4, LQ.tr bh (LQ.now bh.rm rv h5)⟩
/-! ### k in d -/
def oInD : PO2 := fun y x M Q => need (dctOf M x) fun kvs => kKey y fun k => Q (.bl (atP kvs k).isSome) M
theorem RKs.some_eq {K : PySem.W.Frag} {F : Hp} {k : NestedKey} {kvs : List (NestedKey × PV)} {es : List VRow} (h : RKs K F kvs es) : (atP kvs k).isSome = (atV es k).isSome := by
  cases e : atP kvs k with
  | none => rw [(RKs.at_ h).2 e]; rfl
  | some y =>
    obtain ⟨w, e2, _⟩ := (RKs.at_ h).1 y e
    rw [e2]
    rfl
theorem pop_inD {K : PySem.W.Frag} : POp K (rInD K id) oInD := by
  intro F M H y x yv xv Q Qv rm ry rx h k
  obtain ⟨kvs, e1, h3⟩ := need_of h
  obtain ⟨k2, rfl, ok, h4⟩ := kKey.of h3
  obtain ⟨q, es, rfl, e3, rk⟩ := rx.dctI rm e1
  refine ⟨q, es, k2, rfl, e3, rk.keysV rm.fr, R.keyV rm.fr k2 yv ry, ok, k _ _ (LQ.now rm (.bl _) ?_)⟩
  show Q (.bl (atV es k2).isSome) M
  rw [← rk.some_eq]
  exact h4
theorem LE.inD (hu : X.A.units + 65 < cLine) (ha : LE X a ta) (hb : LE X b tb) (hm : behindInMarks .In b = false := by rfl) : LE X (.Compare a [.In] [b] pos) (pBin oInD ta tb) := LE.cmp (PD.op_inD hu) pop_inD hm ha hb
theorem LT.inD (hu : X.A.units + 65 < cLine) (ha : LE X a ta) (hb : LE X b tb) (hm : behindInMarks .In b = false := by rfl) : LT X (.Compare a [.In] [b] pos) (pTest (pBin oInD ta tb)) := LT.cmp (PD.op_inD hu) pop_inD hm ha hb
/-! ### d[k] = v -/
def kSetD (o i x : PV) (M : Mem) (Q : Mem → Prop) : Prop := match o with
  | .ptr p => match M p with
    | some (.dct q kvs) => q = p ∧ kKey i fun k => kvs.length < sizeLine ∧ Q (M.put p (.dct p (putD kvs k x)))
    | _ => False
  | _ => False
def gpSubD (to ti : PTE) : PTG := fun x σ M Q => to noX σ M fun o M1 => ti noX σ M1 fun i M2 => kSetD o i x M2 fun M3 => Q σ M3
theorem LG.subD (hu : X.A.units + 65 < cLine) (ho : LE X o to) (hi : LE X i ti) (ha : ∀ v, assign (.Subscript o i pos) X.env v = (do
      let ov ← holding [v] (eval o X.env)
      let iv ← holding [v, ov] (eval i X.env)
      standAt pos
      holding [v, ov, iv] (setItem ov iv v)
      release [v, ov, iv] []) := by intro _; rfl) : LG X (.Subscript o i pos) (gpSubD to ti) := by
  refine ⟨fun σv H σ F M x v Q rm rs r h => WG.of (pg_sub WE.pe WE.pe (set_dct hu) ha) ?_⟩
  refine seq2 (k := fun o i M2 => kSetD o i x M2 fun M3 => Q σ M3) ho hi PTk.no rm rs h fun o i ov iv F2 M2 H2 bh ro ri h2 => ?_
  unfold kSetD at h2
  split at h2
  · rename_i p
    cases ro
    cases hm : M2 p with
    | none => rw [hm] at h2; exact h2.elim
    | some mo =>
      rw [hm] at h2
      cases mo with
      | obj C fs => exact h2.elim
      | lst xs => exact h2.elim
      | dct q kvs =>
        obtain ⟨rfl, h3⟩ := h2
        obtain ⟨k, rfl, ok, h4, h5⟩ := kKey.of h3
        obtain ⟨u, e2, ru⟩ := bh.rm.mu _ _ hm
        cases ru with
        | dct ru =>
          rename_i es
          refine ⟨q, es, k, rfl, e2, ru.keysV bh.rm.fr, R.keyV bh.rm.fr k iv ri, ok, by rw [ru.length]; exact h4, ?_⟩
          have b3 := bh.rm.behWrite (o := dO q (putV es k iv v)) hm (.dct (ru.put ri (r.same bh.sm)))
          exact ⟨F2, _, σ, bh.trans b3, rs.same bh.sm, h5⟩
  · exact h2.elim
/-! ### d.get(k), d.get(k, x) -/
theorem d_head {pins : List (Addr × Obj)} {σ : L2.St} {H : Hp} {s : Shared} {q : Addr} {es : List VRow} (I : Inv X pins σ H s) (e : H q = some (dO q es)) :
    s.TypeIs (.ref q) "dict" ∧ ∀ b, Value.ref q = .ref b → ∃ ob, s.heap.get? b = some ob ∧ ob.dict = none := by
  obtain ⟨_, _, _, w, xs, r, ob, en, ep, q1, q2, _⟩ := dO_phi (I.hok q _ e)
  refine ⟨⟨ob, q1, q2.1⟩, fun b z => ?_⟩
  cases z
  exact ⟨ob, q1, q2.2.1⟩
def pDGet1 (to te : PTE) : PTE := fun E σ M Q => to E σ M fun x M1 => dctOf M1 x ≠ none ∧ te E σ M1 fun y M2 => need (dctOf M2 x) fun kvs => kKey y fun k => Q ((atP kvs k).getD .non) M2
def pDGet2 (to te tf : PTE) : PTE := fun E σ M Q => to E σ M fun x M1 => dctOf M1 x ≠ none ∧ te E σ M1 fun y M2 => tf E σ M2 fun z M3 => need (dctOf M3 x) fun kvs => kKey y fun k => Q ((atP kvs k).getD z) M3
theorem LE.dget1 (hu : X.A.units + 65 < cLine) (ho : LE X o to) (he : LE X e te) (m : M1 X o "get" apos e cpos) : LE X (.Call (.Attribute o "get" apos) [e] [] cpos) (pDGet1 to te) := by
  refine ⟨fun σv H σ F M Q E tk rm rs h pins s I => ?_⟩
  refine wpAny_Call_method m.base m.few m.line PySem.F.plainAttrs_dict PySem.F.slot_dict_get PySem.F.type_dict_get (thn (ho.run σv H σ F M _ E tk rm rs h pins s I) fun u s1 ⟨xv, H1, I1, rx, F1, M1, x, b1, r1, hx, q1⟩ => ?_)
  cases hd : dctOf M1 x with
  | none => exact absurd hd hx
  | some kvs1 =>
    obtain ⟨q, es1, rfl, e1, _⟩ := r1.dctI b1.rm hd
    have eu : u = .ref q := rx
    subst eu
    obtain ⟨t1, t2⟩ := d_head I1 e1
    refine ⟨t1, t2, ?_⟩
    rw [m.trees]
    refine Calls.callWith_builtin rfl (Calls.evalArgs_plain (Calls.spliced_cons (thn (he.run σv H1 σ F1 M1 _ E (tk.tr b1) b1.rm (rs.same b1.sm) q1 pins s1 I1) fun iv s2 ⟨yv, H2, I2, ry, F2, M2, y, b2, r2, q2⟩ => Calls.spliced_nil ?_)))
    obtain ⟨kvs, e2, h3⟩ := need_of q2
    obtain ⟨k, rfl, ok, h4⟩ := kKey.of h3
    obtain ⟨q', es, eq, e3, rk⟩ := (r1.same b2.sm).dctI b2.rm e2
    cases eq
    obtain ⟨g1, g2, g3, xs, r, t, kd⟩ := d_rows I2 e3 (rk.keysV b2.rm.fr)
    refine call_meetsIn PySem.F.slot_dict_get t.typeIs PySem.F.entry_dict_get (PySem.F.args_dict_get_2 _ _) (meet_get g1) ⟨by omega, k, xs, KeyV.is I2 k yv iv (R.keyV b2.rm.fr k yv r2) ry, ok.2, ok.1.notText, t, kd, ?_⟩
    have ra := at_rel (k := k) r
    cases hv : atP kvs k with
    | none =>
      rw [hv] at h4
      have e4 := (RKs.at_ rk).2 hv
      rw [e4] at ra
      cases hx2 : at_ xs k with
      | none => exact ⟨.non, H2, I2.tok _, rfl, LQ.tr (b1.trans b2) (LQ.now b2.rm .non h4)⟩
      | some z => rw [hx2] at ra; exact ra.elim
    | some z =>
      rw [hv] at h4
      obtain ⟨v, e4, rv⟩ := (RKs.at_ rk).1 z hv
      rw [e4] at ra
      cases hx2 : at_ xs k with
      | none => rw [hx2] at ra; exact ra.elim
      | some zz =>
        rw [hx2] at ra
        exact ⟨v, H2, I2.tok _, ra, LQ.tr (b1.trans b2) (LQ.now b2.rm rv h4)⟩
theorem LE.dget2 (hu : X.A.units + 65 < cLine) (ho : LE X o to) (he : LE X e te) (hf : LE X f tf) (m : M2 X o "get" apos e f cpos) : LE X (.Call (.Attribute o "get" apos) [e, f] [] cpos) (pDGet2 to te tf) := by
  refine ⟨fun σv H σ F M Q E tk rm rs h pins s I => ?_⟩
  refine wpAny_Call_method m.base m.few m.line PySem.F.plainAttrs_dict PySem.F.slot_dict_get PySem.F.type_dict_get (thn (ho.run σv H σ F M _ E tk rm rs h pins s I) fun u s1 ⟨xv, H1, I1, rx, F1, M1, x, b1, r1, hx, q1⟩ => ?_)
  cases hd : dctOf M1 x with
  | none => exact absurd hd hx
  | some kvs1 =>
    obtain ⟨q, es1, rfl, e1, _⟩ := r1.dctI b1.rm hd
    have eu : u = .ref q := rx
    subst eu
    obtain ⟨t1, t2⟩ := d_head I1 e1
    refine ⟨t1, t2, ?_⟩
    rw [m.trees]
    refine Calls.callWith_builtin rfl (Calls.evalArgs_plain (Calls.spliced_cons (thn (he.run σv H1 σ F1 M1 _ E (tk.tr b1) b1.rm (rs.same b1.sm) q1 pins s1 I1) fun iv s2 ⟨yv, H2, I2, ry, F2, M2, y, b2, r2, q2⟩ =>
      Calls.spliced_cons (thn (hf.run σv H2 σ F2 M2 _ E ((tk.tr b1).tr b2) b2.rm ((rs.same b1.sm).same b2.sm) q2 pins s2 I2) fun fv s3 ⟨zv, H3, I3, rz, F3, M3, z, b3, r3, q3⟩ => Calls.spliced_nil ?_))))
    obtain ⟨kvs, e2, h3⟩ := need_of q3
    obtain ⟨k, rfl, ok, h4⟩ := kKey.of h3
    obtain ⟨q', es, eq, e3, rk⟩ := ((r1.same b2.sm).same b3.sm).dctI b3.rm e2
    cases eq
    obtain ⟨g1, g2, g3, xs, r, t, kd⟩ := d_rows I3 e3 (rk.keysV b3.rm.fr)
    refine call_meetsIn PySem.F.slot_dict_get t.typeIs PySem.F.entry_dict_get (PySem.F.args_dict_get_3 _ _ _) (meet_get2 g1) ⟨by omega, k, xs, KeyV.is I3 k yv iv (R.keyV b3.rm.fr k yv (r2.same b3.sm)) ry, ok.2, ok.1.notText, t, kd, ?_⟩
    have ra := at_rel (k := k) r
    cases hv : atP kvs k with
    | none =>
      rw [hv] at h4
      have e4 := (RKs.at_ rk).2 hv
      rw [e4] at ra
      cases hx2 : at_ xs k with
      | none => exact ⟨zv, H3, I3.tok _, rz, LQ.tr ((b1.trans b2).trans b3) (LQ.now b3.rm r3 h4)⟩
      | some w => rw [hx2] at ra; exact ra.elim
    | some w =>
      rw [hv] at h4
      obtain ⟨v, e4, rv⟩ := (RKs.at_ rk).1 w hv
      rw [e4] at ra
      cases hx2 : at_ xs k with
      | none => rw [hx2] at ra; exact ra.elim
      | some zz =>
        rw [hx2] at ra
        exact ⟨v, H3, I3.tok _, ra, LQ.tr ((b1.trans b2).trans b3) (LQ.now b3.rm rv h4)⟩
end
end PL
set_option Elab.async false
set_option linter.all false
set_option maxRecDepth 100000
namespace PL
open PySem PySem.Spec PyProof.Rows L2
/-! ### list comprehensions over a tuple of names -/
def gsN : List Nat → TGs
  | [] => gNil
  | i :: r => gCons (gName i) (gsN r)
def setsV : List Nat → List V → L2.St → L2.St
  | i :: is, v :: vs, σ => setsV is vs (σ.set i (some v))
  | _, _, σ => σ
def setsP : List Nat → List PV → PSt → Option PSt
  | [], [], σ => some σ
  | i :: is, x :: xs, σ => setsP is xs (σ.set i (some x))
  | _, _, _ => none
theorem setsP_len : ∀ {is : List Nat} {xs : List PV} {σ σ1 : PSt}, setsP is xs σ = some σ1 → is.length = xs.length
  | [], [], _, _, _ => rfl
  | i :: is, x :: xs, _, _, h => congrArg (· + 1) (setsP_len (is := is) (xs := xs) h)
  | [], _ :: _, _, _, h => by cases h
  | _ :: _, [], _, _, h => by cases h
theorem gsN_of : ∀ {is : List Nat} {vs : List V} {σ : L2.St} {H : Hp} {Q : L2.St → Hp → Prop}, is.length = vs.length → Q (setsV is vs σ) H → gsN is vs σ H Q
  | [], [], _, _, _, _, q => ⟨rfl, q⟩
  | i :: is, v :: vs, _, _, _, h, q => ⟨v, vs, rfl, gsN_of (is := is) (vs := vs) (by simpa using h) q⟩
  | [], _ :: _, _, _, _, h, _ => by cases h
  | _ :: _, [], _, _, _, h, _ => by cases h
theorem wipe_comm {i : Nat} {v : Option V} : ∀ {r : List Nat} {σ : L2.St}, i ∉ r → (wipe σ r).set i v = wipe (σ.set i v) r
  | [], _, _ => rfl
  | j :: r, σ, h => by
    rw [List.mem_cons, not_or] at h
    show ((wipe σ r).set j none).set i v = (wipe (σ.set i v) r).set j none
    rw [← wipe_comm h.2, List.set_comm _ _ (Ne.symm h.1)]
theorem setsV_wipe : ∀ {is : List Nat} {vs : List V} {σ : L2.St}, is.Nodup → is.length = vs.length → setsV is vs (wipe σ is) = setsV is vs σ
  | [], [], _, _, _ => rfl
  | i :: is, v :: vs, σ, hn, hl => by
    rw [List.nodup_cons] at hn
    show setsV is vs (((wipe σ is).set i none).set i (some v)) = setsV is vs (σ.set i (some v))
    rw [List.set_set, wipe_comm hn.1]
    exact setsV_wipe hn.2 (by simpa using hl)
  | [], _ :: _, _, _, h => by cases h
  | _ :: _, [], _, _, h => by cases h
theorem wipe_sets : ∀ {is : List Nat} {vs : List V} {σ : L2.St}, is.Nodup → is.length = vs.length → wipe (setsV is vs σ) is = wipe σ is
  | [], [], _, _, _ => rfl
  | i :: is, v :: vs, σ, hn, hl => by
    rw [List.nodup_cons] at hn
    show (wipe (setsV is vs (σ.set i (some v))) is).set i none = (wipe σ is).set i none
    rw [wipe_sets hn.2 (by simpa using hl), ← wipe_comm hn.1, List.set_set]
  | [], _ :: _, _, _, h => by cases h
  | _ :: _, [], _, _, h => by cases h
theorem RS.sets {K : PySem.W.Frag} {F : Hp} : ∀ (is : List Nat) {ys : List PV} {vs : List V} {σ σ1 : PSt} {σv : L2.St}, RS K F σ σv → RAll K F ys vs → setsP is ys σ = some σ1 → RS K F σ1 (setsV is vs σv)
  | [], [], _, _, _, _, rs, .nil, h => by cases h; exact rs
  | i :: is, y :: ys, _, _, _, _, rs, .cons r t, h => RS.sets is (rs.set i r) t h
  | [], _ :: _, _, _, _, _, _, _, h => by cases h
  | _ :: _, [], _, _, _, _, _, _, h => by cases h
theorem R.tupI {K : PySem.W.Frag} {F : Hp} {x : PV} {v : V} {ys : List PV} (r : R K F x v) (h : tupF x = some ys) : ∃ a vs, v = .ref a ∧ SqT K F a vs ∧ RAll K F ys vs := by
  cases r with
  | tup q s => cases h; exact ⟨_, _, rfl, q, s⟩
  | _ => cases h
def pLcTL (is : List Nat) (tt : PTT) (te : PTE) : List PV → List PV → PSt → Mem → PQ → Prop
  | [], acc => fun _ M Q => Q (.lst acc) M
  | x :: xs, acc => fun σ M Q => need (tupF x) fun ys => need (setsP is ys σ) fun σ1 => tt noX σ1 M fun b M1 => if b = true then te noX σ1 M1 fun y M2 => pLcTL is tt te xs (acc ++ [y]) σ M2 Q else pLcTL is tt te xs acc σ M1 Q
def pLcT (wi : PTI) (is : List Nat) (tt : PTT) (te : PTE) : PTE := fun E σ M Q => wi E σ M fun xs M1 => xs.length ≤ sizeLine ∧ pLcTL is tt te xs [] σ M1 Q
section
variable {X : Cx} {elt tg iter : Expr} {ifs : List Expr} {scope : Scope} {is : List Nat} {pos pt : Pos} {wi : PTI} {tt : PTT} {te : PTE} {own : List (Str × Nat)} {els : List Expr} {kk : Nat}
/-- the turns of the block, D the new list -/
theorem lcT_turns (K0 : PySem.W.Frag) (eK : K0 = X.K) {is : List Nat} (hnd : is.Nodup) {te' : TE} {tt' : TT} 
    (ht : ∀ (σv : L2.St) (H : Hp) (σ : PSt) (F : Hp) (M : Mem) (Q : Bool → Mem → Prop), RM X.K F M H → RS X.K F σ σv → tt noX σ M Q → tt' σv H (LB X.K F M H Q))
    (he : ∀ (σv : L2.St) (H : Hp) (σ : PSt) (F : Hp) (M : Mem) (Q : PQ), RM X.K F M H → RS X.K F σ σv → te noX σ M Q → te' σv H (LQ X.K F M H Q))
    (mt : ∀ σv H Q Q', tt' σv H Q → (∀ b H', Q b H' → Q' b H') → tt' σv H Q') (me : ∀ σv H Q Q', te' σv H Q → (∀ b H', Q b H' → Q' b H') → te' σv H Q')
    {σv : L2.St} {σ : PSt} {F M H F1 M1 H1} {Q : PQ} {J : It} {xs : List PV} (b1 : Beh X.K F M H F1 M1 H1) (rs : RS X.K F σ σv) (st : Stab X.K J F1 xs) (hz : xs.length ≤ sizeLine) (h1 : pLcTL is tt te xs [] σ M1 Q) {D : Addr} (nD : H1 D = none) :
    ∃ W : Nat → Nat → Hp → Prop, (∃ m, W 0 m (upd H1 D (.lst []))) ∧ ∀ j m H', W j m H' →
      (J.stop j H' ∧ LQ X.K F M H Q (.ref D) H') ∨ (J.go j H' ∧ ∃ Nx : Hp → Prop, (∀ H2, Nx H2 → ∃ m', m' < m ∧ W (j + 1) m' H2) ∧ ∀ v H2, J.yld j H' v H2 → gTup K0 is.length (gsN is) v (wipe σv is) H2 fun σ2 H3 => wipe σ2 is = wipe σv is ∧ tt' σ2 H3 fun b H4 =>
        if b = true then te' σ2 H4 fun y H5 => ∃ acc, H5 D = some (.lst acc) ∧ acc.length < sizeLine ∧ Nx (upd H5 D (.lst (acc ++ [y]))) else Nx H4) := by
  obtain ⟨nF, nM⟩ := b1.rm.nones nD
  have b1' := b1.trans ((b1.rm.behHid (o := .lst []) nF nM).2 nD)
  refine ⟨fun j m H' => m = xs.length - j ∧ j ≤ xs.length ∧ ∃ F' M' acc vacc, Beh X.K F M H F' M' H' ∧ Same F1 F' ∧ F' D = none ∧ M' D = none ∧ H' D = some (.lst vacc) ∧ RAll X.K F' acc vacc ∧ acc.length ≤ j ∧ pLcTL is tt te (xs.drop j) acc σ M' Q,
    ⟨xs.length, rfl, Nat.zero_le _, F1, M1, [], [], b1', Same.refl _, nF, nM, upd_same, .nil, Nat.le_refl _, h1⟩, ?_⟩
  rintro j m H2 ⟨rfl, hj, F2, M2, acc, vacc, b2, sm2, nF2, nM2, hD, ra, hl, h2⟩
  obtain ⟨s1, s2⟩ := st j F2 M2 H2 sm2 b2.rm
  by_cases hlt : j < xs.length
  · obtain ⟨go, yl⟩ := s1 hlt
    rw [List.drop_eq_getElem_cons hlt] at h2
    refine .inr ⟨go, _, fun H' n => ⟨_, (show xs.length - (j + 1) < xs.length - j by omega), n⟩, fun v H3 y => ?_⟩
    obtain ⟨F3, b3, r3⟩ := yl v H3 y
    have keepD : ∀ {Fa : Hp} {Ma : Mem} {Ha : Hp}, Beh X.K F2 M2 H2 Fa Ma Ha → Fa D = none ∧ Ma D = none ∧ Ha D = some (.lst vacc) := fun {Fa Ma Ha} b => by
      refine ⟨?_, ?_, b.fr.keep D _ hD nM2⟩
      · cases q : Fa D with
        | none => rfl
        | some u =>
          rcases b.fg D (by rw [q]; exact Option.some_ne_none _) with z | z | z
          · exact absurd nF2 z
          · exact absurd nM2 z
          · rw [hD] at z; cases z
      · cases q : Ma D with
        | none => rfl
        | some u =>
          rcases b.fr.grow D (by rw [q]; exact Option.some_ne_none _) with z | z
          · exact absurd nM2 z
          · rw [hD] at z; cases z
    have hs : pLcTL is tt te (xs[j] :: xs.drop (j + 1)) acc σ M2 Q := h2
    unfold pLcTL at hs
    obtain ⟨ys, ey, hs2⟩ := need_of hs
    obtain ⟨σ1, es, h2⟩ := need_of hs2
    obtain ⟨a, vs, rfl, qa, ra2⟩ := R.tupI r3 ey
    have hlen : is.length = ys.length := setsP_len es
    subst eK
    refine ⟨a, vs, rfl, sqT_same b3.rm.fr qa, by rw [← ra2.length, hlen], gsN_of (by rw [← ra2.length, hlen]) ?_⟩
    rw [setsV_wipe hnd (by rw [← ra2.length, hlen])]
    refine ⟨wipe_sets hnd (by rw [← ra2.length, hlen]), ?_⟩
    have rs3 : RS X.K F3 σ1 (setsV is vs σv) := RS.sets is (rs.same (b2.trans b3).sm) ra2 es
    refine mt _ _ _ _ (ht _ H3 _ F3 M2 _ b3.rm rs3 h2) ?_
    rintro b H4 ⟨F4, M4, b4, h4⟩
    have b24 := b3.trans b4
    split
    · rename_i e
      rw [if_pos e] at h4
      refine me _ _ _ _ (he _ H4 _ F4 M4 _ b4.rm (rs3.same b4.sm) h4) ?_
      rintro yv H5 ⟨F5, M5, y5, b5, r5, h5⟩
      have b25 := b24.trans b5
      obtain ⟨k1, k2, k3⟩ := keepD b25
      refine ⟨vacc, k3, by rw [← ra.length]; omega, rfl, hlt, F5, M5, acc ++ [y5], vacc ++ [yv], ?_, sm2.trans b25.sm, k1, k2, upd_same, (ra.same b25.sm).append (.cons r5 .nil), by rw [List.length_append]; show acc.length + 1 ≤ j + 1; omega, h5⟩
      have b05 := b2.trans b25
      have x : RM X.K F5 M5 (upd H5 D (.lst (vacc ++ [yv]))) := hid_app b05.rm k1 k2
      refine ⟨b05.sm, x, ⟨fun c u hc nc => ?_, b05.fr.grow, fun c hc => ?_⟩, b05.fg⟩
      · have hcD : c ≠ D := fun z => by
          subst z
          rcases b1.fr.there c (by rw [hc]; exact Option.some_ne_none _) with _
          exact absurd nD (b1.fr.there c (by rw [hc]; exact Option.some_ne_none _))
        rw [upd_ne hcD]
        exact b05.fr.keep c u hc nc
      · by_cases hcD : c = D
        · subst hcD; rw [upd_same]; exact Option.some_ne_none _
        · rw [upd_ne hcD]; exact b05.fr.there c hc
    · rename_i e
      rw [if_neg e] at h4
      obtain ⟨k1, k2, k3⟩ := keepD b24
      exact ⟨rfl, hlt, F4, M4, acc, vacc, b2.trans b24, sm2.trans b24.sm, k1, k2, k3, ra.same b24.sm, by omega, h4⟩
  · have e : j = xs.length := by omega
    subst e
    rw [List.drop_length] at h2
    refine .inl ⟨s2 (Nat.le_refl _), ?_⟩
    have sm : Same F2 (upd F2 D (.lst vacc)) := same_upd nF2
    refine ⟨upd F2 D (.lst vacc), M2, _, ⟨b2.sm.trans sm, ⟨fun c u hc => ?_, fun c hc => ?_, fun c mo hc => ?_⟩, b2.fr, fun c hc => ?_⟩, .lst upd_same (ra.same sm), h2⟩
    · by_cases hcD : c = D
      · subst hcD; rw [upd_same] at hc; cases hc; exact hD
      · rw [upd_ne hcD] at hc; exact b2.rm.fr c u hc
    · have hcD : c ≠ D := fun z => hc (by rw [z]; exact nM2)
      rw [upd_ne hcD]; exact b2.rm.dj c hc
    · obtain ⟨u, e1, e2⟩ := b2.rm.mu c mo hc
      exact ⟨u, e1, e2.same sm⟩
    · by_cases hcD : c = D
      · subst hcD
        right; right
        cases q : H c with
        | none => rfl
        | some u => exact absurd nD (b1.fr.there c (by rw [q]; exact Option.some_ne_none _))
      · rw [upd_ne hcD] at hc; exact b2.fg c hc
theorem lcT_core (hnd : is.Nodup) (hi : LI X tg iter wi)
    (ht : ∀ (s : Shared) (H : Hp) (C : Addr) (cl : List (Str × Addr)) (fp : List Addr), LTs (Blk X scope s H C cl fp) ifs tt)
    (he : ∀ (s : Shared) (H : Hp) (C : Addr) (cl : List (Str × Addr)) (fp : List Addr), LE (Blk X scope s H C cl fp) elt te)
    {σv : L2.St} {H : Hp} {σ : PSt} {F : Hp} {M : Mem} {Q : PQ} {E : PXK} (tk : PTk X F M H E) (rm : RM X.K F M H) (rs : RS X.K F σ σv) (h : pLcT wi is tt te E σ M Q) : tLc (WI X tg iter) (gTup X.K is.length (gsN is)) (TBlk X scope ifs) (EBlk X scope elt) is σv H (LQ X.K F M H Q) := by
  refine (hi.run σv H σ F M _ E tk rm rs h).mono ?_
  rintro J H1 ⟨F1, M1, xs, b1, st, hz, h1⟩
  intro D nD
  exact lcT_turns (te := te) (tt := tt) (te' := EBlk X scope elt) (tt' := TBlk X scope ifs) X.K rfl hnd (fun σv H σ F M Q rm rs h s0 H0 C cl fp pins s I => (ht s0 H0 C cl fp).run σv H σ F M Q rm rs h pins s I)
    (fun σv H σ F M Q rm rs h s0 H0 C cl fp => (he s0 H0 C cl fp).run σv H σ F M Q noX PTk.no rm rs h)
    (fun σv H Q Q' h m => TBlk.mono h m) (fun σv H Q Q' h m => EBlk.mono h m) b1 rs st hz h1 nD
theorem LE.lcT (hnd : is.Nodup) (hown : own.map (·.2) = is) (hc : X.calm = true) (hN : X.N.Nodup) (hi : LI X (.Tuple els kk pt) iter wi) (ok : BlkOk X.N X.env.scope scope own)
    (hg : ∀ (s : Shared) (H : Hp) (C : Addr) (cl : List (Str × Addr)) (fp : List Addr), PGs (Blk X scope s H C cl fp) els (gsN is))
    (hel : ∀ (s : Shared) (H : Hp) (C : Addr) (cl : List (Str × Addr)) (fp : List Addr), (assignEach els (Blk X scope s H C cl fp).env).length = is.length ∧ (assignEach els (Blk X scope s H C cl fp).env).findIdx? (·.1) = none)
    (ht : ∀ (s : Shared) (H : Hp) (C : Addr) (cl : List (Str × Addr)) (fp : List Addr), LTs (Blk X scope s H C cl fp) ifs tt)
    (he : ∀ (s : Shared) (H : Hp) (C : Addr) (cl : List (Str × Addr)) (fp : List Addr), LE (Blk X scope s H C cl fp) elt te)
    (hs : ∀ v, foldedSetIterable iter X.env v = pure v := by intro _; rfl) : LE X (.ListComp elt [⟨.Tuple els kk pt, iter, ifs, 0⟩] scope pos) (pLcT wi is tt te) := by
  refine ⟨fun σv H σ F M Q E tk rm rs h => ?_⟩
  subst hown
  refine WE.of (pe_lc (own := own) (g := gTup X.K (own.map (·.2)).length (gsN (own.map (·.2)))) (tt := TBlk X scope ifs) (te := EBlk X scope elt) hc hN WI.pi ok (fun s0 H0 C cl fp => pg_tup hc (hg s0 H0 C cl fp) (hel s0 H0 C cl fp).1 (hel s0 H0 C cl fp).2) (fun s0 H0 C cl fp => ⟨fun pins s σ H Q I hh => hh s0 H0 C cl fp pins s I⟩) (fun s0 H0 C cl fp => ⟨fun pins s σ H Q I hh => hh s0 H0 C cl fp pins s I⟩) hs) ?_
  exact lcT_core hnd hi ht he tk rm rs h
theorem LS.setLcT (k : Nat) {y : Str} {py spos : Pos} (hnd : is.Nodup) (hown : own.map (·.2) = is) (hc : X.calm = true) (hN : X.N.Nodup) (hy : X.N[k]? = some y) (hyl : X.env.scope.names.lookup y = some .local)
    (hsw : swapsWith (.ListComp elt [⟨.Tuple els kk pt, iter, ifs, 0⟩] scope pos) (some (.Name y py)) spos.line X.env = pure true) (hi : LI X (.Tuple els kk pt) iter wi) (ok : BlkOk X.N X.env.scope scope own)
    (hg : ∀ (s : Shared) (H : Hp) (C : Addr) (cl : List (Str × Addr)) (fp : List Addr), PGs (Blk X scope s H C cl fp) els (gsN is))
    (hel : ∀ (s : Shared) (H : Hp) (C : Addr) (cl : List (Str × Addr)) (fp : List Addr), (assignEach els (Blk X scope s H C cl fp).env).length = is.length ∧ (assignEach els (Blk X scope s H C cl fp).env).findIdx? (·.1) = none)
    (ht : ∀ (s : Shared) (H : Hp) (C : Addr) (cl : List (Str × Addr)) (fp : List Addr), LTs (Blk X scope s H C cl fp) ifs tt)
    (he : ∀ (s : Shared) (H : Hp) (C : Addr) (cl : List (Str × Addr)) (fp : List Addr), LE (Blk X scope s H C cl fp) elt te)
    (hs : ∀ v, foldedSetIterable iter X.env v = pure v := by intro _; rfl) : LS X (.Assign [.Name y py] (.ListComp elt [⟨.Tuple els kk pt, iter, ifs, 0⟩] scope pos) spos) (pSet k (pLcT wi is tt te)) := by
  refine ⟨fun σv H σ F M D tk rm rs h => ?_⟩
  subst hown
  refine WS.of (ps_setLc (own := own) (g := gTup X.K (own.map (·.2)).length (gsN (own.map (·.2)))) (tt := TBlk X scope ifs) (te := EBlk X scope elt) hc hN hy hyl hsw WI.pi ok (fun s0 H0 C cl fp => pg_tup hc (hg s0 H0 C cl fp) (hel s0 H0 C cl fp).1 (hel s0 H0 C cl fp).2) (fun s0 H0 C cl fp => ⟨fun pins s σ H Q I hh => hh s0 H0 C cl fp pins s I⟩) (fun s0 H0 C cl fp => ⟨fun pins s σ H Q I hh => hh s0 H0 C cl fp pins s I⟩) hs) ?_
  have q := lcT_core (elt := elt) (ifs := ifs) (scope := scope) hnd hi ht he tk rm rs h
  have m : ∀ v H', LQ X.K F M H (fun x M1 => D.nx (σ.set k (some x)) M1) v H' → gName k v σv H' (LD X.K F M H D).nx := fun v H' ⟨F1, M1, y, b1, ry, hy⟩ => ⟨F1, M1, _, b1, (rs.same b1.sm).set k ry, hy⟩
  refine WI.mono q fun J H1 h1 => ?_
  intro D' nD
  obtain ⟨W, w0, w1⟩ := h1 D' nD
  refine ⟨W, w0, fun j m' H' w => ?_⟩
  rcases w1 j m' H' w with ⟨s1, s2⟩ | s
  · exact .inl ⟨s1, m _ _ s2⟩
  · exact .inr s
theorem w_lcT {E : PXK} {σ : PSt} {M : Mem} {Q : PQ} (h : wi E σ M fun xs M1 => xs.length ≤ sizeLine ∧ pLcTL is tt te xs [] σ M1 Q) : pLcT wi is tt te E σ M Q := h
end
/-- a comprehension without tests whose turns give f -/
theorem lcT_map {α : Type} {is : List Nat} {te : PTE} {σ : PSt} {M : Mem} {Q : PQ} (h : α → List PV) (f : α → PV) : ∀ (l : List α) (acc : List PV), (∀ a ∈ l, ∃ σ1, setsP is (h a) σ = some σ1 ∧ ∀ R : PQ, R (f a) M → te noX σ1 M R) →
    Q (.lst (acc ++ l.map f)) M → pLcTL is pYes te (l.map fun a => .tup (h a)) acc σ M Q
  | [], acc, _, q => by
    rw [List.map_nil, List.append_nil] at q
    exact q
  | a :: l, acc, he, q => by
    obtain ⟨σ1, e, h1⟩ := he a List.mem_cons_self
    show need (setsP is (h a) σ) fun σ1 => if true = true then te noX σ1 M fun y M2 => pLcTL is pYes te (l.map fun a => .tup (h a)) (acc ++ [y]) σ M2 Q else pLcTL is pYes te (l.map fun a => .tup (h a)) acc σ M Q
    refine need_by e ?_
    rw [if_pos rfl]
    refine h1 _ (lcT_map h f l (acc ++ [f a]) (fun b hb => he b (List.mem_cons_of_mem _ hb)) ?_)
    rw [List.append_assoc]
    exact q
end PL
namespace PL
open PySem PySem.Spec PyProof.Rows L2
theorem w_dnew {E : PXK} {σ : PSt} {M : Mem} {Q : PQ} (h : ∀ p, M p = none → Q (.ptr p) (M.put p (.dct p []))) : pDNew E σ M Q := h
theorem w_gsubD {to ti : PTE} {x : PV} {σ : PSt} {M : Mem} {R : PNx} (h : to noX σ M fun o M1 => ti noX σ M1 fun i M2 => kSetD o i x M2 fun M3 => R σ M3) : gpSubD to ti x σ M R := h
theorem w_pdget1 {to te : PTE} {E : PXK} {σ : PSt} {M : Mem} {Q : PQ} (h : to E σ M fun x M1 => dctOf M1 x ≠ none ∧ te E σ M1 fun y M2 => need (dctOf M2 x) fun kvs => kKey y fun k => Q ((atP kvs k).getD .non) M2) : pDGet1 to te E σ M Q := h
theorem w_pdget2 {to te tf : PTE} {E : PXK} {σ : PSt} {M : Mem} {Q : PQ} (h : to E σ M fun x M1 => dctOf M1 x ≠ none ∧ te E σ M1 fun y M2 => tf E σ M2 fun z M3 => need (dctOf M3 x) fun kvs => kKey y fun k => Q ((atP kvs k).getD z) M3) : pDGet2 to te tf E σ M Q := h
theorem Ext.putN {M M' : Mem} {p : Addr} {o : MO} (e : Ext M M') (h : M p = none) : Ext M (M'.put p o) := fun b hb => by
  rw [put_ne (fun z => hb (by rw [z]; exact h))]
  exact e b hb
end PL
set_option Elab.async false
set_option linter.all false
set_option maxRecDepth 100000
/-! data that is equal to itself -/
namespace PL
open PySem PySem.Spec PyProof.Rows L2
def SelfD (n : Nat) (x : PV) : Prop := ∃ d, toD x = some d ∧ d.depth ≤ n ∧ PyData.eqv d d = true
def SelfDs (n : Nat) (xs : List PV) : Prop := ∃ ds, toDs xs = some ds ∧ PyData.depthAll ds ≤ n ∧ PyData.eqvAll ds ds = true
theorem SelfD.mono {n m : Nat} {x : PV} (h : SelfD n x) (l : n ≤ m) : SelfD m x := by
  obtain ⟨d, h1, h2, h3⟩ := h
  exact ⟨d, h1, Nat.le_trans h2 l, h3⟩
theorem SelfD.non {n : Nat} : SelfD n .non := ⟨.none, rfl, Nat.zero_le _, rfl⟩
theorem SelfD.int {n : Nat} {i : Int} : SelfD n (.int i) := ⟨.int i, rfl, Nat.zero_le _, by show (i == i) = true; exact beq_self_eq_true i⟩
theorem SelfD.bl {n : Nat} {b : Bool} : SelfD n (.bl b) := ⟨.bool b, rfl, Nat.zero_le _, by cases b <;> rfl⟩
theorem SelfD.str {n : Nat} {s : Str} (h : (PyData.str s).canLay0 = true) : SelfD n (.str s) := ⟨.str s, by unfold toD; rw [if_pos h], Nat.zero_le _, by show (s == s) = true; exact beq_self_eq_true s⟩
theorem SelfDs.all {n : Nat} : ∀ {xs : List PV}, (∀ x ∈ xs, SelfD n x) → SelfDs n xs
  | [], _ => ⟨[], rfl, Nat.zero_le _, rfl⟩
  | x :: xs, h => by
    obtain ⟨d, a1, a2, a3⟩ := h x List.mem_cons_self
    obtain ⟨ds, b1, b2, b3⟩ := SelfDs.all (xs := xs) fun y hy => h y (List.mem_cons_of_mem _ hy)
    refine ⟨d :: ds, by unfold toDs; rw [a1, b1], ?_, ?_⟩
    · show max _ _ ≤ n
      omega
    · show (PyData.eqv d d && PyData.eqvAll ds ds) = true
      rw [a3, b3]
      rfl
theorem SelfD.tup {n : Nat} {xs : List PV} (h : ∀ x ∈ xs, SelfD n x) : SelfD (n + 1) (.tup xs) := by
  obtain ⟨ds, b1, b2, b3⟩ := SelfDs.all h
  exact ⟨.tuple ds, by unfold toD; rw [b1]; rfl, by show PyData.depthAll ds + 1 ≤ n + 1; omega, b3⟩
theorem SelfD.lst {n : Nat} {xs : List PV} (h : ∀ x ∈ xs, SelfD n x) : SelfD (n + 1) (.lst xs) := by
  obtain ⟨ds, b1, b2, b3⟩ := SelfDs.all h
  exact ⟨.list ds, by unfold toD; rw [b1]; rfl, by show PyData.depthAll ds + 1 ≤ n + 1; omega, b3⟩
theorem eqP_self {x : PV} (e : eqF x x = none ∨ eqF x x = some true) (h : SelfD 64 x) {k : Bool → Prop} (q : k true) : eqP x x k := by
  obtain ⟨d, h1, h2, h3⟩ := h
  unfold eqP
  rcases e with e | e
  · rw [e]
    exact need_by h1 (need_by h1 ⟨h2, h2, by rw [h3]; exact q⟩)
  · rw [e]
    exact q
theorem eqF_self : ∀ x : PV, SelfD 64 x → eqF x x = none ∨ eqF x x = some true := by
  intro x h
  cases x with
  | non => exact .inr rfl
  | bl b => exact .inr (by show some (decide (b = b)) = _; rw [decide_eq_true rfl])
  | int b => exact .inr (by show some (decide (b = b)) = _; rw [decide_eq_true rfl])
  | str b => exact .inr (by show some (decide (b = b)) = _; rw [decide_eq_true rfl])
  | tup _ => exact .inl rfl
  | lst _ => exact .inl rfl
  | scr _ => exact .inl rfl
  | ptr _ => exact .inl rfl
  | obj _ _ => exact .inl rfl
  | ty _ => exact .inl rfl
  | dct _ => exact .inl rfl
  | exc _ _ _ => exact .inl rfl
  | rng _ _ => exact .inl rfl
  | tpd _ => exact .inl rfl
theorem w_eqSelf {x : PV} {M : Mem} {Q : PQ} (h : SelfD 64 x) (q : Q (.bl true) M) : oEq x x M Q := eqP_self (eqF_self x h) h q
theorem w_neSelf {x : PV} {M : Mem} {Q : PQ} (h : SelfD 64 x) (q : Q (.bl false) M) : oNe x x M Q := eqP_self (k := fun b => Q (.bl (!b)) M) (eqF_self x h) h q
theorem SelfD.ints {n : Nat} {xs : List Int} : SelfD (n + 1) (.tup (xs.map .int)) := SelfD.tup fun x hx => by
  obtain ⟨i, _, rfl⟩ := List.mem_map.mp hx
  exact SelfD.int
end PL
set_option Elab.async false
set_option linter.all false
set_option maxRecDepth 100000
/-! errors with fields: raised, caught, their fields read -/
namespace PL
open PySem PySem.Spec PyProof.Rows L2
section
variable {X : Cx}
/-- D.__init__(self, ..): D an own class without an __init__ of its own -/
structure BaseIn (K : PySem.W.Frag) (D : Addr) : Prop where
  s : PySem.W.specialIn K (.ref D) "__getattribute__" = some (some (.builtin "type.__getattribute__"))
  r : PySem.W.readsIn K D (.type "type") = true
  f : PySem.W.findCls K (.ref D) (.type "type") "__init__" = some (.val (.builtin "ValueError.__init__"))
theorem pe_beinit {x : Str} {D : Addr} {e : Expr} {es : List Expr} {ta : TA} {p1 p2 pos : Pos} {pl : Sem Bool} (B : BaseIn X.K D) (hg : Gl X x) (hm : X.mg x = some (.ref D)) (ha : PA X (e :: es) ta)
    (hc : eval (.Call (.Attribute (.Name x p1) "__init__" p2) (e :: es) [] pos) X.env = (do
      let ov ← eval (.Name x p1) X.env
      standAt p2.atName
      let (f, first) ← holding [ov] (getMethod ov "__init__" pl)
      callWith pos f first (backTo pos (starEach (e :: es) X.env)) (backToKw pos (keywordEach [] X.env))) := by rfl)
    (hd : (x == ("__debug__" : Str)) = false := by decide)
    (he : starEach (e :: es) X.env = (false, eval e X.env) :: starEach es X.env := by rfl) (hpl : (backTo pos (starEach es X.env)).any (·.1) = false := by rfl) :
    PE X (.Call (.Attribute (.Name x p1) "__init__" p2) (e :: es) [] pos) (tVeI X.K ta) := by
  refine ⟨fun pins s σ H Q I h => ?_⟩
  refine PySem.W.methodCall_KW (ld_glob I hg hm ?_ hd) hc
  refine PySem.W.method_cls I.kIn B.s (PySem.W.cls_value I.kIn B.r B.f (by decide +kernel) ?_)
  show wpAny _ _ (callWith pos (Value.builtin "ValueError.__init__") [] (backTo pos (starEach (e :: es) X.env)) []) _ _ _
  refine PyProof.Rows.callWith_method1 (thn (ha.run pos pins _ σ H _ (I.tok _) h) fun us s1 ⟨vs, H1, I1, r1, a, C, ws, ev, hl, T, ea, q⟩ => ?_) he hpl
  subst ev
  cases r1 with
  | @cons _ u0 _ ur ra rw' =>
    obtain rfl : u0 = Value.ref a := ra
    have hlen : ur.length ≤ sizeLine := by
      rw [← Paired.length rw', sizeLine_eq]
      omega
    exact oinit_ok T I1 ea hlen fun s' J => ⟨.non, H1, J, rfl, q⟩
/-! ### the promise of an __init__ that stores its arguments -/
def fldsOf : List Str → List V → List (Str × V) → List (Str × V)
  | n :: ns, v :: vs, acc => fldsOf ns vs ((n, v) :: acc)
  | _, _, acc => acc
def fldsP : List Str → List PV → List (Str × PV) → List (Str × PV)
  | n :: ns, v :: vs, acc => fldsP ns vs ((n, v) :: acc)
  | _, _, acc => acc
theorem flds_R {K : PySem.W.Frag} {F : Hp} : ∀ {ns : List Str} {xs : List PV} {vs : List V} {a : List (Str × PV)} {b : List (Str × V)}, RAll K F xs vs → RFs K F a b → RFs K F (fldsP ns xs a) (fldsOf ns vs b)
  | [], _, _, _, _, _, h => by unfold fldsP fldsOf; exact h
  | n :: ns, _, _, _, _, .nil, h => by unfold fldsP fldsOf; exact h
  | n :: ns, _, _, _, _, .cons r t, h => by
    show RFs K F (fldsP ns _ _) (fldsOf ns _ _)
    exact flds_R t (.cons r h)
/-- the first of the arguments is a number that is not too long -/
def headI : List V → Prop
  | .int i :: _ => i.natAbs.log2 < 1920
  | _ => False
def headP : List PV → Prop
  | .int i :: _ => i.natAbs.log2 < 1920
  | _ => False
theorem headP_I {K : PySem.W.Frag} {F : Hp} {xs : List PV} {vs : List V} (r : RAll K F xs vs) (h : headP xs) : headI vs := by
  cases r with
  | nil => exact h.elim
  | cons r t =>
    cases r <;> first | exact h | exact h.elim
/-- both are numbers -/
def bothI : List V → Prop
  | [.int i, .int j] => i.natAbs.log2 < 1920 ∧ j.natAbs.log2 < 1920
  | _ => False
def bothP : List PV → Prop
  | [.int i, .int j] => i.natAbs.log2 < 1920 ∧ j.natAbs.log2 < 1920
  | _ => False
theorem bothP_I {K : PySem.W.Frag} {F : Hp} {xs : List PV} {vs : List V} (r : RAll K F xs vs) (h : bothP xs) : bothI vs := by
  match xs, vs, r, h with
  | [_, _], [_, _], .cons r (.cons s .nil), h =>
    cases r <;> cases s <;> first | exact h | exact h.elim
  | [], _, _, h => exact h.elim
  | [x], _, _, h => cases x <;> exact h.elim
  | x :: y :: _ :: _, _, _, h => cases x <;> cases y <;> exact h.elim
def spOex (C : Addr) (ns : List Str) (good : List V → Prop) : L2.Sp := fun vs H Q _ => ∃ a ws, vs = .ref a :: ws ∧ ws.length = ns.length ∧ good ws ∧ H a = some (exo a C none) ∧ ∀ d, H d = none → d ≠ a → Q .non (upd (upd H d (exd d (fldsOf ns ws []))) a (exo a C (some d)))
/-- the class C, made by its own __init__ -/
structure GEx (P : Program) (w : World) (K : PySem.W.Frag) (mg : Str → Option Value) (base : Heap) (x : Str) (C : Addr) (k : Nat) (ps ns : List Str) (good : List V → Prop) : Prop where
  ex : ∃ f fd, FnOk P w K mg base (L2.CX P w) k f fd ps (spOex C ns good) ∧ mg x = some (.ref C) ∧ OexC K C ∧ PySem.W.findIn K (.ref C) "__init__" = some (some (.ref f)) ∧ PySem.W.typeIn K (.ref f) = some (.type "function") ∧ Binds K fd ps []
/-! ### raise -/
def pRaiseF (C : Addr) (ns : List Str) (good : List PV → Prop) (ta : PTA) : PTS := fun D σ M => ta D.ex σ M fun xs M1 => good xs ∧ D.ex C (fldsP ns xs []) M1
theorem fldsP_ne {n : Str} {ns : List Str} {x : PV} {xs : List PV} : ∀ {ns : List Str} {xs : List PV} {a : List (Str × PV)}, a ≠ [] → fldsP ns xs a ≠ []
  | [], _, _, h => by unfold fldsP; exact h
  | _ :: _, [], _, h => by unfold fldsP; exact h
  | n :: ns, x :: xs, a, _ => by
    show fldsP ns xs ((n, x) :: a) ≠ []
    exact fldsP_ne (n := n) (ns := ns) (x := x) (xs := xs) (fun z => nomatch z)
theorem LS.raiseF {C : Addr} {x : Str} {k : Nat} {ps : List Str} {n : Str} {ns : List Str} {good : List V → Prop} {goodP : List PV → Prop} {e : Expr} {es : List Expr} {ta : PTA} {p pos pos' : Pos}
    (G : GEx X.prog X.w X.K X.mg X.base x C k ps (n :: ns) good) (hgood : ∀ {F : Hp} {xs : List PV} {vs : List V}, RAll X.K F xs vs → goodP xs → good vs) (hr : Room (k + 1) X.A) (hg : Gl X x) (ha : LA X (e :: es) ta)
    (hl : (e :: es).length = (n :: ns).length := by rfl) (hz : (e :: es).length ≤ 1000 := by decide) (hc : X.calm = true := by rfl) (hdb : (x == ("__debug__" : Str)) = false := by decide)
    (he : starEach (e :: es) X.env = (false, eval e X.env) :: starEach es X.env := by rfl) (hpl : (backTo pos (starEach es X.env)).any (·.1) = false := by rfl) :
    LS X (.Raise (some (.Call (.Name x p) (e :: es) [] pos)) none pos') (pRaiseF C (n :: ns) goodP ta) := by
  obtain ⟨f, fd, FO, hm, T, iC, tI, hb⟩ := G.ex
  refine ⟨fun σv H σ F M D tk rm rs h => ?_⟩
  refine WS.of (ps_raise hc tk (pmk_oex (dvs := []) (ds := []) T iC tI FO hr hb .nil (passes_call tk fun _ _ _ _ z => z.elim) hg hm WA.pa hdb he hpl)) ?_
  refine (ha.run σv H σ F M _ D.ex tk rm rs h).mono ?_
  rintro vs H1 ⟨hlv, F1, M1, xs, b1, rx, hgd, hx⟩
  refine ⟨by omega, fun a na => ?_⟩
  rw [List.append_nil]
  refine ⟨a, vs, rfl, hlv.trans hl, hgood rx hgd, upd_same, fun d nd nda => ⟨rfl, d, _, upd_same, (upd_ne nda).trans upd_same, ?_, ?_⟩⟩
  · rw [upd_ne nda] at nd
    exact nd
  · rw [upd_ne nda] at nd
    have eq1 : upd (del (upd (upd (upd H1 a (exo a C none)) d (exd d (fldsOf (n :: ns) vs []))) a (exo a C (some d))) a) d (HO.xd (fldsOf (n :: ns) vs [])) = upd H1 d (HO.xd (fldsOf (n :: ns) vs [])) := by
      funext b
      by_cases hbd : b = d
      · subst hbd; rw [upd_same, upd_same]
      · rw [upd_ne hbd, upd_ne hbd]
        by_cases hba : b = a
        · subst hba; rw [del_same, na]
        · rw [del_ne hba, upd_ne hba, upd_ne hbd, upd_ne hba]
    rw [eq1]
    have bd := b1.rm.beh (o := HO.xd (fldsOf (n :: ns) vs [])) nd
    refine ⟨_, M1, C, fldsP (n :: ns) xs [], rfl, b1.trans bd, ⟨?_, _, upd_same, upd_same, flds_R (rx.same bd.sm) .nil⟩, hx⟩
    cases xs with
    | nil =>
      have := rx.length
      have h2 : (e :: es).length = ns.length + 1 := hl
      rw [List.length_nil] at this
      omega
    | cons y ys =>
      show fldsP ns ys [(n, y)] ≠ []
      exact fldsP_ne (n := n) (ns := ns) (x := y) (xs := ys) (a := [(n, y)]) (fun z => nomatch z)
/-! ### try .. except X as n, with fields -/
def pTryAsF (n i : Nat) (exm : Addr → Option Bool) (tb : PTS) (ts : Addr → Option Addr → Addr → PTS) : PTS := fun D σ M =>
  tb { D with ex := fun C fs M' => need (exm C) fun b =>
      (b = true → (fs = [] → ∀ a, M' a = none → ts C none a { nx := fun σ' M'' => D.nx (σ'.set i none) M'', rt := D.rt, ex := noX, bk := fun σ' M'' => D.bk (σ'.set i none) M'', ct := fun σ' M'' => D.ct (σ'.set i none) M'' } ((List.replicate n none).set i (some (.ptr a))) M') ∧
        (fs ≠ [] → ∀ a d, M' a = none → ts C (some d) a { nx := fun σ' M'' => D.nx (σ'.set i none) M'', rt := D.rt, ex := noX, bk := fun σ' M'' => D.bk (σ'.set i none) M'', ct := fun σ' M'' => D.ct (σ'.set i none) M'' } ((List.replicate n none).set i (some (.exc a d fs))) M')) ∧
      (b = false → D.ex C fs M') } σ M
theorem LS.tryAsF {x n : Str} {c : Value} {i : Nat} {body suite : List Stmt} {b₀ : Stmt} {np pos pos' : Pos} {tb : PTS} {ts : Addr → Option Addr → Addr → PTS} {exm : Addr → Option Bool}
    (hN : X.N.Nodup) (hc : Names X x c) (hx : ∀ C b, exm C = some b → PySem.W.exmOne X.K (.ref C) c = some b)
    (hb : ∀ (pn : List (Addr × Obj)) (xe : Value → Shared → Prop), PassesOwn (model X.prog X.w) X.A X.env xe → LSs (X.tr pn xe) body tb)
    (hsu : ∀ (C : Addr) (b : Bool) (a : Addr) (d : Option Addr) (oe : Obj) (pn : List (Addr × Obj)), exm C = some b → Zc (.ref C) d oe → (∃ vs, oe.data = .fields vs) → LSs (X.suite a ((a, oe) :: pn)) (b₀ :: suite) (ts C d a))
    (hs : X.stack = X.env :: X.outer := by rfl) (hf : X.env.frame = some X.env.locals := by rfl) (hi : X.N[i]? = some n := by rfl) (hln : X.env.kindOf n = some .local := by rfl) :
    LS X (.Try body [.ExceptHandler (some (.Name x np)) (some n) (b₀ :: suite) pos'] [] [] pos) (pTryAsF X.N.length i exm tb ts) := by
  refine ⟨fun σv H σ F M D tk rm rs h => ?_⟩
  let tbV : WX → TS := fun W D' σ1 H1 => ∃ F1 M1 σp Dp, RM X.K F1 M1 H1 ∧ RS X.K F1 σp σ1 ∧ tb Dp σp M1 ∧ Ends.Le (LD X.K F1 M1 H1 Dp) D' ∧ ∀ cls d y H', y.length = X.N.length → LX X.K F1 M1 H1 Dp.ex cls d H' → W cls d y H'
  let tsV : Addr → Value → Option Addr → TS := fun a cls d D' σ1 H1 => ∃ C b F1 M1 σp Dp, cls = .ref C ∧ exm C = some b ∧ RM X.K F1 M1 H1 ∧ RS X.K F1 σp σ1 ∧ ts C d a Dp σp M1 ∧ Dp.ex = noX ∧ Ends.Le (LD X.K F1 M1 H1 Dp) D'
  refine WS.of (ps_try_as (tb := tbV) (ts := tsV) hs hf hN hi hln hc tk ?_ ?_) ?_
  · intro W pn xe tkW hp
    refine ⟨fun pins s σ1 H1 D' I h1 => ?_⟩
    obtain ⟨F1, M1, σp, Dp, rm1, rs1, h1, le, w⟩ := h1
    exact ((hb pn xe hp).run σ1 H1 σp F1 M1 Dp (Takes.weak tkW w) rm1 rs1 h1).mono le pins s I
  · intro a oe cls d pn hz hfl
    refine ⟨fun pins s σ1 H1 D' I h1 => ?_⟩
    obtain ⟨C, b, F1, M1, σp, Dp, rfl, hC, rm1, rs1, h1, hx0, le⟩ := h1
    refine ((hsu C b a d oe pn hC hz hfl).run σ1 H1 σp F1 M1 Dp ?_ rm1 rs1 h1).mono le pins s I
    refine Takes.weak takes0 fun cls d y H' _ z => ?_
    obtain ⟨_, _, _, _, _, _, _, z⟩ := z
    rw [hx0] at z
    exact z
  · refine ⟨F, M, σ, _, rm, rs, h, ⟨fun _ _ q => q, fun _ _ q => q, fun _ _ q => q, fun _ _ q => q⟩, fun cls d y H' hy z => ?_⟩
    obtain ⟨F', M', C, fs, rfl, beh, xa, z⟩ := z
    obtain ⟨b, e1, z1, z2⟩ := need_of z
    refine ⟨b, hx C b e1, fun e a ha => ?_, fun e => ⟨F', M', C, fs, rfl, beh, xa, z2 e⟩⟩
    obtain ⟨z3, z4⟩ := z1 e
    have hM : M' a = none := by
      cases e2 : M' a with
      | none => rfl
      | some m =>
        obtain ⟨o, e3, _⟩ := beh.rm.mu a m e2
        rw [ha] at e3
        cases e3
    have rs0 : RS X.K F' (List.replicate X.N.length none) y := ⟨by rw [List.length_replicate, hy], fun j x h => by
      rw [List.getElem?_replicate] at h
      split at h <;> cases h⟩
    have nx : ∀ (N : PNx) σ2 H2, LN X.K F' M' H' (fun σ' M'' => N (σ'.set i none) M'') σ2 H2 → LN X.K F M H N (σ2.set i none) H2 := by
      rintro N σ2 H2 ⟨F2, M2, σ3, b2, rs2, q⟩
      exact ⟨F2, M2, _, beh.trans b2, rs2.setN i, q⟩
    cases d with
    | none =>
      have hfs : fs = [] := xa
      refine ⟨C, b, F', M', _, _, rfl, e1, beh.rm, rs0.set i (.ptr a), z3 hfs a hM, rfl, ?_⟩
      exact ⟨fun σ2 H2 q => nx _ _ _ q, fun v H2 q => LQ.tr beh q, fun σ2 H2 q => nx _ _ _ q, fun σ2 H2 q => nx _ _ _ q⟩
    | some dd =>
      obtain ⟨hfs, vs, x1, x2, x3⟩ := xa
      refine ⟨C, b, F', M', _, _, rfl, e1, beh.rm, rs0.set i (.exc x2 x3), z4 hfs a dd hM, rfl, ?_⟩
      exact ⟨fun σ2 H2 q => nx _ _ _ q, fun v H2 q => LQ.tr beh q, fun σ2 H2 q => nx _ _ _ q, fun σ2 H2 q => nx _ _ _ q⟩
/-! ### isinstance(error, Y) in the suite -/
end
end PL
namespace PySem.W
open PySem PySem.Calls PyProof.Rows Builtin
section
variable {prog : Program} {w : World} {A : Around} {E : Value → Shared → Prop} {s : Shared} {K : Frag} {x D : Addr} {ox : Obj} {od : Option Obj}
theorem plF_findObj {C : Addr} {name : Str} {a g : Value} (hc : (clsIn K C).isSome = true) (ha : findIn K (.ref C) name = some (some a)) (hg : specialIn K a "__get__" = some (some g)) (ht : takesIn K a = some true) : findObj K C od name = some (.bind g a) := by
  obtain ⟨cd, hc⟩ := Option.isSome_iff_exists.mp hc
  unfold findObj
  rw [hc, Option.bind_some, ha, Option.bind_some]
  simp [hg, ht]
theorem plF_class {Q : Option Value → Shared → Prop} (hga : findIn K (.ref D) "__getattribute__" = some (some (.builtin "BaseException.__getattribute__"))) (hgt : findIn K (.ref D) "__getattr__" = some none) (hsub : subIn K (.ref D) (.type "BaseException") = some true)
    (hdct : hasDictIn K D = true) (ha : findIn K (.ref D) "__class__" = some (some (.builtin "object.__class__")))
    (hn : specialIn K (.builtin "object.__class__") "__get__" = some (some (.builtin "getset_descriptor.__get__"))) (htk : takesIn K (.builtin "object.__class__") = some true) (hm : mroIn K D (.type "object") = some true)
    (X : K.In s.heap) (I : InstAt s.heap x ox D od) (h : Q (some (.ref D)) { s with toks := s.toks + 1 }) : wpAny (model prog w) A (getAttr? (.ref x) "__class__") Q E s := by
  have hf : findObj K D od "__class__" = some (.bind (.builtin "getset_descriptor.__get__") (.builtin "object.__class__")) := plF_findObj (by obtain ⟨cd, hc, _⟩ := any_some hdct; rw [hc]; rfl) ha hn htk
  obtain ⟨hp, g, d, t, os⟩ := s
  have L0 := I.type (M := model prog w)
  have L1 := looks_findIn (M := model prog w) X hga
  have L2 := looks_findIn (M := model prog w) X hgt
  have L3 := looks_find (M := model prog w) X I hf
  have sub : Looks (model prog w) hp (isInstance (.ref x) (.type "BaseException")) true := L0.andThen (looks_subIn X hsub)
  have hx0 : (false && onTheHeap (Value.builtin "BaseException.__getattribute__")) = false := rfl
  have hx2 : (Value.builtin "BaseException.__getattribute__" == Value.builtin "object.__getattribute__") = false := by decide +kernel
  have hx1 : (onTheHeap (Value.ref D) && Value.builtin "BaseException.__getattribute__" == Value.builtin "object.__getattribute__") = false := by rw [hx2]; rfl
  unfold getAttr? getAttrBy? getAttrBy
  refine wpAny_bind (wpAny_mkText (wpAny_bind (wpAny_attempt (wpAny_holding (wpAny_bind (L0.at (wpAny_bind (L1.at ?_))))))))
  show wpAny _ _ (if (onTheHeap (Value.ref D) && Value.builtin "BaseException.__getattribute__" == Value.builtin "object.__getattribute__") = true then _ else _) _ _ _
  rw [hx1, if_neg Bool.false_ne_true]
  unfold getAttrByItsOwn hookBefore
  refine wpAny_bind ?_
  rw [if_pos (show onTheHeap (Value.ref D) = true from rfl)]
  refine L2.at ?_
  refine wpAny_bind (wpAny_attempt (wpAny_holding ?_))
  unfold callGetattribute
  rw [hx0, if_neg Bool.false_ne_true]
  unfold boundAndCalled
  rw [PySem.F.excAttr_ValueError.ga.bind (.ref x)]
  refine wpAny_bind (wpAny_pure ?_)
  show wpAny _ _ (call (.builtin "BaseException.__getattribute__") [.ref x, .str "__class__" t]) _ _ _
  refine wpAny_call (codeAny_call_builtin PySem.F.excAttr_ValueError.ga.plain PySem.F.entry_bexc_ga ?_)
  refine @check_slot (model prog w) _ _ ⟨hp, g, d, t + 1, os⟩ "BaseException.__getattribute__" "BaseException" "__getattribute__" (.ref x) [.str "__class__" t] [] _ (by decide +kernel) (by decide +kernel) sub (PySem.F.args_bexc_ga (.ref x) (.str "__class__" t)) ?_
  unfold Builtin.«object.__getattribute__»
  refine wpAny_bind (wpAny_of_eq (a := ((Value.ref x : Value), [Value.str "__class__" t])) (by first | rfl | (simp only [slotArgs]; rfl)) ?_)
  refine wpAny_bind (wpAny_pure (wpAny_bind (L0.at (wpAny_bind (L3.at ?_)))))
  show wpAny _ _ (holding [Value.builtin "object.__class__"] (call (.builtin "getset_descriptor.__get__") [.builtin "object.__class__", .ref x, .ref D]) >>= ret) _ _ _
  refine wpAny_bind (wpAny_holding (wpAny_call (class_get (s := ⟨hp, g, d, t + 1, os⟩) (ox := ox) (od := od) X I hm ?_)))
  refine wpAny_pure ?_
  show wpAny _ _ (handedOut (.ref D)) _ _ _
  rw [handedOut_of (v := .ref D) rfl]
  first
    | exact wpAny_pure (wpAny_pure h)
    | exact wpAny_pure h
    | exact wpAny_pure (wpAny_bind (wpAny_pure (wpAny_pure h)))
theorem plF_kitx (hga : findIn K (.ref D) "__getattribute__" = some (some (.builtin "BaseException.__getattribute__"))) (hgt : findIn K (.ref D) "__getattr__" = some none) (hsub : subIn K (.ref D) (.type "BaseException") = some true) (hdct : hasDictIn K D = true) (ha : findIn K (.ref D) "__class__" = some (some (.builtin "object.__class__")))
    (hn : specialIn K (.builtin "object.__class__") "__get__" = some (some (.builtin "getset_descriptor.__get__"))) (htk : takesIn K (.builtin "object.__class__") = some true) (hm : mroIn K D (.type "object") = some true) :
    KitX K (.ref x) (.ref D) (fun h => InstAt h x ox D od) where
  ty := fun _ _ _ I => I.type
  it := fun _ _ X _ => by
    obtain ⟨cdD, hcD, _⟩ := any_some hdct
    unfold clsIn at hcD
    split at hcD
    · rename_i c' d' cd' sl' ho
      intro A' Q' E' s' k q
      unfold isType loadHead
      exact wpAny_bind (wpAny_loadPart (k _ _ (X _ _ ho)) (wpAny_pure q))
    · cases hcD
  ne := fun h tp dd its n sl X htp => by
    obtain ⟨cdD, hcD, _⟩ := any_some hdct
    refine Bool.eq_false_iff.mpr fun q => ?_
    have e : D = tp := Value.ref.inj (beq_iff_eq.mp q)
    subst e
    unfold clsIn at hcD
    split at hcD
    · rename_i c' d' cd' sl' ho
      have z := (X _ _ ho).symm.trans htp
      cases z
    · cases hcD
  ca := fun X I k => plF_class hga hgt hsub hdct ha hn htk hm X I k
end
end PySem.W
namespace PL
open PySem PySem.Spec PyProof.Rows L2
section
variable {X : Cx}
def rIsF (K : PySem.W.Frag) (D a : Addr) (d : Option Addr) : List V → Hp → VK → Prop := fun xs H Q => ∃ (c : V) (cv : Value) (b : Bool), xs = [.ref a, c] ∧ (∀ u, RelV c u → u = cv) ∧ PySem.W.kitOne K (.ref D) cv = some b ∧ (d = none ∨ ∃ dd vs, d = some dd ∧ H dd = some (.xd vs)) ∧ Q (.bl b) H
theorem call_isF {a D : Addr} {d : Option Addr} {oe : Obj} {pn : List (Addr × Obj)} (C : ExcC X.K D) (hz : Zc (.ref D) d oe) (hf : ∃ vs, oe.data = .fields vs) : CallR (X.suite a ((a, oe) :: pn)) (.builtin "isinstance") (rIsF X.K D a d) := by
  intro pins s σ H xs us Q I r h
  obtain ⟨c, cv, b, rfl, hcv, e, hd, q⟩ := h
  cases r with
  | cons rx rr =>
    cases rr with
    | cons rt rr =>
      cases rr
      cases rx
      have ec := hcv _ rt
      subst ec
      obtain ⟨hget, _⟩ := I.pin (a, oe) (List.mem_append.mpr (.inl List.mem_cons_self))
      obtain ⟨vs, hv⟩ := hf
      have J : ∃ od, PySem.W.InstAt s.heap a oe D od := by
        rcases hd with rfl | ⟨dd, fs, rfl, ea⟩
        · refine ⟨none, hget, hz.1, by unfold PySem.W.notCls; rw [hv] <;> rfl, ?_⟩
          rw [hz.2]
          exact trivial
        · have hx : ObjOk X.prog X.w H s.heap dd (.xd fs) := I.hok dd _ ea
          obtain ⟨mA, hns, hr⟩ := hx
          obtain ⟨od, ho, hl⟩ := lookIn_ns hns
          exact ⟨some od, hget, hz.1, by unfold PySem.W.notCls; rw [hv] <;> rfl, by rw [hz.2]; exact ho⟩
      obtain ⟨od, J⟩ := J
      exact PySem.W.kia_one (PySem.W.plF_kitx C.hg C.hk C.hs C.hd C.ha C.hn C.ht C.hm) I.kIn J e (fun z => nomatch z) fun tk => ⟨.bl b, H, I.kept (t' := tk) fun _ _ z => z, rfl, q⟩
def isErr (a : Addr) (d : Option Addr) : PV → Prop
  | .ptr b => b = a ∧ d = none
  | .exc b dd _ => b = a ∧ d = some dd
  | _ => False
def kIsF (a : Addr) (d : Option Addr) (b : Option Bool) (x : PV) (M : Mem) (Q : PQ) : Prop := isErr a d x ∧ need b fun b => Q (.bl b) M
theorem R.err {K : PySem.W.Frag} {F H : Hp} {a : Addr} {d : Option Addr} {x : PV} {v : V} (r : R K F x v) (sm : Same F H) (h : isErr a d x) : v = .ref a ∧ (d = none ∨ ∃ dd vs, d = some dd ∧ H dd = some (.xd vs)) := by
  cases r with
  | ptr b => exact ⟨by rw [h.1], .inl h.2⟩
  | exc e _ => exact ⟨by rw [h.1], .inr ⟨_, _, h.2, sm _ _ e⟩⟩
  | _ => exact h.elim
theorem LE.isF {Y : Str} {k : Option Bool} {D a CY : Addr} {d : Option Addr} {oe : Obj} {pn : List (Addr × Obj)} {e : Expr} {te : PTE} {p py pos : Pos} (C : ExcC X.K D) (hz : Zc (.ref D) d oe) (hfl : ∃ vs, oe.data = .fields vs) (hg : Gl X "isinstance") (hm : X.mg "isinstance" = none) (hgY : Gl X Y) (hmY : X.mg Y = some (.ref CY))
    (hk : ∀ b, k = some b → PySem.W.kitOne X.K (.ref D) (.ref CY) = some b) (ha : LE (X.suite a ((a, oe) :: pn)) e te) (hdT : (Y == ("__debug__" : Str)) = false := by decide)
    (he : starEach [e, .Name Y py] X.env = (false, eval e X.env) :: starEach [.Name Y py] X.env := by rfl) (he2 : starEach [.Name Y py] X.env = (false, eval (.Name Y py) X.env) :: starEach [] X.env := by rfl)
    (hpl : (backTo pos (starEach [.Name Y py] X.env)).any (·.1) = false := by rfl) : LE (X.suite a ((a, oe) :: pn)) (.Call (.Name "isinstance" p) [e, .Name Y py] [] pos) (fun E σ M Q => te E σ M fun x M1 => kIsF a d k x M1 Q) := by
  refine ⟨fun σv H σ F M Q E tk rm rs h => WE.of (pe_callB (call_isF C hz hfl) hg hm (by decide +kernel) (pa_cons WE.pe (pa_cons (pe_glob (v := .ref CY) hgY hmY rfl hdT) pa_nil he2) he) (he := he) (hpl := hpl)) ?_⟩
  refine (ha.run σv H σ F M _ E tk rm rs h).mono ?_
  rintro v H1 ⟨F1, M1, x, b1, rx, hx0, hx⟩
  obtain ⟨b, e1, h2⟩ := need_of hx
  obtain ⟨rfl, hd⟩ := rx.err b1.rm.fr hx0
  exact ⟨.ref CY, .ref CY, b, rfl, fun u r => by cases r; rfl, hk b e1, hd, LQ.tr b1 (LQ.now b1.rm (.bl b) h2)⟩
theorem LE.isFB {Y : Str} {Ys : String} {k : Option Bool} {D a : Addr} {d : Option Addr} {oe : Obj} {pn : List (Addr × Obj)} {e : Expr} {te : PTE} {p py pos : Pos} (C : ExcC X.K D) (hz : Zc (.ref D) d oe) (hfl : ∃ vs, oe.data = .fields vs) (hg : Gl X "isinstance") (hm : X.mg "isinstance" = none) (hgY : Gl X Y) (hmY : X.mg Y = none) (hvY : bootBuiltins Y = some (.type Ys))
    (hk : ∀ b, k = some b → PySem.W.kitOne X.K (.ref D) (.type Ys) = some b) (ha : LE (X.suite a ((a, oe) :: pn)) e te) (hnY : Y ≠ "__name__" := by decide) (hdT : (Y == ("__debug__" : Str)) = false := by decide)
    (he : starEach [e, .Name Y py] X.env = (false, eval e X.env) :: starEach [.Name Y py] X.env := by rfl) (he2 : starEach [.Name Y py] X.env = (false, eval (.Name Y py) X.env) :: starEach [] X.env := by rfl)
    (hpl : (backTo pos (starEach [.Name Y py] X.env)).any (·.1) = false := by rfl) : LE (X.suite a ((a, oe) :: pn)) (.Call (.Name "isinstance" p) [e, .Name Y py] [] pos) (fun E σ M Q => te E σ M fun x M1 => kIsF a d k x M1 Q) := by
  refine ⟨fun σv H σ F M Q E tk rm rs h => WE.of (pe_callB (call_isF C hz hfl) hg hm (by decide +kernel) (pa_cons WE.pe (pa_cons (pe_bltn (v := .ty Ys) hgY hmY hvY rfl hnY hdT) pa_nil he2) he) (he := he) (hpl := hpl)) ?_⟩
  refine (ha.run σv H σ F M _ E tk rm rs h).mono ?_
  rintro v H1 ⟨F1, M1, x, b1, rx, hx0, hx⟩
  obtain ⟨b, e1, h2⟩ := need_of hx
  obtain ⟨rfl, hd⟩ := rx.err b1.rm.fr hx0
  exact ⟨.ty Ys, .type Ys, b, rfl, fun u r => by cases r; rfl, hk b e1, hd, LQ.tr b1 (LQ.now b1.rm (.bl b) h2)⟩
/-! ### error.f in the suite -/
def kXf (a : Addr) (d : Option Addr) (f : Str) (x : PV) (M : Mem) (Q : PQ) : Prop := match x with
  | .exc b dd fs => b = a ∧ d = some dd ∧ need (fs.lookup f) fun v => Q v M
  | _ => False
theorem LE.xf {C a : Addr} {d : Option Addr} {oe : Obj} {pn : List (Addr × Obj)} {e : Expr} {te : PTE} {pos : Pos} {n : Str} (T : ExcC X.K C) (hno : PySem.W.findIn X.K (.ref C) n = some none) (hz : Zc (.ref C) d oe) (hfl : ∃ vs, oe.data = .fields vs)
    (ha : LE (X.suite a ((a, oe) :: pn)) e te) (hb : attributeBase e n X.env (eval e X.env) = eval e X.env := by rfl) :
    LE (X.suite a ((a, oe) :: pn)) (.Attribute e n pos) (fun E σ M Q => te E σ M fun x M1 => kXf a d n x M1 Q) := by
  refine ⟨fun σv H σ F M Q E tk rm rs h => WE.of (pe_xf ⟨T.hg, T.hk, T.hs, T.hd⟩ hno hz hfl WE.pe hb) ?_⟩
  refine (ha.run σv H σ F M _ E tk rm rs h).mono ?_
  rintro v H1 ⟨F1, M1, x, b1, rx, hx⟩
  cases rx with
  | exc h1 h2 =>
    obtain ⟨rfl, rfl, h3⟩ := hx
    obtain ⟨z, l, q⟩ := need_of h3
    obtain ⟨v, l2, r2⟩ := h2.get l
    exact ⟨rfl, rfl, _, _, v, rfl, b1.rm.fr _ _ h1, l2, LQ.tr b1 (LQ.now b1.rm r2 q)⟩
  | _ => exact hx.elim
end
end PL
set_option Elab.async false
set_option linter.all false
set_option maxRecDepth 100000
/-! errors with fields: their __init__ -/
namespace PL
open PySem PySem.Spec PyProof.Rows L2
theorem itx {i : Int} (h : i.natAbs.log2 < 1920) : (Str.ofString (toString i)).length ≤ 4000 := by
  have e := int_text_length_le (k := 1920) (by decide) h
  rw [PySem.ofString_length]
  omega
theorem app_len (a b : Str) : (a ++ b).length = a.length + b.length := by
  first
    | exact Str.length_append ..
    | simp
def tJn (ts : List TE) : TE := fun σ H Q => tJs ts Str.empty σ H fun out H1 => Q (.str out) H1
section
variable {K : PySem.W.Frag} {C a : Addr} {H : Hp} {D : Ends} {m1 m2 m3 : Str} {n1 n2 : Str} {i j : Int} {v : V}
theorem upd3 {d : Addr} {o o' : HO} {b : HO} (h : d ≠ a) : upd (upd (upd H d o) a b) d o' = upd (upd H d o') a b := by
  funext c
  by_cases h1 : c = d
  · subst h1; rw [upd_same, upd_ne h, upd_same]
  · rw [upd_ne h1]
    by_cases h2 : c = a
    · subst h2; rw [upd_same, upd_same]
    · rw [upd_ne h2, upd_ne h2, upd_ne h1, upd_ne h1]
theorem rd_sto1 (T : OexC K C) (f1 : PySem.W.findIn K (.ref C) n1 = some none) {σ : L2.St} {x : V} (s0 : σ[0]? = some (some (.ref a))) (s1 : σ[1]? = some (some x)) (ha : H a = some (exo a C none))
    (hq : ∀ d, H d = none → d ≠ a → D.nx σ (upd (upd H d (exd d [(n1, x)])) a (exo a C (some d)))) : tOst K n1 (tVar 0) (tVar 1) D σ H :=
  ⟨x, s1, .ref a, s0, a, C, rfl, T, f1, .inl ⟨ha, hq⟩⟩
theorem rd_sto2 (T : OexC K C) (f1 : PySem.W.findIn K (.ref C) n1 = some none) (f2 : PySem.W.findIn K (.ref C) n2 = some none) {σ : L2.St} {x y : V} (s0 : σ[0]? = some (some (.ref a))) (s1 : σ[1]? = some (some x)) (s2 : σ[2]? = some (some y)) (ha : H a = some (exo a C none))
    (hq : ∀ d, H d = none → d ≠ a → D.nx σ (upd (upd H d (exd d [(n2, y), (n1, x)])) a (exo a C (some d)))) : tSeq (tOst K n1 (tVar 0) (tVar 1)) (tOst K n2 (tVar 0) (tVar 2)) D σ H := by
  refine ⟨x, s1, .ref a, s0, a, C, rfl, T, f1, .inl ⟨ha, fun d hd hn => ?_⟩⟩
  refine ⟨y, s2, .ref a, s0, a, C, rfl, T, f2, .inr ⟨d, [(n1, x)], upd_same, (upd_ne hn).trans upd_same, show 1 ≤ 900 by decide, ?_⟩⟩
  show D.nx σ _
  rw [upd3 hn]
  exact hq d hd hn
theorem rd_j3 (hm : m1.length + m3.length ≤ 1000) (hi : i.natAbs.log2 < 1920) {σ : L2.St} (s1 : σ[1]? = some (some (.int i))) {Q : VK} (h : ∀ s, Q (.str s) H) : tJn [tC (.str m1), tFmt (tVar 1), tC (.str m3)] σ H Q := by
  have e := itx hi
  have z : sizeLine = 16777216 := sizeLine_eq
  refine ⟨m1, rfl, ?_, .int i, s1, .inr ⟨i, rfl, hi, _, rfl, ?_, m3, rfl, ?_, h _⟩⟩
  · rw [app_len]; show 0 + _ ≤ _; omega
  · rw [app_len, app_len]; show 0 + _ + _ ≤ _; omega
  · rw [app_len, app_len, app_len]; show 0 + _ + _ + _ ≤ _; omega
theorem rd_j5 (hm : m1.length + m2.length + m3.length ≤ 1000) (hi : i.natAbs.log2 < 1920) (hj : j.natAbs.log2 < 1920) {σ : L2.St} (s1 : σ[1]? = some (some (.int i))) (s2 : σ[2]? = some (some (.int j))) {Q : VK} (h : ∀ s, Q (.str s) H) : tJn [tC (.str m1), tFmt (tVar 1), tC (.str m2), tFmt (tVar 2), tC (.str m3)] σ H Q := by
  have e := itx hi
  have e2 := itx hj
  have z : sizeLine = 16777216 := sizeLine_eq
  refine ⟨m1, rfl, ?_, .int i, s1, .inr ⟨i, rfl, hi, _, rfl, ?_, m2, rfl, ?_, .int j, s2, .inr ⟨j, rfl, hj, _, rfl, ?_, m3, rfl, ?_, h _⟩⟩⟩
  · rw [app_len]; show 0 + _ ≤ _; omega
  · rw [app_len, app_len]; show 0 + _ + _ ≤ _; omega
  · rw [app_len, app_len, app_len]; show 0 + _ + _ + _ ≤ _; omega
  · rw [app_len, app_len, app_len, app_len]; show 0 + _ + _ + _ + _ ≤ _; omega
  · rw [app_len, app_len, app_len, app_len, app_len]; show 0 + _ + _ + _ + _ + _ ≤ _; omega
theorem rd_base (T : OexC K C) {σ : L2.St} {tj : TE} (s0 : σ[0]? = some (some (.ref a))) (ha : H a = some (exo a C none)) (hj : ∀ Q : VK, (∀ s, Q (.str s) H) → tj σ H Q) (h : D.nx σ H) : tDrop (tVeI K (tCons (tVar 0) (tCons tj tNil))) D σ H := by
  refine ⟨.ref a, s0, hj _ fun s => ⟨a, C, [.str s], rfl, show 1 ≤ 1000 by decide, T, ha, h⟩⟩
end
section
variable {P : Program} {w : World} {K : PySem.W.Frag} {mg : Str → Option Value} {base : Heap} {C : Addr}
theorem bothI_of {ws : List V} (h : bothI ws) : ∃ i j, ws = [.int i, .int j] ∧ i.natAbs.log2 < 1920 ∧ j.natAbs.log2 < 1920 := by
  match ws, h with
  | [.int i, .int j], h => exact ⟨i, j, rfl, h⟩
theorem headI_of {ws : List V} (h : headI ws) : ∃ i r, ws = .int i :: r ∧ i.natAbs.log2 < 1920 := by
  match ws, h with
  | .int i :: r, h => exact ⟨i, r, rfl, h⟩
theorem spOex_len {ns : List Str} {good : List V → Prop} {vs : List V} {H : Hp} {Q : VK} {E : XK} (h : spOex C ns good vs H Q E) : vs.length = ns.length + 1 := by
  obtain ⟨a, ws, rfl, hl, _⟩ := h
  rw [List.length_cons, hl]
end
end PL
/-! ### the head stepper -/
namespace PL
open PySem PySem.Spec PyProof.Rows L2
theorem w_raiseF {C : Addr} {ns : List Str} {good : List PV → Prop} {ta : PTA} {dn db dc : PNx} {dr : PQ} {de : PXK} {σ : PSt} {M : Mem} (h : ta de σ M fun xs M1 => good xs ∧ de C (fldsP ns xs []) M1) : pRaiseF C ns good ta (PEnds.mk dn dr de db dc) σ M := h
theorem w_tryF {n i : Nat} {exm : Addr → Option Bool} {tb : PTS} {ts : Addr → Option Addr → Addr → PTS} {dn db dc : PNx} {dr : PQ} {de : PXK} {σ : PSt} {M : Mem}
    (h : tb (PEnds.mk dn dr (fun C fs M' => need (exm C) fun b =>
      (b = true → (fs = [] → ∀ a, M' a = none → ts C none a (PEnds.mk (fun σ' M'' => dn (σ'.set i none) M'') dr noX (fun σ' M'' => db (σ'.set i none) M'') (fun σ' M'' => dc (σ'.set i none) M'')) ((List.replicate n none).set i (some (.ptr a))) M') ∧
        (fs ≠ [] → ∀ a d, M' a = none → ts C (some d) a (PEnds.mk (fun σ' M'' => dn (σ'.set i none) M'') dr noX (fun σ' M'' => db (σ'.set i none) M'') (fun σ' M'' => dc (σ'.set i none) M'')) ((List.replicate n none).set i (some (.exc a d fs))) M')) ∧
      (b = false → de C fs M')) db dc) σ M) : pTryAsF n i exm tb ts (PEnds.mk dn dr de db dc) σ M := h
theorem w_isFp {a : Addr} {b : Option Bool} {M : Mem} {Q : PQ} (h : need b fun b => Q (.bl b) M) : kIsF a none b (.ptr a) M Q := ⟨⟨rfl, rfl⟩, h⟩
theorem w_isFx {a d : Addr} {fs : List (Str × PV)} {b : Option Bool} {M : Mem} {Q : PQ} (h : need b fun b => Q (.bl b) M) : kIsF a (some d) b (.exc a d fs) M Q := ⟨⟨rfl, rfl⟩, h⟩
theorem w_xf {a d : Addr} {f : Str} {x : PV} {fs : List (Str × PV)} {M : Mem} {Q : PQ} (e : fs.lookup f = some x) (h : Q x M) : kXf a (some d) f (.exc a d fs) M Q := ⟨rfl, rfl, need_by e h⟩
end PL
set_option Elab.async false
set_option linter.all false
set_option maxRecDepth 100000
/-! enumerate(list), x in list, isinstance(object, C) -/
namespace PL
open PySem PySem.Spec PyProof.Rows L2
section
variable {X : Cx} {a b c e tg : Expr} {ta tb tc te to : PTE} {pos p : Pos}
/-! ### enumerate(list) -/
def enumF (k : Nat) : List PV → List PV
  | [] => []
  | x :: xs => .tup [.int k, x] :: enumF (k + 1) xs
theorem enumF_len : ∀ (k : Nat) (xs : List PV), (enumF k xs).length = xs.length
  | _, [] => rfl
  | k, x :: xs => congrArg (· + 1) (enumF_len (k + 1) xs)
theorem enumF_at : ∀ {xs : List PV} {k i : Nat} {x : PV}, xs[i]? = some x → (enumF k xs)[i]? = some (.tup [.int ((k + i : Nat) : Int), x])
  | [], _, _, _, h => by simp at h
  | y :: ys, k, 0, x, h => by
    cases h
    rfl
  | y :: ys, k, i + 1, x, h => by
    show (enumF (k + 1) ys)[i]? = _
    rw [enumF_at (k := k + 1) (i := i) (x := x) h, show k + 1 + i = k + (i + 1) by omega]
theorem stab_enum {K : PySem.W.Frag} {F : Hp} {a : Addr} {xs : List PV} {vs : List V} (h : SqL K F a vs) (r : RAll K F xs vs) : Stab K (Ite K a) F (enumF 0 xs) := by
  intro i F' M H sm rm
  have hH : SqL K H a vs := rm.fr.seq (sm.seq h)
  have hl := enumF_len 0 xs
  refine ⟨fun hi => ?_, fun hi => ⟨vs, hH, by rw [← r.length]; omega⟩⟩
  have hi2 : i < xs.length := by omega
  obtain ⟨v, e, rv⟩ := r.get (List.getElem?_eq_getElem hi2)
  refine ⟨⟨vs, v, hH, e⟩, fun u H' y => ?_⟩
  obtain ⟨T, v1, rfl, nT, rfl, y1⟩ := y
  have e2 := y1 vs hH
  rw [e] at e2
  cases e2
  have eq : (enumF 0 xs)[i] = .tup [.int (i : Nat), xs[i]] := by
    have z := enumF_at (k := 0) (List.getElem?_eq_getElem hi2)
    rw [List.getElem?_eq_getElem hi, Nat.zero_add] at z
    exact Option.some.inj z
  rw [eq]
  exact ⟨_, rm.beh nT, .tup (SqT.of upd_same) (.cons (.int _) (.cons ((rv.same sm).same (rm.beh (o := .tup [.int (i : Nat), v]) nT).sm) .nil))⟩
def piE (ta : PTE) : PTI := fun E σ M Q => ta E σ M fun x M1 => need (lstF x) fun xs => Q (enumF 0 xs) M1
theorem LI.enum {elts : List Expr} {kk : Nat} {tpos : Pos} (hg : Gl X "enumerate") (hm : X.mg "enumerate" = none) (ha : LE X a ta)
    (hs : starEach [a] X.env = [(false, eval a X.env)] := by rfl) : LI X (.Tuple elts kk tpos) (.Call (.Name "enumerate" p) [a] [] pos) (piE ta) := by
  refine ⟨fun σv H σ F M Q E tk rm rs h => WI.of (pi_enum hg hm (pa_cons WE.pe pa_nil hs) hs) ?_⟩
  refine (ha.run σv H σ F M _ E tk rm rs h).mono ?_
  rintro v H1 ⟨F1, M1, x, b1, rx, hx⟩
  obtain ⟨xs, e1, h2⟩ := need_of hx
  cases rx with
  | lst q r => cases e1; exact ⟨_, _, rfl, SqL.of (b1.rm.fr _ _ q), F1, M1, _, b1, stab_enum (SqL.of q) r, h2⟩
  | scr q r => cases e1; exact ⟨_, _, rfl, b1.rm.fr.seq q, F1, M1, _, b1, stab_enum q r, h2⟩
  | _ => cases e1
theorem w_pE {E : PXK} {σ : PSt} {M : Mem} {Q : List PV → Mem → Prop} (h : ta E σ M fun x M1 => need (lstF x) fun xs => Q (enumF 0 xs) M1) : piE ta E σ M Q := h
/-! ### x in list -/
def inLP (f : Bool → Bool) : PO2 := fun x y M Q => need (toM M x) fun d => need (toM M y) fun e => d.depth ≤ 64 ∧ e.depth ≤ 64 ∧ ∃ ds, e = .list ds ∧ Q (.bl (f (ds.any fun z => PyData.eqv z d))) M
abbrev oInL : PO2 := inLP id
abbrev oNinL : PO2 := inLP not
theorem LE.inL (hu : X.A.units + 65 < cLine) (ha : LE X a ta) (hb : LE X b tb) (hm : behindInMarks .In b = false := by rfl) : LE X (.Compare a [.In] [b] pos) (pBin oInL ta tb) := LE.cmp (L2.op_inD hu) (fun F M H x y xv yv Q Qv rm rx ry h k => by
  obtain ⟨d, e1, h⟩ := need_of h
  obtain ⟨e, e2, h1, h2, ds, rfl, h3⟩ := need_of h
  obtain ⟨a1, a2⟩ := toM_dp rm rx e1
  obtain ⟨b1, b2⟩ := toM_dp rm ry e2
  exact ⟨d, ds, a1, b1, shaped_of a2 h1, shaped_of b2 h2, k _ _ (LQ.now rm (.bl _) h3)⟩) hm ha hb
theorem LE.ninL (hu : X.A.units + 65 < cLine) (ha : LE X a ta) (hb : LE X b tb) (hm : behindInMarks .NotIn b = false := by rfl) : LE X (.Compare a [.NotIn] [b] pos) (pBin oNinL ta tb) := LE.cmp (L2.op_notInD hu) (fun F M H x y xv yv Q Qv rm rx ry h k => by
  obtain ⟨d, e1, h⟩ := need_of h
  obtain ⟨e, e2, h1, h2, ds, rfl, h3⟩ := need_of h
  obtain ⟨a1, a2⟩ := toM_dp rm rx e1
  obtain ⟨b1, b2⟩ := toM_dp rm ry e2
  exact ⟨d, ds, a1, b1, shaped_of a2 h1, shaped_of b2 h2, k _ _ (LQ.now rm (.bl _) h3)⟩) hm ha hb
theorem LT.inL (hu : X.A.units + 65 < cLine) (ha : LE X a ta) (hb : LE X b tb) (hm : behindInMarks .In b = false := by rfl) : LT X (.Compare a [.In] [b] pos) (pTest (pBin oInL ta tb)) := LT.cmp (L2.op_inD hu) (fun F M H x y xv yv Q Qv rm rx ry h k => by
  obtain ⟨d, e1, h⟩ := need_of h
  obtain ⟨e, e2, h1, h2, ds, rfl, h3⟩ := need_of h
  obtain ⟨a1, a2⟩ := toM_dp rm rx e1
  obtain ⟨b1, b2⟩ := toM_dp rm ry e2
  exact ⟨d, ds, a1, b1, shaped_of a2 h1, shaped_of b2 h2, k _ _ (LQ.now rm (.bl _) h3)⟩) hm ha hb
theorem LT.ninL (hu : X.A.units + 65 < cLine) (ha : LE X a ta) (hb : LE X b tb) (hm : behindInMarks .NotIn b = false := by rfl) : LT X (.Compare a [.NotIn] [b] pos) (pTest (pBin oNinL ta tb)) := LT.cmp (L2.op_notInD hu) (fun F M H x y xv yv Q Qv rm rx ry h k => by
  obtain ⟨d, e1, h⟩ := need_of h
  obtain ⟨e, e2, h1, h2, ds, rfl, h3⟩ := need_of h
  obtain ⟨a1, a2⟩ := toM_dp rm rx e1
  obtain ⟨b1, b2⟩ := toM_dp rm ry e2
  exact ⟨d, ds, a1, b1, shaped_of a2 h1, shaped_of b2 h2, k _ _ (LQ.now rm (.bl _) h3)⟩) hm ha hb
/-! ### isinstance(object, C) -/
def kIsC (C : Addr) (x : PV) (M : Mem) (Q : PQ) : Prop := match x with
  | .obj D _ => D = C ∧ Q (.bl true) M
  | _ => False
theorem LE.isC {Y : Str} {C : Addr} {py : Pos} (c : C8.InsC X.K C) (hg : Gl X "isinstance") (hm : X.mg "isinstance" = none) (hgY : Gl X Y) (hmY : X.mg Y = some (.ref C)) (ha : LE X e te) (hdT : (Y == ("__debug__" : Str)) = false := by decide)
    (he : starEach [e, .Name Y py] X.env = (false, eval e X.env) :: starEach [.Name Y py] X.env := by rfl) (he2 : starEach [.Name Y py] X.env = (false, eval (.Name Y py) X.env) :: starEach [] X.env := by rfl)
    (hpl : (backTo pos (starEach [.Name Y py] X.env)).any (·.1) = false := by rfl) : LE X (.Call (.Name "isinstance" p) [e, .Name Y py] [] pos) (fun E σ M Q => te E σ M fun x M1 => kIsC C x M1 Q) := by
  refine ⟨fun σv H σ F M Q E tk rm rs h => WE.of (pe_callB (C8.call_isC c) hg hm (by decide +kernel) (pa_cons WE.pe (pa_cons (pe_glob (v := .ref C) hgY hmY rfl hdT) pa_nil he2) he) (he := he) (hpl := hpl)) ?_⟩
  refine (ha.run σv H σ F M _ E tk rm rs h).mono ?_
  rintro v H1 ⟨F1, M1, x, b1, rx, hx⟩
  cases rx with
  | obj q _ =>
    obtain ⟨rfl, h2⟩ := hx
    exact ⟨_, _, _, rfl, b1.rm.fr _ _ q, LQ.tr b1 (LQ.now b1.rm (.bl true) h2)⟩
  | _ => exact hx.elim
end
end PL
set_option Elab.async false
set_option linter.all false
set_option maxRecDepth 100000
/-! divmod -/
namespace PL
open PySem PySem.Spec PyProof.Rows L2
section
variable {X : Cx} {a b : Expr} {t : PTA} {pos p : Pos}
def kDivmod (x y : PV) (M : Mem) (Q : PQ) : Prop := match x, y with | .int i, .int j => L2.CDiv i j ∧ Q (.tup [.int (i / j), .int (i % j)]) M | _, _ => False
theorem LE.divmod (hg : Gl X "divmod") (hm : X.mg "divmod" = none) (ha : LA X [a, b] t) (he : starEach [a, b] X.env = (false, eval a X.env) :: starEach [b] X.env := by rfl) (hpl : (backTo pos (starEach [b] X.env)).any (·.1) = false := by rfl) : LE X (.Call (.Name "divmod" p) [a, b] [] pos) (pCallB (on2 kDivmod) t) := by
  refine LE.callB call_divmod (fun F M H xs vs Q Qv rm rx h k => ?_) hg hm (by decide +kernel) ha (he := he) (hpl := hpl)
  obtain ⟨x, y, ex, h1⟩ := on2_of h
  subst ex
  obtain ⟨v, w, ev, rx1, ry1⟩ := rx.two
  subst ev
  cases rx1 <;> cases ry1 <;> first
    | exact h1.elim
    | exact ⟨_, _, rfl, h1.1, fun l nl => k _ _ ⟨_, M, _, rm.beh nl, .tup (SqT.of upd_same) (.cons (.int _) (.cons (.int _) .nil)), h1.2⟩⟩
end
end PL
set_option Elab.async false
set_option linter.all false
namespace PL
open PySem PySem.Spec PyProof.Rows PyProof L2 PySem.W
variable {X : Cx} {tg : Expr}
theorem cr_range1 : CallR X (.type "range") (fun vs H Q => ∃ j, vs = [V.int j] ∧ ∀ p, H p = none → Q (.ref p) (upd H p (.rng 0 j))) := by
  intro pins s σ H vs us Q I r h
  obtain ⟨j, rfl, q⟩ := h
  obtain ⟨u1, rfl, ri⟩ := vals1 r
  obtain ⟨t, rfl⟩ := ri
  refine call_range_1 ⟨.ref s.heap.objs.size, upd H s.heap.objs.size (.rng 0 j), I.laid (t' := s.toks + 1 + 1) (fun b o e => Heap.get?_push_of_some _ e) (Nat.le_refl _) ?_, rfl, q _ (I.hok.fresh (Nat.le_refl _))⟩
  exact ⟨s.toks, t, s.toks + 1, Heap.get?_push_size _ rfl⟩
def iRngV (te : TE) : TI := fun σ H R => te σ H fun x H1 => ∃ a lo hi, x = .ref a ∧ H1 a = some (.rng lo hi) ∧ (-(2 ^ 62) ≤ lo ∧ lo < 2 ^ 62 ∧ -(2 ^ 62) ≤ hi ∧ hi < 2 ^ 62) ∧ R (Itr lo (hi - lo).toNat) H1
theorem pi_rngV {e : Expr} {te : TE} (he : PE X e te) : PI X tg e (iRngV te) := by
  refine ⟨fun pins s σ H R I h => ?_⟩
  refine thn (he.run pins s σ H _ I h) fun v s1 ⟨x, H1, I1, r1, q1⟩ => ?_
  obtain ⟨a, lo, hi, e, hq, ⟨h1, h2, h3, h4⟩, q⟩ := q1
  subst e
  cases r1
  obtain ⟨t, u, w, hr⟩ := I1.hok _ _ hq
  refine wpAny_pyIter_range (hr : IsRange s1.heap a lo hi 1 t u w) (small_one h1 h2 h3 h4) ?_
  refine ⟨s1.heap.objs.size, [s1.heap.objs.size], _, _, H1, rfl, I1.kept (t' := s1.toks) fun b o e => Heap.get?_push_of_some _ e, turn_range _ lo (hi - lo).toNat, ?_, fun b hb => ?_, q⟩
  · have e1 : lo + ((0 : Nat) : Int) * 1 = lo := by simp
    have e2 : (((hi - lo).toNat : Nat) : Int) - ((0 : Nat) : Int) = Builtin.Range.rangeSize lo hi 1 := by rw [rangeSize_one]; split <;> omega
    show IsRangeIter _ _ (lo + ((0 : Nat) : Int) * 1) ((((hi - lo).toNat : Nat) : Int) - ((0 : Nat) : Int)) 1
    rw [e1, e2]
    exact Heap.get?_push_size _ rfl
  · have e : b = s1.heap.objs.size := by simpa using hb
    subst e
    exact I1.fpOk (Nat.le_refl _) (I1.hok.fresh (Nat.le_refl _))
/-! ### a range as a value -/
section
variable {e a : Expr} {te : PTE} {t : PTA} {pos p : Pos}
def kRg1 (x : PV) (M : Mem) (Q : PQ) : Prop := match x with | .int j => Q (.rng 0 j) M | _ => False
theorem LE.rngV1 (hg : Gl X "range") (hm : X.mg "range" = none) (ha : LA X [e] t) (he : starEach [e] X.env = (false, eval e X.env) :: starEach [] X.env := by rfl) : LE X (.Call (.Name "range" p) [e] [] pos) (pCallB (on1 kRg1) t) := by
  refine LE.callT cr_range1 (fun F M H xs vs Q Qv rm rx h k => ?_) hg hm (by decide +kernel) ha (he := he)
  obtain ⟨x, ex, h1⟩ := on1_of h
  subst ex
  obtain ⟨v, ev, rx1⟩ := rx.one
  subst ev
  cases rx1 <;> first
    | exact h1.elim
    | exact ⟨_, rfl, fun l nl => k _ _ ⟨_, M, _, rm.beh nl, .rng upd_same, h1⟩⟩
def kRg2 (x y : PV) (M : Mem) (Q : PQ) : Prop := match x, y with | .int i, .int j => Q (.rng i j) M | _, _ => False
theorem LE.rngV2 {es : List Expr} (hg : Gl X "range") (hm : X.mg "range" = none) (ha : LA X (e :: es) t) (he : starEach (e :: es) X.env = (false, eval e X.env) :: starEach es X.env := by rfl) (hpl : (backTo pos (starEach es X.env)).any (·.1) = false := by rfl) : LE X (.Call (.Name "range" p) (e :: es) [] pos) (pCallB (on2 kRg2) t) := by
  refine LE.callT cr_range2 (fun F M H xs vs Q Qv rm rx h k => ?_) hg hm (by decide +kernel) ha (he := he) (hpl := hpl)
  obtain ⟨x, y, ex, h1⟩ := on2_of h
  subst ex
  obtain ⟨v, w, ev, rx1, rx2⟩ := rx.two
  subst ev
  cases rx1 <;> cases rx2 <;> first
    | exact h1.elim
    | exact ⟨_, _, rfl, fun l nl => k _ _ ⟨_, M, _, rm.beh nl, .rng upd_same, h1⟩⟩
/-- `for x in r`, r a range object -/
def piV (te : PTE) : PTI := fun E σ M Q => te E σ M fun x M1 => match x with | .rng lo hi => (-(2 ^ 62) ≤ lo ∧ lo < 2 ^ 62 ∧ -(2 ^ 62) ≤ hi ∧ hi < 2 ^ 62) ∧ Q (rngP lo (hi - lo).toNat) M1 | _ => False
theorem LI.rngV (he : LE X e te) : LI X tg e (piV te) := by
  refine ⟨fun σv H σ F M Q E tk rm rs h => WI.of (pi_rngV WE.pe) ?_⟩
  refine (he.run σv H σ F M _ E tk rm rs h).mono ?_
  rintro v H1 ⟨F1, M1, x, b1, rx, hx⟩
  cases rx <;> first
    | exact hx.elim
    | skip
  rename_i lo hi hq
  exact ⟨_, lo, hi, rfl, b1.rm.fr _ _ hq, hx.1, F1, M1, _, b1, stab_rng, hx.2⟩
theorem w_rg1 {j : Int} {M : Mem} {Q : PQ} (h : Q (.rng 0 j) M) : kRg1 (.int j) M Q := h
theorem w_rg2 {i j : Int} {M : Mem} {Q : PQ} (h : Q (.rng i j) M) : kRg2 (.int i) (.int j) M Q := h
theorem w_piV {E : PXK} {σ : PSt} {M : Mem} {Q : List PV → Mem → Prop} (h : te E σ M fun x M1 => match x with | .rng lo hi => (-(2 ^ 62) ≤ lo ∧ lo < 2 ^ 62 ∧ -(2 ^ 62) ≤ hi ∧ hi < 2 ^ 62) ∧ Q (rngP lo (hi - lo).toNat) M1 | _ => False) : piV te E σ M Q := h
end
end PL
set_option Elab.async false
set_option linter.all false
namespace PL
open PySem PySem.Spec PyProof.Rows PyProof L2 PySem.W
section
variable {X : Cx} {a e : Expr} {to te : PTE} {pos : Pos}
theorem flat_intsI (ys : List Int) : (ys.map V.int).all flatV = true := by
  rw [List.all_map]
  exact List.all_eq_true.mpr fun _ _ => rfl
/-- t.index(i), t a tuple of ints: the first place -/
theorem mt_tup_indexI : MtR X "tuple.index" (fun x xs H Q => ∃ p, ∃ ys : List Int, ∃ z j, x = .ref p ∧ xs = [.int z] ∧ SqT X.K H p (ys.map V.int) ∧ ys[j]? = some z ∧ (∀ m, m < j → ys[m]? ≠ some z) ∧ Q (.int (j : Nat)) H) := by
  intro pins s σ H x xs v us Q I rx rs h
  obtain ⟨p, ys, z, j, rfl, rfl, hq, hy, hno, q⟩ := h
  cases rx
  obtain ⟨u, rfl, t, rfl⟩ := vals1 rs
  obtain ⟨its, r, pl, hz⟩ := I.tuple hq
  obtain ⟨⟨cls, dd, dt, sl⟩, ho, hc, n, hd⟩ := pl
  simp only at hc hd
  subst hc
  subst hd
  have hl : its.toArray.size = ys.length := by rw [List.size_toArray, ← r.length, List.length_map]
  have hj : j < its.toArray.size := by rw [hl]; exact (List.getElem?_eq_some_iff.mp hy).1
  have at' : ∀ (m : Nat) (hm : m < its.toArray.size), ∃ y t', ys[m]? = some y ∧ its.toArray[m] = Value.int y t' := fun m hm => by
    have hm' : m < ys.length := by rw [← hl]; exact hm
    obtain ⟨w, hw, t', hw'⟩ := r.get (i := m) (x := .int ys[m]) (by simp [hm'])
    refine ⟨ys[m], t', List.getElem?_eq_getElem hm', ?_⟩
    have e := (List.getElem?_eq_some_iff.mp hw).2
    rw [← hw', ← e]
    simp
  refine call_meets PySem.F.slot_tuple_index ⟨_, ho, rfl⟩ PySem.F.entry_tuple_index (PySem.F.args_tuple_index_2 _ _) (TI.tuple_indexAt p its.toArray n dd sl (.int z t) (eqU (.int z)) j hj ?_ ?_)
    ⟨ho, fun w hw => mem_eqAt (x := .int z) ⟨t, rfl⟩ rfl r (flat_intsI ys) w (by simpa using hw), ⟨.int (j : Nat), H, I.tok _, ⟨_, rfl⟩, q⟩⟩
  · obtain ⟨y, t', h1, h2⟩ := at' j hj
    rw [hy] at h1
    cases h1
    rw [h2]
    show (z == z) = true
    exact beq_self_eq_true z
  · intro m hm hmj
    obtain ⟨y, t', h1, h2⟩ := at' m hm
    rw [h2]
    show (y == z) = false
    exact beq_eq_false_iff_ne.mpr fun e => hno m hmj (e ▸ h1)
end
end PL
set_option Elab.async false
set_option linter.all false
namespace PL
open PySem PySem.Spec PyProof.Rows PyProof L2 PySem.W
/-! ### a comprehension with two clauses, no tests -/
/-- the inner walk; Q is told the list so far -/
def pLcI (i1 : Nat) (te : PTE) : List PV → List PV → PSt → Mem → (List PV → Mem → Prop) → Prop
  | [], acc => fun _ M Q => Q acc M
  | x :: xs, acc => fun σ M Q => te noX (σ.set i1 (some x)) M fun y M1 => acc.length < sizeLine ∧ pLcI i1 te xs (acc ++ [y]) σ M1 Q
def pLcO (i : Nat) (wi1 : PTI) (i1 : Nat) (te : PTE) : List PV → List PV → PSt → Mem → (List PV → Mem → Prop) → Prop
  | [], acc => fun _ M Q => Q acc M
  | x :: xs, acc => fun σ M Q => wi1 noX ((σ.set i1 none).set i (some x)) M fun ys M1 => pLcI i1 te ys acc ((σ.set i1 none).set i (some x)) M1 fun acc' M2 => pLcO i wi1 i1 te xs acc' σ M2 Q
/-- the new list never changes -/
def pLc2 (wi : PTI) (i : Nat) (wi1 : PTI) (i1 : Nat) (te : PTE) : PTE := fun E σ M Q => wi E σ M fun xs M1 => pLcO i wi1 i1 te xs [] σ M1 fun acc M2 => Q (.lst acc) M2
/-- the new list may change -/
def pLc2M (wi : PTI) (i : Nat) (wi1 : PTI) (i1 : Nat) (te : PTE) : PTE := fun E σ M Q => wi E σ M fun xs M1 => pLcO i wi1 i1 te xs [] σ M1 fun acc M2 => ∀ p, M2 p = none → Q (.ptr p) (M2.put p (.lst acc))
theorem RS.setW {K : PySem.W.Frag} {F : Hp} {σ : PSt} {σv : L2.St} (r : RS K F σ σv) (i : Nat) : RS K F (σ.set i none) (σv.set i none) := by
  refine ⟨by rw [List.length_set, List.length_set, r.len], fun j y h => ?_⟩
  by_cases hj : i = j
  · subst hj
    rw [List.getElem?_set] at h
    rw [if_pos rfl] at h
    split at h <;> cases h
  · rw [List.getElem?_set_ne hj] at h ⊢
    exact r.at_ j y h
theorem keepD {K : PySem.W.Frag} {F M H Fa Ma Ha} {D : Addr} {o : HO} (nF : F D = none) (nM : M D = none) (hD : H D = some o) (b : Beh K F M H Fa Ma Ha) : Fa D = none ∧ Ma D = none ∧ Ha D = some o := by
  refine ⟨?_, ?_, b.fr.keep D _ hD nM⟩
  · cases q : Fa D with
    | none => rfl
    | some u =>
      rcases b.fg D (by rw [q]; exact Option.some_ne_none _) with z | z | z
      · exact absurd nF z
      · exact absurd nM z
      · rw [hD] at z; cases z
  · cases q : Ma D with
    | none => rfl
    | some u =>
      rcases b.fr.grow D (by rw [q]; exact Option.some_ne_none _) with z | z
      · exact absurd nM z
      · rw [hD] at z; cases z
theorem lc_finF {K : PySem.W.Frag} {F M H F1 M1 H1 F2 M2 H2} {D : Addr} {acc : List PV} {vacc : List V} {Q : PQ} (b1 : Beh K F M H F1 M1 H1) (nD : H1 D = none) (b2 : Beh K F M H F2 M2 H2) (nF2 : F2 D = none) (nM2 : M2 D = none) (hD : H2 D = some (.lst vacc)) (ra : RAll K F2 acc vacc) (h2 : Q (.lst acc) M2) : LQ K F M H Q (.ref D) H2 := by
  have sm : Same F2 (upd F2 D (.lst vacc)) := same_upd nF2
  refine ⟨upd F2 D (.lst vacc), M2, _, ⟨b2.sm.trans sm, ⟨fun c u hc => ?_, fun c hc => ?_, fun c mo hc => ?_⟩, b2.fr, fun c hc => ?_⟩, .lst upd_same (ra.same sm), h2⟩
  · by_cases hcD : c = D
    · subst hcD; rw [upd_same] at hc; cases hc; exact hD
    · rw [upd_ne hcD] at hc; exact b2.rm.fr c u hc
  · have hcD : c ≠ D := fun z => hc (by rw [z]; exact nM2)
    rw [upd_ne hcD]; exact b2.rm.dj c hc
  · obtain ⟨u, e1, e2⟩ := b2.rm.mu c mo hc
    exact ⟨u, e1, e2.same sm⟩
  · by_cases hcD : c = D
    · subst hcD
      right; right
      cases q : H c with
      | none => rfl
      | some u => exact absurd nD (b1.fr.there c (by rw [q]; exact Option.some_ne_none _))
    · rw [upd_ne hcD] at hc; exact b2.fg c hc
theorem lc_finM {K : PySem.W.Frag} {F M H F1 M1 H1 F2 M2 H2} {D : Addr} {acc : List PV} {vacc : List V} {Q : PQ} (b1 : Beh K F M H F1 M1 H1) (nD : H1 D = none) (b2 : Beh K F M H F2 M2 H2) (nF2 : F2 D = none) (nM2 : M2 D = none) (hD : H2 D = some (.lst vacc)) (ra : RAll K F2 acc vacc) (h2 : ∀ p, M2 p = none → Q (.ptr p) (M2.put p (.lst acc))) : LQ K F M H Q (.ref D) H2 := by
  have hH : H D = none := by
    cases q : H D with
    | none => rfl
    | some u => exact absurd nD (b1.fr.there D (by rw [q]; exact Option.some_ne_none _))
  refine ⟨F2, M2.put D (.lst acc), _, ⟨b2.sm, ⟨b2.rm.fr, fun c hc => ?_, fun c mo hc => ?_⟩, ⟨b2.fr.keep, fun c hc => ?_, b2.fr.there⟩, b2.fg⟩, .ptr D, h2 D nM2⟩
  · by_cases hcD : c = D
    · rw [hcD]; exact nF2
    · rw [put_ne hcD] at hc; exact b2.rm.dj c hc
  · by_cases hcD : c = D
    · subst hcD; rw [put_same] at hc; cases hc; exact ⟨_, hD, .lst ra⟩
    · rw [put_ne hcD] at hc; exact b2.rm.mu c mo hc
  · by_cases hcD : c = D
    · rw [hcD]; exact .inr hH
    · rw [put_ne hcD] at hc; exact b2.fr.grow c hc
section
variable {X : Cx} {elt iter iter1 : Expr} {scope : Scope} {x x1 : Str} {i i1 : Nat} {pos pt pt1 : Pos} {wi wi1 : PTI} {te : PTE}
def IBlk (X : Cx) (scope : Scope) (tg it : Expr) : TI := fun σ H R => ∀ s0 H0 C cl fp, WI (Blk X scope s0 H0 C cl fp) tg it σ H R
theorem lc2_t (hc : X.calm = true) (hN : X.N.Nodup) (hi : LI X (.Name x pt) iter wi) (ok : BlkOk X.N X.env.scope scope [(x, i), (x1, i1)]) (hne : i ≠ i1)
    (hg : ∀ (s : Shared) (H : Hp) (C : Addr) (cl : List (Str × Addr)) (fp : List Addr), PG (Blk X scope s H C cl fp) (.Name x pt) (gName i))
    (hi1 : ∀ (s : Shared) (H : Hp) (C : Addr) (cl : List (Str × Addr)) (fp : List Addr), LI (Blk X scope s H C cl fp) (.Name x1 pt1) iter1 wi1)
    (hg1 : ∀ (s : Shared) (H : Hp) (C : Addr) (cl : List (Str × Addr)) (fp : List Addr), PG (Blk X scope s H C cl fp) (.Name x1 pt1) (gName i1))
    (he : ∀ (s : Shared) (H : Hp) (C : Addr) (cl : List (Str × Addr)) (fp : List Addr), LE (Blk X scope s H C cl fp) elt te)
    (hs : ∀ v, foldedSetIterable iter X.env v = pure v := by intro _; rfl) (hs1 : ∀ env v, foldedSetIterable iter1 env v = pure v := by intro _ _; rfl)
    {σv : L2.St} {H : Hp} {σ : PSt} {F : Hp} {M : Mem} {Q : PQ} {E : PXK} {eQ : List PV → Mem → Prop} (fin : ∀ {F1 M1 H1 F2 M2 H2} {D : Addr} {acc : List PV} {vacc : List V}, Beh X.K F M H F1 M1 H1 → H1 D = none → Beh X.K F M H F2 M2 H2 → F2 D = none → M2 D = none → H2 D = some (.lst vacc) → RAll X.K F2 acc vacc → eQ acc M2 → LQ X.K F M H Q (.ref D) H2)
    (tk : PTk X F M H E) (rm : RM X.K F M H) (rs : RS X.K F σ σv) (h : wi E σ M fun xs M1 => pLcO i wi1 i1 te xs [] σ M1 eQ) : tLc2 (WI X (.Name x pt) iter) (gName i) tYes (IBlk X scope (.Name x1 pt1) iter1) (gName i1) tYes (EBlk X scope elt) (List.map (fun (q : Str × Nat) => q.snd) [(x, i), (x1, i1)]) [i1] σv H (LQ X.K F M H Q) := by
  refine (hi.run σv H σ F M _ E tk rm rs h).mono ?_
  rintro J H1 ⟨F1, M1, xs, b1, st, h1⟩
  intro D nD
  obtain ⟨nF, nM⟩ := b1.rm.nones nD
  have b1' := b1.trans ((b1.rm.behHid (o := .lst []) nF nM).2 nD)
  refine ⟨fun j m H' => m = xs.length - j ∧ j ≤ xs.length ∧ ∃ F' M' acc vacc, Beh X.K F M H F' M' H' ∧ Same F1 F' ∧ F' D = none ∧ M' D = none ∧ H' D = some (.lst vacc) ∧ RAll X.K F' acc vacc ∧ pLcO i wi1 i1 te (xs.drop j) acc σ M' eQ,
    ⟨xs.length, rfl, Nat.zero_le _, F1, M1, [], [], b1', Same.refl _, nF, nM, upd_same, .nil, h1⟩, ?_⟩
  rintro j m H2 ⟨rfl, hj, F2, M2, acc, vacc, b2, sm2, nF2, nM2, hD, ra, h2⟩
  obtain ⟨s1, s2⟩ := st j F2 M2 H2 sm2 b2.rm
  by_cases hlt : j < xs.length
  · obtain ⟨go, yl⟩ := s1 hlt
    rw [List.drop_eq_getElem_cons hlt] at h2
    refine .inr ⟨go, _, fun H' n => ⟨_, (show xs.length - (j + 1) < xs.length - j by omega), n⟩, fun v H3 y => ?_⟩
    obtain ⟨F3, b3, r3⟩ := yl v H3 y
    have e1 : (wipe σv (List.map (fun (q : Str × Nat) => q.snd) [(x, i), (x1, i1)])).set i (some v) = (σv.set i1 none).set i (some v) := by
      show (((σv.set i1 none).set i none).set i (some v)) = _
      rw [List.set_set]
    unfold gName
    rw [e1]
    refine ⟨?_, ?_⟩
    · show ((((σv.set i1 none).set i (some v)).set i1 none).set i none) = (σv.set i1 none).set i none
      have e3 : ((σv.set i1 none).set i (some v)).set i1 none = ((σv.set i1 none).set i1 none).set i (some v) := List.set_comm (some v) (none : Option V) hne
      rw [e3, List.set_set, List.set_set]
    unfold tYes
    show ite (true = true) _ _
    rw [if_pos rfl]
    have rs3 : RS X.K F3 ((σ.set i1 none).set i (some xs[j])) ((σv.set i1 none).set i (some v)) := ((rs.same (b2.trans b3).sm).setW i1).set i r3
    intro s0 H0 C cl fp
    refine ((hi1 s0 H0 C cl fp).run _ H3 _ F3 M2 _ noX PTk.no b3.rm rs3 h2).mono ?_
    rintro J1 H4 ⟨F4, M4, ys, b4, st1, h4⟩
    have b34 := b3.trans b4
    obtain ⟨k1, k2, k3⟩ := keepD nF2 nM2 hD b34
    refine ⟨fun k n H' => n = ys.length - k ∧ k ≤ ys.length ∧ ∃ F' M' acc vacc, Beh X.K F M H F' M' H' ∧ Same F4 F' ∧ F' D = none ∧ M' D = none ∧ H' D = some (.lst vacc) ∧ RAll X.K F' acc vacc ∧ pLcI i1 te (ys.drop k) acc ((σ.set i1 none).set i (some xs[j])) M' (fun acc' M2 => pLcO i wi1 i1 te (xs.drop (j + 1)) acc' σ M2 eQ),
      ⟨ys.length, rfl, Nat.zero_le _, F4, M4, acc, vacc, b2.trans b34, Same.refl _, k1, k2, k3, ra.same b34.sm, h4⟩, ?_⟩
    rintro k n H5 ⟨rfl, hk, F5, M5, acc5, vacc5, b5, sm5, nF5, nM5, hD5, ra5, h5⟩
    obtain ⟨t1, t2⟩ := st1 k F5 M5 H5 sm5 b5.rm
    by_cases hlt1 : k < ys.length
    · obtain ⟨go1, yl1⟩ := t1 hlt1
      rw [List.drop_eq_getElem_cons hlt1] at h5
      refine .inr ⟨go1, _, fun H' n => ⟨_, (show ys.length - (k + 1) < ys.length - k by omega), n⟩, fun v1 H6 y1 => ?_⟩
      obtain ⟨F6, b6, r6⟩ := yl1 v1 H6 y1
      have e2 : (wipe ((σv.set i1 none).set i (some v)) [i1]).set i1 (some v1) = ((σv.set i1 none).set i (some v)).set i1 (some v1) := by
        show ((((σv.set i1 none).set i (some v)).set i1 none).set i1 (some v1)) = _
        rw [List.set_set]
      rw [e2]
      refine ⟨?_, ?_⟩
      · show ((((σv.set i1 none).set i (some v)).set i1 (some v1)).set i1 none) = ((σv.set i1 none).set i (some v)).set i1 none
        rw [List.set_set]
      show ite (true = true) _ _
      rw [if_pos rfl]
      have rs6 : RS X.K F6 (((σ.set i1 none).set i (some xs[j])).set i1 (some ys[k])) (((σv.set i1 none).set i (some v)).set i1 (some v1)) := (rs3.same ((b4.sm.trans sm5).trans b6.sm)).set i1 r6
      intro s0' H0' C' cl' fp'
      refine ((he s0' H0' C' cl' fp').run _ H6 _ F6 M5 _ noX PTk.no b6.rm rs6 h5).mono ?_
      rintro yv H7 ⟨F7, M7, y7, b7, r7, hz7, h7⟩
      have b57 := b6.trans b7
      obtain ⟨q1, q2, q3⟩ := keepD nF5 nM5 hD5 b57
      refine ⟨vacc5, q3, by rw [← ra5.length]; exact hz7, rfl, hlt1, F7, M7, acc5 ++ [y7], vacc5 ++ [yv], ?_, sm5.trans b57.sm, q1, q2, upd_same, (ra5.same b57.sm).append (.cons r7 .nil), h7⟩
      have b05 := b5.trans b57
      have xx : RM X.K F7 M7 (upd H7 D (.lst (vacc5 ++ [yv]))) := hid_app b05.rm q1 q2
      refine ⟨b05.sm, xx, ⟨fun c u hc nc => ?_, b05.fr.grow, fun c hc => ?_⟩, b05.fg⟩
      · have hcD : c ≠ D := fun z => by
          subst z
          exact absurd nD (b1.fr.there c (by rw [hc]; exact Option.some_ne_none _))
        rw [upd_ne hcD]
        exact b05.fr.keep c u hc nc
      · by_cases hcD : c = D
        · subst hcD; rw [upd_same]; exact Option.some_ne_none _
        · rw [upd_ne hcD]; exact b05.fr.there c hc
    · have e : k = ys.length := by omega
      subst e
      rw [List.drop_length] at h5
      exact .inl ⟨t2 (Nat.le_refl _), rfl, hlt, F5, M5, acc5, vacc5, b5, (sm2.trans b34.sm).trans sm5, nF5, nM5, hD5, ra5, h5⟩
  · have e : j = xs.length := by omega
    subst e
    rw [List.drop_length] at h2
    exact .inl ⟨s2 (Nat.le_refl _), fin b1 nD b2 nF2 nM2 hD ra h2⟩
theorem LE.lc2 (hc : X.calm = true) (hN : X.N.Nodup) (hi : LI X (.Name x pt) iter wi) (ok : BlkOk X.N X.env.scope scope [(x, i), (x1, i1)]) (hne : i ≠ i1)
    (hg : ∀ (s : Shared) (H : Hp) (C : Addr) (cl : List (Str × Addr)) (fp : List Addr), PG (Blk X scope s H C cl fp) (.Name x pt) (gName i))
    (hi1 : ∀ (s : Shared) (H : Hp) (C : Addr) (cl : List (Str × Addr)) (fp : List Addr), LI (Blk X scope s H C cl fp) (.Name x1 pt1) iter1 wi1)
    (hg1 : ∀ (s : Shared) (H : Hp) (C : Addr) (cl : List (Str × Addr)) (fp : List Addr), PG (Blk X scope s H C cl fp) (.Name x1 pt1) (gName i1))
    (he : ∀ (s : Shared) (H : Hp) (C : Addr) (cl : List (Str × Addr)) (fp : List Addr), LE (Blk X scope s H C cl fp) elt te)
    (hs : ∀ v, foldedSetIterable iter X.env v = pure v := by intro _; rfl) (hs1 : ∀ env v, foldedSetIterable iter1 env v = pure v := by intro _ _; rfl) :
    LE X (.ListComp elt [⟨.Name x pt, iter, [], 0⟩, ⟨.Name x1 pt1, iter1, [], 0⟩] scope pos) (pLc2 wi i wi1 i1 te) :=
  ⟨fun σv H σ F M Q E tk rm rs h => WE.of (pe_lc2 (own := [(x, i), (x1, i1)]) (vs1 := [i1]) (g := gName i) (g1 := gName i1) (wi1 := IBlk X scope (.Name x1 pt1) iter1) (te := EBlk X scope elt) hc hN WI.pi ok (by simp) hg (fun _ _ _ _ _ => pts_nil) (fun s0 H0 C cl fp => ⟨fun pins s σ H Q I hh => hh s0 H0 C cl fp pins s I⟩) hg1 (fun _ _ _ _ _ => pts_nil) (fun s0 H0 C cl fp => ⟨fun pins s σ H Q I hh => hh s0 H0 C cl fp pins s I⟩) hs hs1) (lc2_t hc hN hi ok hne hg hi1 hg1 he hs hs1 (fun b1 nD b2 nF nM hD ra q => lc_finF b1 nD b2 nF nM hD ra q) tk rm rs h)⟩
theorem LE.lc2M (hc : X.calm = true) (hN : X.N.Nodup) (hi : LI X (.Name x pt) iter wi) (ok : BlkOk X.N X.env.scope scope [(x, i), (x1, i1)]) (hne : i ≠ i1)
    (hg : ∀ (s : Shared) (H : Hp) (C : Addr) (cl : List (Str × Addr)) (fp : List Addr), PG (Blk X scope s H C cl fp) (.Name x pt) (gName i))
    (hi1 : ∀ (s : Shared) (H : Hp) (C : Addr) (cl : List (Str × Addr)) (fp : List Addr), LI (Blk X scope s H C cl fp) (.Name x1 pt1) iter1 wi1)
    (hg1 : ∀ (s : Shared) (H : Hp) (C : Addr) (cl : List (Str × Addr)) (fp : List Addr), PG (Blk X scope s H C cl fp) (.Name x1 pt1) (gName i1))
    (he : ∀ (s : Shared) (H : Hp) (C : Addr) (cl : List (Str × Addr)) (fp : List Addr), LE (Blk X scope s H C cl fp) elt te)
    (hs : ∀ v, foldedSetIterable iter X.env v = pure v := by intro _; rfl) (hs1 : ∀ env v, foldedSetIterable iter1 env v = pure v := by intro _ _; rfl) :
    LE X (.ListComp elt [⟨.Name x pt, iter, [], 0⟩, ⟨.Name x1 pt1, iter1, [], 0⟩] scope pos) (pLc2M wi i wi1 i1 te) :=
  ⟨fun σv H σ F M Q E tk rm rs h => WE.of (pe_lc2 (own := [(x, i), (x1, i1)]) (vs1 := [i1]) (g := gName i) (g1 := gName i1) (wi1 := IBlk X scope (.Name x1 pt1) iter1) (te := EBlk X scope elt) hc hN WI.pi ok (by simp) hg (fun _ _ _ _ _ => pts_nil) (fun s0 H0 C cl fp => ⟨fun pins s σ H Q I hh => hh s0 H0 C cl fp pins s I⟩) hg1 (fun _ _ _ _ _ => pts_nil) (fun s0 H0 C cl fp => ⟨fun pins s σ H Q I hh => hh s0 H0 C cl fp pins s I⟩) hs hs1) (lc2_t hc hN hi ok hne hg hi1 hg1 he hs hs1 (fun b1 nD b2 nF nM hD ra q => lc_finM b1 nD b2 nF nM hD ra q) tk rm rs h)⟩
theorem LS.setLc2 (k : Nat) {y : Str} {py spos : Pos} (hy : X.N[k]? = some y) (hyl : X.env.scope.names.lookup y = some .local)
    (hsw : swapsWith (.ListComp elt [⟨.Name x pt, iter, [], 0⟩, ⟨.Name x1 pt1, iter1, [], 0⟩] scope pos) (some (.Name y py)) spos.line X.env = pure true) (hc : X.calm = true) (hN : X.N.Nodup) (hi : LI X (.Name x pt) iter wi) (ok : BlkOk X.N X.env.scope scope [(x, i), (x1, i1)]) (hne : i ≠ i1)
    (hg : ∀ (s : Shared) (H : Hp) (C : Addr) (cl : List (Str × Addr)) (fp : List Addr), PG (Blk X scope s H C cl fp) (.Name x pt) (gName i))
    (hi1 : ∀ (s : Shared) (H : Hp) (C : Addr) (cl : List (Str × Addr)) (fp : List Addr), LI (Blk X scope s H C cl fp) (.Name x1 pt1) iter1 wi1)
    (hg1 : ∀ (s : Shared) (H : Hp) (C : Addr) (cl : List (Str × Addr)) (fp : List Addr), PG (Blk X scope s H C cl fp) (.Name x1 pt1) (gName i1))
    (he : ∀ (s : Shared) (H : Hp) (C : Addr) (cl : List (Str × Addr)) (fp : List Addr), LE (Blk X scope s H C cl fp) elt te)
    (hs : ∀ v, foldedSetIterable iter X.env v = pure v := by intro _; rfl) (hs1 : ∀ env v, foldedSetIterable iter1 env v = pure v := by intro _ _; rfl) :
    LS X (.Assign [.Name y py] (.ListComp elt [⟨.Name x pt, iter, [], 0⟩, ⟨.Name x1 pt1, iter1, [], 0⟩] scope pos) spos) (pSet k (pLc2 wi i wi1 i1 te)) := by
  refine ⟨fun σv H σ F M D tk rm rs h => ?_⟩
  refine WS.of (ps_setLc2 (own := [(x, i), (x1, i1)]) (vs1 := [i1]) (g := gName i) (g1 := gName i1) (wi1 := IBlk X scope (.Name x1 pt1) iter1) (te := EBlk X scope elt) hc hN hy hyl hsw WI.pi ok (by simp) hg (fun _ _ _ _ _ => pts_nil) (fun s0 H0 C cl fp => ⟨fun pins s σ H Q I hh => hh s0 H0 C cl fp pins s I⟩) hg1 (fun _ _ _ _ _ => pts_nil) (fun s0 H0 C cl fp => ⟨fun pins s σ H Q I hh => hh s0 H0 C cl fp pins s I⟩) hs hs1) ?_
  have q := lc2_t (Q := fun x M1 => D.nx (σ.set k (some x)) M1) (eQ := fun acc M2 => D.nx (σ.set k (some (.lst acc))) M2) (scope := scope) (elt := elt) (pt1 := pt1) (x1 := x1) (iter1 := iter1) hc hN hi ok hne hg hi1 hg1 he hs hs1 (fun b1 nD b2 nF nM hD ra q => lc_finF b1 nD b2 nF nM hD ra q) tk rm rs h
  have m : ∀ v H', LQ X.K F M H (fun x M1 => D.nx (σ.set k (some x)) M1) v H' → gName k v σv H' (LD X.K F M H D).nx := fun v H' ⟨F1, M1, y, b1, ry, hy⟩ => ⟨F1, M1, _, b1, (rs.same b1.sm).set k ry, hy⟩
  refine WI.mono q fun J H1 h1 => ?_
  intro D' nD
  obtain ⟨W, w0, w1⟩ := h1 D' nD
  refine ⟨W, w0, fun j m' H' w => ?_⟩
  rcases w1 j m' H' w with ⟨s1, s2⟩ | s
  · exact .inl ⟨s1, m _ _ s2⟩
  · exact .inr s
theorem LS.setLc2M (k : Nat) {y : Str} {py spos : Pos} (hy : X.N[k]? = some y) (hyl : X.env.scope.names.lookup y = some .local)
    (hsw : swapsWith (.ListComp elt [⟨.Name x pt, iter, [], 0⟩, ⟨.Name x1 pt1, iter1, [], 0⟩] scope pos) (some (.Name y py)) spos.line X.env = pure true) (hc : X.calm = true) (hN : X.N.Nodup) (hi : LI X (.Name x pt) iter wi) (ok : BlkOk X.N X.env.scope scope [(x, i), (x1, i1)]) (hne : i ≠ i1)
    (hg : ∀ (s : Shared) (H : Hp) (C : Addr) (cl : List (Str × Addr)) (fp : List Addr), PG (Blk X scope s H C cl fp) (.Name x pt) (gName i))
    (hi1 : ∀ (s : Shared) (H : Hp) (C : Addr) (cl : List (Str × Addr)) (fp : List Addr), LI (Blk X scope s H C cl fp) (.Name x1 pt1) iter1 wi1)
    (hg1 : ∀ (s : Shared) (H : Hp) (C : Addr) (cl : List (Str × Addr)) (fp : List Addr), PG (Blk X scope s H C cl fp) (.Name x1 pt1) (gName i1))
    (he : ∀ (s : Shared) (H : Hp) (C : Addr) (cl : List (Str × Addr)) (fp : List Addr), LE (Blk X scope s H C cl fp) elt te)
    (hs : ∀ v, foldedSetIterable iter X.env v = pure v := by intro _; rfl) (hs1 : ∀ env v, foldedSetIterable iter1 env v = pure v := by intro _ _; rfl) :
    LS X (.Assign [.Name y py] (.ListComp elt [⟨.Name x pt, iter, [], 0⟩, ⟨.Name x1 pt1, iter1, [], 0⟩] scope pos) spos) (pSet k (pLc2M wi i wi1 i1 te)) := by
  refine ⟨fun σv H σ F M D tk rm rs h => ?_⟩
  refine WS.of (ps_setLc2 (own := [(x, i), (x1, i1)]) (vs1 := [i1]) (g := gName i) (g1 := gName i1) (wi1 := IBlk X scope (.Name x1 pt1) iter1) (te := EBlk X scope elt) hc hN hy hyl hsw WI.pi ok (by simp) hg (fun _ _ _ _ _ => pts_nil) (fun s0 H0 C cl fp => ⟨fun pins s σ H Q I hh => hh s0 H0 C cl fp pins s I⟩) hg1 (fun _ _ _ _ _ => pts_nil) (fun s0 H0 C cl fp => ⟨fun pins s σ H Q I hh => hh s0 H0 C cl fp pins s I⟩) hs hs1) ?_
  have q := lc2_t (Q := fun x M1 => D.nx (σ.set k (some x)) M1) (eQ := fun acc M2 => ∀ p, M2 p = none → D.nx (σ.set k (some (.ptr p))) (M2.put p (.lst acc))) (scope := scope) (elt := elt) (pt1 := pt1) (x1 := x1) (iter1 := iter1) hc hN hi ok hne hg hi1 hg1 he hs hs1 (fun b1 nD b2 nF nM hD ra q => lc_finM b1 nD b2 nF nM hD ra q) tk rm rs h
  have m : ∀ v H', LQ X.K F M H (fun x M1 => D.nx (σ.set k (some x)) M1) v H' → gName k v σv H' (LD X.K F M H D).nx := fun v H' ⟨F1, M1, y, b1, ry, hy⟩ => ⟨F1, M1, _, b1, (rs.same b1.sm).set k ry, hy⟩
  refine WI.mono q fun J H1 h1 => ?_
  intro D' nD
  obtain ⟨W, w0, w1⟩ := h1 D' nD
  refine ⟨W, w0, fun j m' H' w => ?_⟩
  rcases w1 j m' H' w with ⟨s1, s2⟩ | s
  · exact .inl ⟨s1, m _ _ s2⟩
  · exact .inr s
/-! one clause, the new list may change -/
def pLcM (wi : PTI) (i : Nat) (te : PTE) : PTE := fun E σ M Q => wi E σ M fun xs M1 => pLcI i te xs [] σ M1 fun acc M2 => ∀ p, M2 p = none → Q (.ptr p) (M2.put p (.lst acc))
theorem lc1_t (hi : LI X (.Name x pt) iter wi) (he : ∀ (s : Shared) (H : Hp) (C : Addr) (cl : List (Str × Addr)) (fp : List Addr), LE (Blk X scope s H C cl fp) elt te)
    {σv : L2.St} {H : Hp} {σ : PSt} {F : Hp} {M : Mem} {Q : PQ} {E : PXK} {eQ : List PV → Mem → Prop} (fin : ∀ {F1 M1 H1 F2 M2 H2} {D : Addr} {acc : List PV} {vacc : List V}, Beh X.K F M H F1 M1 H1 → H1 D = none → Beh X.K F M H F2 M2 H2 → F2 D = none → M2 D = none → H2 D = some (.lst vacc) → RAll X.K F2 acc vacc → eQ acc M2 → LQ X.K F M H Q (.ref D) H2)
    (tk : PTk X F M H E) (rm : RM X.K F M H) (rs : RS X.K F σ σv) (h : wi E σ M fun xs M1 => pLcI i te xs [] σ M1 eQ) : tLc (WI X (.Name x pt) iter) (gName i) tYes (EBlk X scope elt) [i] σv H (LQ X.K F M H Q) := by
  refine (hi.run σv H σ F M _ E tk rm rs h).mono ?_
  rintro J H1 ⟨F1, M1, xs, b1, st, h1⟩
  intro D nD
  obtain ⟨nF, nM⟩ := b1.rm.nones nD
  have b1' := b1.trans ((b1.rm.behHid (o := .lst []) nF nM).2 nD)
  refine ⟨fun j m H' => m = xs.length - j ∧ j ≤ xs.length ∧ ∃ F' M' acc vacc, Beh X.K F M H F' M' H' ∧ Same F1 F' ∧ F' D = none ∧ M' D = none ∧ H' D = some (.lst vacc) ∧ RAll X.K F' acc vacc ∧ pLcI i te (xs.drop j) acc σ M' eQ,
    ⟨xs.length, rfl, Nat.zero_le _, F1, M1, [], [], b1', Same.refl _, nF, nM, upd_same, .nil, h1⟩, ?_⟩
  rintro j m H5 ⟨rfl, hj, F5, M5, acc5, vacc5, b5, sm5, nF5, nM5, hD5, ra5, h5⟩
  obtain ⟨t1, t2⟩ := st j F5 M5 H5 sm5 b5.rm
  by_cases hlt1 : j < xs.length
  · obtain ⟨go1, yl1⟩ := t1 hlt1
    rw [List.drop_eq_getElem_cons hlt1] at h5
    refine .inr ⟨go1, _, fun H' n => ⟨_, (show xs.length - (j + 1) < xs.length - j by omega), n⟩, fun v1 H6 y1 => ?_⟩
    obtain ⟨F6, b6, r6⟩ := yl1 v1 H6 y1
    have e2 : (wipe σv [i]).set i (some v1) = σv.set i (some v1) := by
      show ((σv.set i none).set i (some v1)) = _
      rw [List.set_set]
    unfold gName
    rw [e2]
    refine ⟨?_, ?_⟩
    · show ((σv.set i (some v1)).set i none) = σv.set i none
      rw [List.set_set]
    unfold tYes
    show ite (true = true) _ _
    rw [if_pos rfl]
    have rs6 : RS X.K F6 (σ.set i (some xs[j])) (σv.set i (some v1)) := (rs.same (b5.trans b6).sm).set i r6
    intro s0' H0' C' cl' fp'
    refine ((he s0' H0' C' cl' fp').run _ H6 _ F6 M5 _ noX PTk.no b6.rm rs6 h5).mono ?_
    rintro yv H7 ⟨F7, M7, y7, b7, r7, hz7, h7⟩
    have b57 := b6.trans b7
    obtain ⟨q1, q2, q3⟩ := keepD nF5 nM5 hD5 b57
    refine ⟨vacc5, q3, by rw [← ra5.length]; exact hz7, rfl, hlt1, F7, M7, acc5 ++ [y7], vacc5 ++ [yv], ?_, sm5.trans b57.sm, q1, q2, upd_same, (ra5.same b57.sm).append (.cons r7 .nil), h7⟩
    have b05 := b5.trans b57
    have xx : RM X.K F7 M7 (upd H7 D (.lst (vacc5 ++ [yv]))) := hid_app b05.rm q1 q2
    refine ⟨b05.sm, xx, ⟨fun c u hc nc => ?_, b05.fr.grow, fun c hc => ?_⟩, b05.fg⟩
    · have hcD : c ≠ D := fun z => by
        subst z
        exact absurd nD (b1.fr.there c (by rw [hc]; exact Option.some_ne_none _))
      rw [upd_ne hcD]
      exact b05.fr.keep c u hc nc
    · by_cases hcD : c = D
      · subst hcD; rw [upd_same]; exact Option.some_ne_none _
      · rw [upd_ne hcD]; exact b05.fr.there c hc
  · have e : j = xs.length := by omega
    subst e
    rw [List.drop_length] at h5
    exact .inl ⟨t2 (Nat.le_refl _), fin b1 nD b5 nF5 nM5 hD5 ra5 h5⟩
theorem LE.lcM (hc : X.calm = true) (hN : X.N.Nodup) (hi : LI X (.Name x pt) iter wi) (ok : BlkOk X.N X.env.scope scope [(x, i)])
    (hg : ∀ (s : Shared) (H : Hp) (C : Addr) (cl : List (Str × Addr)) (fp : List Addr), PG (Blk X scope s H C cl fp) (.Name x pt) (gName i))
    (he : ∀ (s : Shared) (H : Hp) (C : Addr) (cl : List (Str × Addr)) (fp : List Addr), LE (Blk X scope s H C cl fp) elt te)
    (hs : ∀ v, foldedSetIterable iter X.env v = pure v := by intro _; rfl) :
    LE X (.ListComp elt [⟨.Name x pt, iter, [], 0⟩] scope pos) (pLcM wi i te) :=
  ⟨fun σv H σ F M Q E tk rm rs h => WE.of (pe_lc (own := [(x, i)]) (g := gName i) (te := EBlk X scope elt) hc hN WI.pi ok hg (fun _ _ _ _ _ => pts_nil) (fun s0 H0 C cl fp => ⟨fun pins s σ H Q I hh => hh s0 H0 C cl fp pins s I⟩) hs) (lc1_t (scope := scope) hi he (fun b1 nD b2 nF nM hD ra q => lc_finM b1 nD b2 nF nM hD ra q) tk rm rs h)⟩
theorem LS.setLcM (k : Nat) {y : Str} {py spos : Pos} (hy : X.N[k]? = some y) (hyl : X.env.scope.names.lookup y = some .local)
    (hsw : swapsWith (.ListComp elt [⟨.Name x pt, iter, [], 0⟩] scope pos) (some (.Name y py)) spos.line X.env = pure true) (hc : X.calm = true) (hN : X.N.Nodup) (hi : LI X (.Name x pt) iter wi) (ok : BlkOk X.N X.env.scope scope [(x, i)])
    (hg : ∀ (s : Shared) (H : Hp) (C : Addr) (cl : List (Str × Addr)) (fp : List Addr), PG (Blk X scope s H C cl fp) (.Name x pt) (gName i))
    (he : ∀ (s : Shared) (H : Hp) (C : Addr) (cl : List (Str × Addr)) (fp : List Addr), LE (Blk X scope s H C cl fp) elt te)
    (hs : ∀ v, foldedSetIterable iter X.env v = pure v := by intro _; rfl) :
    LS X (.Assign [.Name y py] (.ListComp elt [⟨.Name x pt, iter, [], 0⟩] scope pos) spos) (pSet k (pLcM wi i te)) := by
  refine ⟨fun σv H σ F M D tk rm rs h => ?_⟩
  refine WS.of (ps_setLc (own := [(x, i)]) (g := gName i) (te := EBlk X scope elt) hc hN hy hyl hsw WI.pi ok hg (fun _ _ _ _ _ => pts_nil) (fun s0 H0 C cl fp => ⟨fun pins s σ H Q I hh => hh s0 H0 C cl fp pins s I⟩) hs) ?_
  have q := lc1_t (Q := fun x M1 => D.nx (σ.set k (some x)) M1) (eQ := fun acc M2 => ∀ p, M2 p = none → D.nx (σ.set k (some (.ptr p))) (M2.put p (.lst acc))) (scope := scope) (elt := elt) hi he (fun b1 nD b2 nF nM hD ra q => lc_finM b1 nD b2 nF nM hD ra q) tk rm rs h
  have m : ∀ v H', LQ X.K F M H (fun x M1 => D.nx (σ.set k (some x)) M1) v H' → gName k v σv H' (LD X.K F M H D).nx := fun v H' ⟨F1, M1, y, b1, ry, hy⟩ => ⟨F1, M1, _, b1, (rs.same b1.sm).set k ry, hy⟩
  refine WI.mono q fun J H1 h1 => ?_
  intro D' nD
  obtain ⟨W, w0, w1⟩ := h1 D' nD
  refine ⟨W, w0, fun j m' H' w => ?_⟩
  rcases w1 j m' H' w with ⟨s1, s2⟩ | s
  · exact .inl ⟨s1, m _ _ s2⟩
  · exact .inr s
end
theorem w_lc2 {wi wi1 : PTI} {i i1 : Nat} {te : PTE} {E : PXK} {σ : PSt} {M : Mem} {Q : PQ} (h : wi E σ M fun xs M1 => pLcO i wi1 i1 te xs [] σ M1 fun acc M2 => Q (.lst acc) M2) : pLc2 wi i wi1 i1 te E σ M Q := h
theorem w_lc2M {wi wi1 : PTI} {i i1 : Nat} {te : PTE} {E : PXK} {σ : PSt} {M : Mem} {Q : PQ} (h : wi E σ M fun xs M1 => pLcO i wi1 i1 te xs [] σ M1 fun acc M2 => ∀ p, M2 p = none → Q (.ptr p) (M2.put p (.lst acc))) : pLc2M wi i wi1 i1 te E σ M Q := h
/-- the inner walk of pure elements -/
theorem lcI_map {β : Type} {i1 : Nat} {te : PTE} {σ : PSt} {M : Mem} {Q : List PV → Mem → Prop} (h f : β → PV) : ∀ (ys : List β) (acc : List PV), acc.length + ys.length ≤ sizeLine → (∀ y ∈ ys, ∀ R : PQ, R (f y) M → te noX (σ.set i1 (some (h y))) M R) → Q (acc ++ ys.map f) M → pLcI i1 te (ys.map h) acc σ M Q
  | [], acc, _, _, q => by rw [List.map_nil, List.append_nil] at q; exact q
  | y :: ys, acc, hl, he, q => by
    rw [List.length_cons] at hl
    refine he y List.mem_cons_self _ ⟨by omega, lcI_map h f ys (acc ++ [f y]) (by rw [List.length_append]; show acc.length + 1 + ys.length ≤ _; omega) (fun z hz => he z (List.mem_cons_of_mem _ hz)) ?_⟩
    rw [List.append_assoc]
    exact q
/-- both walks of pure elements: one row after the other -/
theorem lcO_map {α β : Type} {i i1 : Nat} {wi1 : PTI} {te : PTE} {σ : PSt} {M : Mem} {Q : List PV → Mem → Prop} (h : α → PV) (g : β → PV) (ys : α → List β) (f : α → β → PV) : ∀ (xs : List α) (acc : List PV), acc.length + ((xs.map fun x => (ys x).map (f x)).flatten).length ≤ sizeLine →
    (∀ x ∈ xs, ∀ R : List PV → Mem → Prop, R ((ys x).map g) M → wi1 noX ((σ.set i1 none).set i (some (h x))) M R) → (∀ x ∈ xs, ∀ y ∈ ys x, ∀ R : PQ, R (f x y) M → te noX (((σ.set i1 none).set i (some (h x))).set i1 (some (g y))) M R) →
    Q (acc ++ (xs.map fun x => (ys x).map (f x)).flatten) M → pLcO i wi1 i1 te (xs.map h) acc σ M Q
  | [], acc, _, _, _, q => by rw [List.map_nil, List.flatten_nil, List.append_nil] at q; exact q
  | x :: xs, acc, hl, hw, he, q => by
    rw [List.map_cons, List.flatten_cons] at hl q
    rw [List.length_append, List.length_map] at hl
    refine hw x List.mem_cons_self _ (lcI_map g (f x) (ys x) acc (by omega) (fun y hy R hR => he x List.mem_cons_self y hy R hR) (lcO_map h g ys f xs _ (by rw [List.length_append, List.length_map]; omega) (fun z hz => hw z (List.mem_cons_of_mem _ hz)) (fun z hz => he z (List.mem_cons_of_mem _ hz)) ?_))
    rw [List.append_assoc]
    exact q
theorem w_lcM {wi : PTI} {i : Nat} {te : PTE} {E : PXK} {σ : PSt} {M : Mem} {Q : PQ} (h : wi E σ M fun xs M1 => pLcI i te xs [] σ M1 fun acc M2 => ∀ p, M2 p = none → Q (.ptr p) (M2.put p (.lst acc))) : pLcM wi i te E σ M Q := h
end PL
set_option Elab.async false
set_option linter.all false
namespace PL
open PySem PySem.Spec PyProof.Rows PyProof L2 PySem.W
/-! ### a constant of the program that is data: a global tuple -/
/-- v stands in the scope K and is x -/
def KIs (K : PySem.W.Frag) (x : PV) (v : Value) : Prop := ∃ u : V, RelV u v ∧ ∀ F, R K F x u
theorem KIs.int {K : PySem.W.Frag} {i : Int} {t : Tok} : KIs K (.int i) (.int i t) := ⟨.int i, ⟨t, rfl⟩, fun _ => .int i⟩
def KAll (K : PySem.W.Frag) : List PV → List Value → Prop
  | [], [] => True
  | x :: xs, v :: vs => KIs K x v ∧ KAll K xs vs
  | _, _ => False
theorem KAll.vals {K : PySem.W.Frag} : ∀ {xs : List PV} {vs : List Value}, KAll K xs vs → ∃ us : List V, Vals us vs ∧ ∀ F, RAll K F xs us
  | [], [], _ => ⟨[], .nil, fun _ => .nil⟩
  | x :: xs, v :: vs, h => by
    obtain ⟨⟨u, hu, hr⟩, ht⟩ := h
    obtain ⟨us, h1, h2⟩ := ht.vals
    exact ⟨u :: us, .cons hu h1, fun F => .cons (hr F) (h2 F)⟩
theorem KIs.tup {K : PySem.W.Frag} {xs : List PV} {a : Addr} {o : Obj} {its : List Value} {n : Nat} (hk : K.lookup a = some o) (hc : o.cls = .type "tuple") (hd : o.data = .seq its.toArray n) (hz : its.length ≤ sizeLine) (h : KAll K xs its) : KIs K (.tup xs) (.ref a) := by
  obtain ⟨us, h1, h2⟩ := h.vals
  exact ⟨.ref a, rfl, fun F => .tup (.inr ⟨o, its.toArray, n, hk, hc, hd, by simpa using hz, by simpa using h1⟩) (h2 F)⟩
theorem LE.globT {X : Cx} {x : Str} {pos : Pos} {pv : PV} (hg : Gl X x) (hm : ∃ v, X.mg x = some v ∧ KIs X.K pv v) (hd : (x == ("__debug__" : Str)) = false := by decide) : LE X (.Name x pos) (pC pv) := by
  refine ⟨fun σv H σ F M Q E tk rm rs h => ?_⟩
  obtain ⟨v, hm, u, hu, hr⟩ := hm
  exact WE.of (pe_glob (v := u) hg hm hu hd) (LQ.now rm (hr F) h)
end PL
set_option Elab.async false
set_option linter.all false
namespace PL
open PySem PySem.Spec PyProof.Rows PyProof L2 PySem.W
section
variable {X : Cx} {es : List Expr} {b : Expr} {t : TA} {tb : TE} {pos p1 p2 : Pos}
/-- (e, ..) + t, of which it is known that it has no dict -/
def kNewT (xs : List V) (H : Hp) (Q : VK) : Prop := ∀ p o, o.dict = none → H p = none → Q (.ref p) (upd H p (.frz o (.tup xs)))
def tTupN (t : TA) : TE := fun σ H Q => t σ H fun xs H1 => xs.length ≤ sizeLine ∧ kNewT xs H1 Q
theorem pe_tupN {x1} (h : PA X es t) : PE X (.Tuple es x1 pos) (tTupN t) := by
  refine ⟨fun pins s σ H Q I hq => ?_⟩
  refine wpAny_Tuple_spliced (thn (h.run pos pins s σ H _ I hq) fun us s1 ⟨xs, H1, I1, r, z, q⟩ => ⟨by rw [← r.length]; exact z, ?_⟩)
  have hf : H1 s1.heap.objs.size = none := I1.hok.fresh (Nat.le_refl _)
  refine ⟨.ref s1.heap.objs.size, upd H1 s1.heap.objs.size (.frz { cls := .type "tuple", data := .seq us.toArray } (.tup xs)), I1.laid (t' := s1.toks) (fun b u e => Heap.get?_push_of_some _ e) (Nat.le_refl _) ?_, rfl, q _ _ rfl hf⟩
  exact ⟨Heap.get?_push_size _ rfl, z, us, r, ⟨_, Heap.get?_push_size _ rfl, rfl, _, rfl⟩⟩
def rCatN (K : PySem.W.Frag) : R2 := fun x y H Q => ∃ a b o xs ys, x = .ref a ∧ y = .ref b ∧ H a = some (.frz o (.tup xs)) ∧ o.dict = none ∧ xs ≠ [] ∧ SqT K H b ys ∧ xs.length + ys.length ≤ sizeLine ∧
  (ys = [] → Q (.ref a) H) ∧ (ys ≠ [] → kNewT (xs ++ ys) H Q)
theorem op_catN : OpR X (binaryOp .Add) (rCatN X.K) := by
  intro pins s σ H x y v u Q I rx ry h
  obtain ⟨a, b, o, xs, ys, rfl, rfl, ha, _, hx, hb, hz, q1, q2⟩ := h
  cases rx
  cases ry
  obtain ⟨its, r1, p1, _⟩ := I.tuple (.inl (.inr ⟨o, ha⟩))
  obtain ⟨its2, r2, p2, _⟩ := I.tuple hb
  refine HT.cat_tup p1 p2 (fun z => hx (r1.nil_iff.mp z)) (fun z => ⟨.ref a, H, I, rfl, q1 (r2.nil_iff.mp z)⟩) (fun z => ?_) (by rw [← r1.length, ← r2.length]; exact hz)
  refine ⟨.ref s.heap.objs.size, _, I.laid (t' := s.toks) (o := .frz { cls := .type "tuple", data := .seq (its ++ its2).toArray } (.tup (xs ++ ys))) (fun b ob q => Heap.get?_push_of_some _ q) (Nat.le_refl _) ?_, rfl, q2 (fun w => z (r2.nil_iff.mpr w)) _ _ rfl (I.hok.fresh (Nat.le_refl _))⟩
  exact ⟨Heap.get?_push_size _ rfl, by rw [List.length_append]; exact hz, _, r1.append r2, IsTup.new _ _⟩
/-- a method of a tuple without a dict -/
def tBMT (r : V → List V → Hp → VK → Prop) (to : TE) (t : TA) : TE := fun σ H Q => to σ H fun x H1 => (∃ a o xs, x = .ref a ∧ H1 a = some (.frz o (.tup xs)) ∧ o.dict = none) ∧ t σ H1 fun xs H2 => r x xs H2 Q
theorem pe_bmT {o e : Expr} {es : List Expr} {to : TE} {t : TA} {name : Str} {apos cpos : Pos} {id : String} {r : V → List V → Hp → VK → Prop} (pa : PlainAttrs "tuple") (slot : Slot "tuple" name id) (hty : typeOf (.builtin id) = pure (.type "method_descriptor")) (hm : MtR X id r) (ho : PE X o to) (ha : PA X (e :: es) t)
    (hbase : attributeBase o name X.env (eval o X.env) = eval o X.env := by rfl)
    (hfew : ((backTo cpos (starEach (e :: es) X.env)).all (fun x => !x.1) && (backToKw cpos (keywordEach [] X.env)).all (fun x => x.1.isSome)
      && decide ((e :: es).length + ([] : List Keyword).length + (if ([] : List Keyword).isEmpty then 0 else 1) < 30)) = true := by rfl)
    (hline : (apos.endLine == cpos.line) = true := by rfl) (hs : starEach (e :: es) X.env = (false, eval e X.env) :: starEach es X.env := by rfl) (hplain : (backTo cpos (starEach es X.env)).any (·.1) = false := by rfl) :
    PE X (.Call (.Attribute o name apos) (e :: es) [] cpos) (tBMT r to t) := by
  refine ⟨fun pins s σ H Q I h => ?_⟩
  refine wpAny_Call_method_late hbase hfew hline rfl (thn (ho.run pins s σ H _ I h) fun v s1 ⟨x, H1, I1, r1, ty, q1⟩ => ?_)
  obtain ⟨a, o', xs, rfl, hH, hd⟩ := ty
  obtain rfl : v = Value.ref a := r1
  obtain ⟨its, _, pl, _⟩ := I1.tuple (.inl (.inr ⟨o', hH⟩))
  have hg : s1.heap.get? a = some o' := (I1.hok a _ hH).1
  refine ⟨"tuple", id, pa, slot, hty, pl.typeIs, fun a' e' => ⟨o', by cases e'; exact hg, hd⟩, ?_⟩
  have hA := ha.run cpos pins s1 σ H1 _ I1 q1
  rw [hs] at hA ⊢
  refine Calls.callWith_builtin (by show (false || (backTo cpos (starEach es X.env)).any (·.1)) = false; rw [hplain] <;> rfl) (Calls.evalArgs_plain ?_)
  exact thn hA fun us s2 ⟨vs, H2, I2, r2, q2⟩ => hm pins s2 σ H2 (.ref a) vs _ us Q I2 rfl r2 q2
end
section
variable {X : Cx} {e a b : Expr} {es : List Expr} {te ta tb : PTE} {t : PTA} {pos : Pos}
def oCatN (xs : List PV) (y : PV) (M : Mem) (Q : PQ) : Prop := match y with
  | .tup ys => xs.length + ys.length ≤ sizeLine ∧ Q (.tpd (xs ++ ys)) M
  | _ => False
def pCatN (t : PTA) (tb : PTE) : PTE := fun E σ M Q => t E σ M fun xs M1 => tb E σ M1 fun y M2 => oCatN xs y M2 Q
theorem LE.catN {x1} {p1 : Pos} (h : LA X es t) (hb : LE X b tb) (hn : 0 < es.length ∧ es.length ≤ 1000 := by decide) : LE X (.BinOp (.Tuple es x1 p1) .Add b pos) (pCatN t tb) := by
  refine ⟨fun σv H σ F M Q E tk rm rs hh => WE.of (pe_op op_catN (pe_tupN WA.pa) WE.pe) ?_⟩
  refine (h.run σv H σ F M _ E tk rm rs hh).mono ?_
  rintro vs H1 ⟨hl, F1, M1, xs, b1, rx, hx⟩
  refine ⟨by rw [hl]; exact Nat.le_of_lt (small1000 hn.2), fun p o hd np => ?_⟩
  have b2 := b1.rm.beh (o := .frz o (.tup vs)) np
  refine (hb.run σv _ σ _ _ _ E (tk.tr (b1.trans b2)) b2.rm (rs.same (b1.trans b2).sm) hx).mono ?_
  rintro v H2 ⟨F2, M2, y, b3, ry, hy⟩
  unfold oCatN at hy
  split at hy
  · rename_i ys
    cases ry with
    | tup e' q =>
      rename_i c ws
      have ha : F2 p = some (.frz o (.tup vs)) := b3.sm _ _ upd_same
      have rx2 := (rx.same b2.sm).same b3.sm
      have hne : vs ≠ [] := fun z => by
        subst z
        rw [List.length_nil] at hl
        omega
      refine ⟨p, c, o, vs, ws, rfl, rfl, b3.rm.fr _ _ ha, hd, hne, sqT_same b3.rm.fr e', by rw [← rx.length, ← q.length]; exact hy.1, fun z => ?_, fun z p2 o2 hd2 np2 => ?_⟩
      · subst z
        have z : ys = [] := List.eq_nil_of_length_eq_zero q.length
        subst z
        have h2 := hy.2
        rw [List.append_nil] at h2
        exact ⟨F2, M2, _, (b1.trans b2).trans b3, .tpd ha hd rx2, h2⟩
      · have b4 := b3.rm.beh (o := .frz o2 (.tup (vs ++ ws))) np2
        exact ⟨_, M2, _, ((b1.trans b2).trans b3).trans b4, .tpd upd_same hd2 ((rx2.append q).same b4.sm), hy.2⟩
  · exact hy.elim
/-- it is a tuple -/
def asT : PV → PV
  | .tpd xs => .tup xs
  | x => x
theorem R.asT {K : PySem.W.Frag} {F : Hp} {x : PV} {v : V} (r : R K F x v) : R K F (asT x) v := by
  cases x with
  | tpd xs =>
    cases r with
    | tpd h d q => exact .tup (.inl (.inr ⟨_, h⟩)) q
  | _ => exact r
def pAsT (te : PTE) : PTE := fun E σ M Q => te E σ M fun x M1 => Q (asT x) M1
theorem LE.asT (h : LE X e te) : LE X e (pAsT te) := by
  refine ⟨fun σv H σ F M Q E tk rm rs hh => (h.run σv H σ F M _ E tk rm rs hh).mono ?_⟩
  rintro v H1 ⟨F1, M1, x, b1, rx, hx⟩
  exact ⟨F1, M1, _, b1, rx.asT, hx⟩
/-! ### t.index(i) -/
def kTidx (xs : List PV) (x : PV) (M : Mem) (Q : PQ) : Prop := match x with
  | .int z => need (intsOf xs) fun ns => ∃ j : Nat, ns[j]? = some z ∧ (∀ m, m < j → ns[m]? ≠ some z) ∧ Q (.int j) M
  | _ => False
def kTp (o : PV) (k : List PV → Prop) : Prop := match o with
  | .tpd xs => k xs
  | _ => False
def pTIdx (to te : PTE) : PTE := fun E σ M Q => to E σ M fun o M1 => kTp o fun xs => te E σ M1 fun x M2 => kTidx xs x M2 Q
theorem LE.tidx {apos : Pos} (ho : LE X a ta) (he : LE X e te) (hbase : attributeBase a "index" X.env (eval a X.env) = eval a X.env := by rfl)
    (hfew : ((backTo pos (starEach [e] X.env)).all (fun x => !x.1) && (backToKw pos (keywordEach [] X.env)).all (fun x => x.1.isSome) && decide ([e].length + ([] : List Keyword).length + (if ([] : List Keyword).isEmpty then 0 else 1) < 30)) = true := by rfl)
    (hline : (apos.endLine == pos.line) = true := by rfl) (hs : starEach [e] X.env = (false, eval e X.env) :: starEach [] X.env := by rfl) (hplain : (backTo pos (starEach [] X.env)).any (·.1) = false := by rfl) :
    LE X (.Call (.Attribute a "index" apos) [e] [] pos) (pTIdx ta te) := by
  refine ⟨fun σv H σ F M Q E tk rm rs h => WE.of (pe_bmT PySem.F.plainAttrs_tuple PySem.F.slot_tuple_index PySem.F.type_tuple_index mt_tup_indexI WE.pe (pa_cons WE.pe pa_nil hs) hbase hfew hline hs hplain) ?_⟩
  refine (ho.run σv H σ F M _ E tk rm rs h).mono ?_
  rintro v H1 ⟨F1, M1, x, b1, rx, hx⟩
  unfold kTp at hx
  split at hx
  · rename_i xs
    cases rx with
    | tpd hF hd q =>
      refine ⟨⟨_, _, _, rfl, b1.rm.fr _ _ hF, hd⟩, ?_⟩
      refine (he.run σv H1 σ F1 M1 _ E (tk.tr b1) b1.rm (rs.same b1.sm) hx).mono ?_
      rintro w H2 ⟨F2, M2, y, b2, ry, hy⟩
      unfold kTidx at hy
      split at hy
      · rename_i z
        cases ry
        obtain ⟨ns, e2, j, h1, h2, h3⟩ := need_of hy
        have q2 := q.same b2.sm
        rw [intsOf_eq e2] at q2
        have hq := b2.rm.fr _ _ (b2.sm _ _ hF)
        rw [q2.intsI] at hq
        exact ⟨_, ns, z, j, rfl, rfl, .inl (.inr ⟨_, hq⟩), h1, h2, F2, M2, _, b1.trans b2, .int _, h3⟩
      · exact hy.elim
  · exact hx.elim
theorem w_catN {E : PXK} {σ : PSt} {M : Mem} {Q : PQ} (h : t E σ M fun xs M1 => tb E σ M1 fun y M2 => oCatN xs y M2 Q) : pCatN t tb E σ M Q := h
theorem w_oCatN {xs ys : List PV} {M : Mem} {Q : PQ} (h1 : xs.length + ys.length ≤ sizeLine) (h : Q (.tpd (xs ++ ys)) M) : oCatN xs (.tup ys) M Q := ⟨h1, h⟩
theorem w_asT {E : PXK} {σ : PSt} {M : Mem} {Q : PQ} (h : te E σ M fun x M1 => Q (asT x) M1) : pAsT te E σ M Q := h
theorem w_tidx {E : PXK} {σ : PSt} {M : Mem} {Q : PQ} (h : ta E σ M fun o M1 => kTp o fun xs => te E σ M1 fun x M2 => kTidx xs x M2 Q) : pTIdx ta te E σ M Q := h
theorem w_kTp {xs : List PV} {k : List PV → Prop} (h : k xs) : kTp (.tpd xs) k := h
theorem w_kTidx {ns : List Int} {z : Int} {M : Mem} {Q : PQ} (j : Nat) (h1 : ns[j]? = some z) (h2 : ∀ m, m < j → ns[m]? ≠ some z) (h : Q (.int j) M) : kTidx (ns.map .int) (.int z) M Q := need_by (intsOf_map ns) ⟨j, h1, h2, h⟩
/-! ### xs + ys as a list that may change; the left one is forgotten -/
def oAddLM : PO2 := fun x y M Q => need (lstM M x) fun xs => need (lstM M y) fun ys => xs.length + ys.length ≤ sizeLine ∧ ∀ q, M q = none → Q (.ptr q) (M.put q (.lst (xs ++ ys)))
theorem LE.addLM (ha : LE X a ta) (hb : LE X b tb) : LE X (.BinOp a .Add b pos) (pBin oAddLM ta tb) := by
  refine LE.bin op_cat (fun F M H x y xv yv Q Qv rm rx ry h k => ?_) ha hb
  obtain ⟨xs, e1, h⟩ := need_of h
  obtain ⟨ys, e2, h⟩ := need_of h
  obtain ⟨a', vs, ev, hs, ra⟩ := R.lstM rm rx e1
  obtain ⟨b', ws, ew, hs2, rb⟩ := R.lstM rm ry e2
  subst ev ew
  exact ⟨_, _, vs, ws, rfl, rfl, hs, hs2, by rw [← ra.length, ← rb.length]; exact h.1, fun q nq => k _ _ ⟨F, _, _, rm.behNew nq (.lst (ra.append rb)), .ptr q, h.2 q (rm.nones nq).2⟩⟩
def oAddLD : PO2 := fun x y M Q => match x with
  | .ptr p => need (lstM M x) fun xs => need (lstM M y) fun ys => xs.length + ys.length ≤ sizeLine ∧ ∀ q, (M.drop p) q = none → Q (.ptr q) ((M.drop p).put q (.lst (xs ++ ys)))
  | _ => False
theorem LE.addLD (ha : LE X a ta) (hb : LE X b tb) : LE X (.BinOp a .Add b pos) (pBin oAddLD ta tb) := by
  refine LE.bin op_cat (fun F M H x y xv yv Q Qv rm rx ry h k => ?_) ha hb
  unfold oAddLD at h
  split at h
  · rename_i p
    obtain ⟨xs, e1, h⟩ := need_of h
    obtain ⟨ys, e2, h⟩ := need_of h
    obtain ⟨a', vs, ev, hs, ra⟩ := R.lstM rm rx e1
    obtain ⟨b', ws, ew, hs2, rb⟩ := R.lstM rm ry e2
    subst ev ew
    refine ⟨_, _, vs, ws, rfl, rfl, hs, hs2, by rw [← ra.length, ← rb.length]; exact h.1, fun q nq => k _ _ ?_⟩
    have b1 := rm.behDrop (p := p)
    exact ⟨F, _, _, b1.trans (b1.rm.behNew nq (.lst (ra.append rb))), .ptr q, h.2 q (b1.rm.nones nq).2⟩
  · exact h.elim
theorem w_addLM {x y : PV} {xs ys : List PV} {M : Mem} {Q : PQ} (e1 : lstM M x = some xs) (e2 : lstM M y = some ys) (c : xs.length + ys.length ≤ sizeLine) (h : ∀ q, M q = none → Q (.ptr q) (M.put q (.lst (xs ++ ys)))) : oAddLM x y M Q := need_by e1 (need_by e2 ⟨c, h⟩)
theorem w_addLD {p : Addr} {y : PV} {xs ys : List PV} {M : Mem} {Q : PQ} (e1 : M p = some (.lst xs)) (e2 : lstM M y = some ys) (c : xs.length + ys.length ≤ sizeLine) (h : ∀ q, (M.drop p) q = none → Q (.ptr q) ((M.drop p).put q (.lst (xs ++ ys)))) : oAddLD (.ptr p) y M Q := need_by (lstM_ptr e1) (need_by e2 ⟨c, h⟩)
/-- r = range(..), for x in r -/
theorem w_piVr {i : Nat} {lo hi : Int} {E : PXK} {σ : PSt} {M : Mem} {Q : List PV → Mem → Prop} (e : σ[i]? = some (some (.rng lo hi))) (hb : -(2 ^ 62) ≤ lo ∧ lo < 2 ^ 62 ∧ -(2 ^ 62) ≤ hi ∧ hi < 2 ^ 62) (h : Q (rngP lo (hi - lo).toNat) M) : piV (pVar i) E σ M Q := by
  show pVar i E σ M _
  unfold pVar
  rw [e]
  exact ⟨hb, h⟩
end
end PL
set_option Elab.async false
set_option linter.all false
namespace PL
open PySem PySem.Spec PyProof.Rows PyProof L2 PySem.W
section
variable {X : Cx} {a e : Expr} {to te : PTE} {pos : Pos}
theorem count_ints (z : Int) : ∀ (ys : List Int) (its : List Value), Vals (ys.map V.int) its → its.countP (eqU (.int z)) = ys.countP fun y => y == z
  | [], _, .nil => rfl
  | y :: ys, _, .cons r t => by
    obtain ⟨tk, rfl⟩ := r
    rw [List.countP_cons, List.countP_cons, count_ints z ys _ t]
    rfl
/-- t.count(i), t a tuple of ints -/
theorem mt_tup_countI : MtR X "tuple.count" (fun x xs H Q => ∃ p, ∃ ys : List Int, ∃ z, x = .ref p ∧ xs = [.int z] ∧ SqT X.K H p (ys.map V.int) ∧ Q (.int ((ys.countP fun y => y == z : Nat) : Int)) H) := by
  intro pins s σ H x xs v us Q I rx rs h
  obtain ⟨p, ys, z, rfl, rfl, hq, q⟩ := h
  cases rx
  obtain ⟨u, rfl, t, rfl⟩ := vals1 rs
  obtain ⟨its, r, pl, hz⟩ := I.tuple hq
  obtain ⟨⟨cls, dd, dt, sl⟩, ho, hc, n, hd⟩ := pl
  simp only at hc hd
  subst hc
  subst hd
  refine call_meets PySem.F.slot_tuple_count ⟨_, ho, rfl⟩ PySem.F.entry_tuple_count (PySem.F.args_tuple_count_2 _ _) (PySem.SeqAt.tuple_countAt p its.toArray n dd sl (.int z t) (eqU (.int z)))
    ⟨ho, fun w hw => mem_eqAt (x := .int z) ⟨t, rfl⟩ rfl r (flat_intsI ys) w (by simpa using hw), ⟨.int ((ys.countP fun y => y == z : Nat) : Int), H, I.tok _, ⟨s.toks, ?_⟩, q⟩⟩
  rw [← count_ints z ys its r]
def kTCnt (xs : List PV) (x : PV) (M : Mem) (Q : PQ) : Prop := match x with
  | .int z => need (intsOf xs) fun ns => Q (.int ((ns.countP fun y => y == z : Nat) : Int)) M
  | _ => False
def pTCnt (to te : PTE) : PTE := fun E σ M Q => to E σ M fun o M1 => kTp o fun xs => te E σ M1 fun x M2 => kTCnt xs x M2 Q
theorem LE.tcnt {apos : Pos} (ho : LE X a to) (he : LE X e te) (hbase : attributeBase a "count" X.env (eval a X.env) = eval a X.env := by rfl)
    (hfew : ((backTo pos (starEach [e] X.env)).all (fun x => !x.1) && (backToKw pos (keywordEach [] X.env)).all (fun x => x.1.isSome) && decide ([e].length + ([] : List Keyword).length + (if ([] : List Keyword).isEmpty then 0 else 1) < 30)) = true := by rfl)
    (hline : (apos.endLine == pos.line) = true := by rfl) (hs : starEach [e] X.env = (false, eval e X.env) :: starEach [] X.env := by rfl) (hplain : (backTo pos (starEach [] X.env)).any (·.1) = false := by rfl) :
    LE X (.Call (.Attribute a "count" apos) [e] [] pos) (pTCnt to te) := by
  refine ⟨fun σv H σ F M Q E tk rm rs h => WE.of (pe_bmT PySem.F.plainAttrs_tuple PySem.F.slot_tuple_count PySem.F.type_tuple_count mt_tup_countI WE.pe (pa_cons WE.pe pa_nil hs) hbase hfew hline hs hplain) ?_⟩
  refine (ho.run σv H σ F M _ E tk rm rs h).mono ?_
  rintro v H1 ⟨F1, M1, x, b1, rx, hx⟩
  unfold kTp at hx
  split at hx
  · rename_i xs
    cases rx with
    | tpd hF hd q =>
      refine ⟨⟨_, _, _, rfl, b1.rm.fr _ _ hF, hd⟩, ?_⟩
      refine (he.run σv H1 σ F1 M1 _ E (tk.tr b1) b1.rm (rs.same b1.sm) hx).mono ?_
      rintro w H2 ⟨F2, M2, y, b2, ry, hy⟩
      unfold kTCnt at hy
      split at hy
      · rename_i z
        cases ry
        obtain ⟨ns, e2, h3⟩ := need_of hy
        have q2 := q.same b2.sm
        rw [intsOf_eq e2] at q2
        have hq := b2.rm.fr _ _ (b2.sm _ _ hF)
        rw [q2.intsI] at hq
        exact ⟨_, ns, z, rfl, rfl, .inl (.inr ⟨_, hq⟩), F2, M2, _, b1.trans b2, .int _, h3⟩
      · exact hy.elim
  · exact hx.elim
theorem w_tcnt {E : PXK} {σ : PSt} {M : Mem} {Q : PQ} (h : to E σ M fun o M1 => kTp o fun xs => te E σ M1 fun x M2 => kTCnt xs x M2 Q) : pTCnt to te E σ M Q := h
theorem w_kTCnt {ns : List Int} {z : Int} {M : Mem} {Q : PQ} (h : Q (.int ((ns.countP fun y => y == z : Nat) : Int)) M) : kTCnt (ns.map .int) (.int z) M Q := need_by (intsOf_map ns) h
end
section
variable {X : Cx} {a b c e : Expr} {es : List Expr} {ta tb tc : PTE} {t : PTA} {pos : Pos}
/-! ### t + (e, ..), and with such a tuple ahead -/
def rCatR (K : PySem.W.Frag) : R2 := fun x y H Q => ∃ a b o xs ys, x = .ref a ∧ y = .ref b ∧ SqT K H a xs ∧ H b = some (.frz o (.tup ys)) ∧ o.dict = none ∧ ys ≠ [] ∧ xs.length + ys.length ≤ sizeLine ∧
  (xs = [] → Q (.ref b) H) ∧ (xs ≠ [] → kNewT (xs ++ ys) H Q)
theorem op_catR : OpR X (binaryOp .Add) (rCatR X.K) := by
  intro pins s σ H x y v u Q I rx ry h
  obtain ⟨a, b, o, xs, ys, rfl, rfl, ha, hb, _, hy, hz, q1, q2⟩ := h
  by_cases hx : xs = []
  · subst hx
    cases rx
    cases ry
    obtain ⟨its, r1, p1, _⟩ := I.tuple ha
    obtain ⟨its2, r2, p2, _⟩ := I.tuple (.inl (.inr ⟨o, hb⟩))
    cases r1
    exact cat_tup0 p1 p2 ⟨.ref b, H, I, rfl, q1 rfl⟩
  · cases rx
    cases ry
    obtain ⟨its, r1, p1, _⟩ := I.tuple ha
    obtain ⟨its2, r2, p2, _⟩ := I.tuple (.inl (.inr ⟨o, hb⟩))
    refine HT.cat_tup p1 p2 (fun z => hx (r1.nil_iff.mp z)) (fun z => absurd (r2.nil_iff.mp z) hy) (fun z => ?_) (by rw [← r1.length, ← r2.length]; exact hz)
    refine ⟨.ref s.heap.objs.size, _, I.laid (t' := s.toks) (o := .frz { cls := .type "tuple", data := .seq (its ++ its2).toArray } (.tup (xs ++ ys))) (fun b ob q => Heap.get?_push_of_some _ q) (Nat.le_refl _) ?_, rfl, q2 hx _ _ rfl (I.hok.fresh (Nat.le_refl _))⟩
    exact ⟨Heap.get?_push_size _ rfl, by rw [List.length_append]; exact hz, _, r1.append r2, IsTup.new _ _⟩
def oCatR (x : PV) (ys : List PV) (M : Mem) (Q : PQ) : Prop := match x with
  | .tup xs => xs.length + ys.length ≤ sizeLine ∧ Q (.tpd (xs ++ ys)) M
  | _ => False
def pCatR (ta : PTE) (t : PTA) : PTE := fun E σ M Q => ta E σ M fun x M1 => t E σ M1 fun ys M2 => oCatR x ys M2 Q
theorem LE.catR {x1} {p1 : Pos} (ha : LE X a ta) (h : LA X es t) (hn : 0 < es.length ∧ es.length ≤ 1000 := by decide) : LE X (.BinOp a .Add (.Tuple es x1 p1) pos) (pCatR ta t) := by
  refine ⟨fun σv H σ F M Q E tk rm rs hh => WE.of (pe_op op_catR WE.pe (pe_tupN WA.pa)) ?_⟩
  refine (ha.run σv H σ F M _ E tk rm rs hh).mono ?_
  rintro v H1 ⟨F1, M1, x, b1, rx, hx⟩
  refine (h.run σv H1 σ F1 M1 _ E (tk.tr b1) b1.rm (rs.same b1.sm) hx).mono ?_
  rintro ws H2 ⟨hl, F2, M2, ys, b2, ry, hy⟩
  refine ⟨by rw [hl]; exact Nat.le_of_lt (small1000 hn.2), fun p o hd np => ?_⟩
  have b3 := b2.rm.beh (o := .frz o (.tup ws)) np
  unfold oCatR at hy
  split at hy
  · rename_i xs
    have rx2 := (rx.same b2.sm).same b3.sm
    cases rx2 with
    | tup e' q =>
      rename_i c vs
      have ry2 := ry.same b3.sm
      have hne : ws ≠ [] := fun z => by
        subst z
        rw [List.length_nil] at hl
        omega
      refine ⟨c, p, o, vs, ws, rfl, rfl, sqT_same b3.rm.fr e', upd_same, hd, hne, by rw [← ry.length, ← q.length]; exact hy.1, fun z => ?_, fun z p2 o2 hd2 np2 => ?_⟩
      · subst z
        have z : xs = [] := List.eq_nil_of_length_eq_zero q.length
        subst z
        exact ⟨_, M2, _, (b1.trans b2).trans b3, .tpd upd_same hd ry2, hy.2⟩
      · have b4 := b3.rm.beh (o := .frz o2 (.tup (vs ++ ws))) np2
        exact ⟨_, M2, _, ((b1.trans b2).trans b3).trans b4, .tpd upd_same hd2 ((q.append ry2).same b4.sm), hy.2⟩
  · exact hy.elim
/-- t + u, t known to have no dict -/
def oCatD : PO2 := fun x y M Q => match x, y with
  | .tpd xs, .tup ys => xs ≠ [] ∧ xs.length + ys.length ≤ sizeLine ∧ Q (.tpd (xs ++ ys)) M
  | _, _ => False
theorem LE.catD (ha : LE X a ta) (hb : LE X b tb) : LE X (.BinOp a .Add b pos) (pBin oCatD ta tb) := by
  refine LE.bin op_catN (fun F M H x y xv yv Q Qv rm rx ry h k => ?_) ha hb
  cases rx <;> cases ry <;> first
    | exact h.elim
    | skip
  rename_i a' o xs vs hF hd q b' ys ws e2 q2
  obtain ⟨h1, h2, h3⟩ := h
  refine ⟨_, _, o, vs, ws, rfl, rfl, rm.fr _ _ hF, hd, fun z => h1 (List.eq_nil_of_length_eq_zero (by rw [q.length, z]; rfl)), sqT_same rm.fr e2, by rw [← q.length, ← q2.length]; exact h2, fun z => ?_, fun z p2 o2 hd2 np2 => ?_⟩
  · subst z
    have z : ys = [] := List.eq_nil_of_length_eq_zero q2.length
    subst z
    rw [List.append_nil] at h3
    exact k _ _ (LQ.now rm (.tpd hF hd q) h3)
  · have b4 := rm.beh (o := .frz o2 (.tup (vs ++ ws))) np2
    exact k _ _ ⟨_, M, _, b4, .tpd upd_same hd2 ((q.append q2).same b4.sm), h3⟩
/-! ### a <= b < c -/
theorem LE.lelt (ha : LE X a ta) (hb : LE X b tb) (hc : LE X c tc) (hm : lastMarks [CmpOp.LtE, CmpOp.Lt] [b, c] = false := by with_unfolding_all rfl) : LE X (.Compare a [.LtE, .Lt] [b, c] pos) (pChain (fun i j => decide (i ≤ j)) (fun i j => decide (i < j)) ta tb tc) :=
  LE.chain op_le op_lt hm ha hb hc
theorem LE.ltlt (ha : LE X a ta) (hb : LE X b tb) (hc : LE X c tc) (hm : lastMarks [CmpOp.Lt, CmpOp.Lt] [b, c] = false := by with_unfolding_all rfl) : LE X (.Compare a [.Lt, .Lt] [b, c] pos) (pChain (fun i j => decide (i < j)) (fun i j => decide (i < j)) ta tb tc) :=
  LE.chain op_lt op_lt hm ha hb hc
theorem LT.chain {op op' : CmpOp} {p q : Int → Int → Bool} (ho : OpR X (compareOp op) (rI0 fun i j => .bl (p i j))) (ho' : OpR X (compareOp op') (rI0 fun i j => .bl (q i j)))
    (hm : lastMarks [op, op'] [b, c] = false) (ha : LE X a ta) (hb : LE X b tb) (hc : LE X c tc) : LT X (.Compare a [op, op'] [b, c] pos) (pTest (pChain p q ta tb tc)) := by
  refine ⟨fun σv H σ F M Q E tk rm rs h => WT.of (pt_chain ho ho' WE.pe WE.pe WE.pe hm) ?_⟩
  refine seq2 ha hb tk rm rs h fun x y xv yv F2 M2 H2 bh rx ry h2 => ?_
  cases rx <;> cases ry <;> first
    | exact h2.elim
    | skip
  rename_i i j
  dsimp only at h2
  refine ⟨i, j, rfl, rfl, p i j, rfl, ?_⟩
  split
  · rename_i hp
    rw [if_pos hp] at h2
    refine (hc.run σv H2 σ F2 M2 _ E (tk.tr bh) bh.rm (rs.same bh.sm) h2).mono ?_
    rintro v H3 ⟨F3, M3, z, b3, rz, hz⟩
    cases rz <;> first
      | exact hz.elim
      | exact ⟨j, _, rfl, rfl, _, rfl, F3, M3, bh.trans b3, hz⟩
  · rename_i hp
    rw [if_neg hp] at h2
    exact ⟨_, rfl, F2, M2, bh, h2⟩
theorem LT.lele (ha : LE X a ta) (hb : LE X b tb) (hc : LE X c tc) (hm : lastMarks [CmpOp.LtE, CmpOp.LtE] [b, c] = false := by with_unfolding_all rfl) : LT X (.Compare a [.LtE, .LtE] [b, c] pos) (pTest (pChain (fun i j => decide (i ≤ j)) (fun i j => decide (i ≤ j)) ta tb tc)) :=
  LT.chain op_le op_le hm ha hb hc
theorem LT.lelt (ha : LE X a ta) (hb : LE X b tb) (hc : LE X c tc) (hm : lastMarks [CmpOp.LtE, CmpOp.Lt] [b, c] = false := by with_unfolding_all rfl) : LT X (.Compare a [.LtE, .Lt] [b, c] pos) (pTest (pChain (fun i j => decide (i ≤ j)) (fun i j => decide (i < j)) ta tb tc)) :=
  LT.chain op_le op_lt hm ha hb hc
theorem LT.ltlt (ha : LE X a ta) (hb : LE X b tb) (hc : LE X c tc) (hm : lastMarks [CmpOp.Lt, CmpOp.Lt] [b, c] = false := by with_unfolding_all rfl) : LT X (.Compare a [.Lt, .Lt] [b, c] pos) (pTest (pChain (fun i j => decide (i < j)) (fun i j => decide (i < j)) ta tb tc)) :=
  LT.chain op_lt op_lt hm ha hb hc
theorem w_catR {E : PXK} {σ : PSt} {M : Mem} {Q : PQ} (h : ta E σ M fun x M1 => t E σ M1 fun ys M2 => oCatR x ys M2 Q) : pCatR ta t E σ M Q := h
theorem w_oCatR {xs ys : List PV} {M : Mem} {Q : PQ} (h1 : xs.length + ys.length ≤ sizeLine) (h : Q (.tpd (xs ++ ys)) M) : oCatR (.tup xs) ys M Q := ⟨h1, h⟩
theorem w_oCatD {xs ys : List PV} {M : Mem} {Q : PQ} (h0 : xs ≠ []) (h1 : xs.length + ys.length ≤ sizeLine) (h : Q (.tpd (xs ++ ys)) M) : oCatD (.tpd xs) (.tup ys) M Q := ⟨h0, h1, h⟩
end
end PL
set_option Elab.async false
set_option linter.all false
set_option maxRecDepth 100000
namespace PL
open PySem PySem.Spec PyProof.Rows L2
section
variable {X : Cx} {a b : Expr} {ta tb : PTE} {pos : Pos}
/-! ### [..] * n, a list that may change -/
def oRepM : PO2 := fun x y M Q => match x, y with
  | .lst xs, .int k => (0 ≤ k ∧ k < 2 ^ 62) ∧ xs.length * k.toNat ≤ sizeLine ∧ ∀ q, M q = none → Q (.ptr q) (M.put q (.lst (List.replicate k.toNat xs).flatten))
  | _, _ => False
theorem LE.repM (ha : LE X a ta) (hb : LE X b tb) : LE X (.BinOp a .Mult b pos) (pBin oRepM ta tb) := by
  refine LE.bin op_rep (fun F M H x y xv yv Q Qv rm rx ry h k => ?_) ha hb
  unfold oRepM at h
  split at h
  · rename_i xs j
    cases ry
    cases rx with
    | lst hF ru =>
      rename_i p vs
      obtain ⟨⟨h1, h2⟩, h3, h4⟩ := h
      exact ⟨p, j, vs, rfl, rfl, rm.fr _ _ hF, by omega, by omega, by rw [← ru.length]; exact h3, fun l nl => k _ _ ⟨F, _, _, rm.behNew nl (.lst (ru.rep _)), .ptr l, h4 l (rm.nones nl).2⟩⟩
  · exact h.elim
theorem w_repM {k : Int} {xs : List PV} {M : Mem} {Q : PQ} (h0 : 0 ≤ k ∧ k < 2 ^ 62) (h1 : xs.length * k.toNat ≤ sizeLine) (h : ∀ q, M q = none → Q (.ptr q) (M.put q (.lst (List.replicate k.toNat xs).flatten))) : oRepM (.lst xs) (.int k) M Q := ⟨h0, h1, h⟩
end
end PL
set_option Elab.async false
set_option linter.all false
set_option maxRecDepth 100000
namespace PL
open PySem PySem.Spec PyProof.Rows L2
/-! ### [elt for x in xs], xs a list that may change, but doesn't meanwhile -/
def pLcV (x0 : PV) (xs0 : List PV) (i : Nat) (te : PTE) : List PV → List PV → PSt → Mem → (List PV → Mem → Prop) → Prop
  | [], acc => fun _ M Q => Q acc M
  | x :: xs, acc => fun σ M Q => te noX (σ.set i (some x)) M fun y M1 => acc.length < sizeLine ∧ lstOf M1 x0 = some xs0 ∧ pLcV x0 xs0 i te xs (acc ++ [y]) σ M1 Q
def pLcLv (tl : PTE) (i : Nat) (te : PTE) : PTE := fun E σ M Q => tl E σ M fun x M1 => need (lstOf M1 x) fun xs => pLcV x xs i te xs [] σ M1 fun acc M2 => Q (.lst acc) M2
section
variable {X : Cx} {elt iter : Expr} {scope : Scope} {x : Str} {i : Nat} {pos pt : Pos} {tl te : PTE}
theorem lcV_t (hi : LE X iter tl) (he : ∀ (s : Shared) (H : Hp) (C : Addr) (cl : List (Str × Addr)) (fp : List Addr), LE (Blk X scope s H C cl fp) elt te)
    {σv : L2.St} {H : Hp} {σ : PSt} {F : Hp} {M : Mem} {Q : PQ} {E : PXK} {eQ : List PV → Mem → Prop} (fin : ∀ {F1 M1 H1 F2 M2 H2} {D : Addr} {acc : List PV} {vacc : List V}, Beh X.K F M H F1 M1 H1 → H1 D = none → Beh X.K F M H F2 M2 H2 → F2 D = none → M2 D = none → H2 D = some (.lst vacc) → RAll X.K F2 acc vacc → eQ acc M2 → LQ X.K F M H Q (.ref D) H2)
    (tk : PTk X F M H E) (rm : RM X.K F M H) (rs : RS X.K F σ σv) (h : tl E σ M fun x0 M1 => need (lstOf M1 x0) fun xs => pLcV x0 xs i te xs [] σ M1 eQ) : tLc (iList X.K (WE X iter)) (gName i) tYes (EBlk X scope elt) [i] σv H (LQ X.K F M H Q) := by
  refine (hi.run σv H σ F M _ E tk rm rs h).mono ?_
  rintro v H1 ⟨F1, M1, x0, b1, rx, h1⟩
  obtain ⟨xs, e1, h1⟩ := need_of h1
  obtain ⟨a, vs0, ev, hs0, ra0⟩ := rx.lstI b1.rm e1
  subst ev
  refine ⟨a, rfl, ⟨vs0, hs0⟩, ?_⟩
  intro D nD
  obtain ⟨nF, nM⟩ := b1.rm.nones nD
  have b1' := b1.trans ((b1.rm.behHid (o := .lst []) nF nM).2 nD)
  refine ⟨fun j m H' => m = xs.length - j ∧ j ≤ xs.length ∧ ∃ F' M' acc vacc, Beh X.K F M H F' M' H' ∧ Same F1 F' ∧ F' D = none ∧ M' D = none ∧ H' D = some (.lst vacc) ∧ RAll X.K F' acc vacc ∧ lstOf M' x0 = some xs ∧ pLcV x0 xs i te (xs.drop j) acc σ M' eQ,
    ⟨xs.length, rfl, Nat.zero_le _, F1, M1, [], [], b1', Same.refl _, nF, nM, upd_same, .nil, e1, h1⟩, ?_⟩
  rintro j m H5 ⟨rfl, hj, F5, M5, acc5, vacc5, b5, sm5, nF5, nM5, hD5, ra5, e5, h5⟩
  obtain ⟨a2, vs, ev, hs2, ra⟩ := (rx.same sm5).lstI b5.rm e5
  cases ev
  by_cases hlt1 : j < xs.length
  · rw [List.drop_eq_getElem_cons hlt1] at h5
    obtain ⟨w, ew, rw'⟩ := ra.get (List.getElem?_eq_getElem hlt1)
    refine .inr ⟨⟨vs, w, hs2, ew⟩, _, fun H' n => ⟨_, (show xs.length - (j + 1) < xs.length - j by omega), n⟩, fun v1 H6 y1 => ?_⟩
    obtain ⟨rfl, y⟩ := y1
    have e3 := y vs hs2
    rw [ew] at e3
    cases e3
    have e2 : (wipe σv [i]).set i (some w) = σv.set i (some w) := by
      show ((σv.set i none).set i (some w)) = _
      rw [List.set_set]
    unfold gName
    rw [e2]
    refine ⟨?_, ?_⟩
    · show ((σv.set i (some w)).set i none) = σv.set i none
      rw [List.set_set]
    unfold tYes
    show ite (true = true) _ _
    rw [if_pos rfl]
    have rs6 : RS X.K F5 (σ.set i (some xs[j])) (σv.set i (some w)) := (rs.same b5.sm).set i rw'
    intro s0' H0' C' cl' fp'
    refine ((he s0' H0' C' cl' fp').run _ H6 _ F5 M5 _ noX PTk.no b5.rm rs6 h5).mono ?_
    rintro yv H7 ⟨F7, M7, y7, b7, r7, hz7, e7, h7⟩
    obtain ⟨q1, q2, q3⟩ := keepD nF5 nM5 hD5 b7
    refine ⟨vacc5, q3, by rw [← ra5.length]; exact hz7, rfl, hlt1, F7, M7, acc5 ++ [y7], vacc5 ++ [yv], ?_, sm5.trans b7.sm, q1, q2, upd_same, (ra5.same b7.sm).append (.cons r7 .nil), e7, h7⟩
    have b05 := b5.trans b7
    have xx : RM X.K F7 M7 (upd H7 D (.lst (vacc5 ++ [yv]))) := hid_app b05.rm q1 q2
    refine ⟨b05.sm, xx, ⟨fun c u hc nc => ?_, b05.fr.grow, fun c hc => ?_⟩, b05.fg⟩
    · have hcD : c ≠ D := fun z => by
        subst z
        exact absurd nD (b1.fr.there c (by rw [hc]; exact Option.some_ne_none _))
      rw [upd_ne hcD]
      exact b05.fr.keep c u hc nc
    · by_cases hcD : c = D
      · subst hcD; rw [upd_same]; exact Option.some_ne_none _
      · rw [upd_ne hcD]; exact b05.fr.there c hc
  · have e : j = xs.length := by omega
    subst e
    rw [List.drop_length] at h5
    exact .inl ⟨⟨vs, hs2, by rw [← ra.length]; exact Nat.le_refl _⟩, fin b1 nD b5 nF5 nM5 hD5 ra5 h5⟩
theorem LE.lcLv (hc : X.calm = true) (hN : X.N.Nodup) (hi : LE X iter tl) (ok : BlkOk X.N X.env.scope scope [(x, i)])
    (hg : ∀ (s : Shared) (H : Hp) (C : Addr) (cl : List (Str × Addr)) (fp : List Addr), PG (Blk X scope s H C cl fp) (.Name x pt) (gName i))
    (he : ∀ (s : Shared) (H : Hp) (C : Addr) (cl : List (Str × Addr)) (fp : List Addr), LE (Blk X scope s H C cl fp) elt te)
    (hs : ∀ v, foldedSetIterable iter X.env v = pure v := by intro _; rfl) :
    LE X (.ListComp elt [⟨.Name x pt, iter, [], 0⟩] scope pos) (pLcLv tl i te) :=
  ⟨fun σv H σ F M Q E tk rm rs h => WE.of (pe_lc (own := [(x, i)]) (g := gName i) (te := EBlk X scope elt) hc hN (pi_list WE.pe) ok hg (fun _ _ _ _ _ => pts_nil) (fun s0 H0 C cl fp => ⟨fun pins s σ H Q I hh => hh s0 H0 C cl fp pins s I⟩) hs) (lcV_t (scope := scope) hi he (fun b1 nD b2 nF nM hD ra q => lc_finF b1 nD b2 nF nM hD ra q) tk rm rs h)⟩
theorem LS.setLcLv (k : Nat) {y : Str} {py spos : Pos} (hy : X.N[k]? = some y) (hyl : X.env.scope.names.lookup y = some .local)
    (hsw : swapsWith (.ListComp elt [⟨.Name x pt, iter, [], 0⟩] scope pos) (some (.Name y py)) spos.line X.env = pure true) (hc : X.calm = true) (hN : X.N.Nodup) (hi : LE X iter tl) (ok : BlkOk X.N X.env.scope scope [(x, i)])
    (hg : ∀ (s : Shared) (H : Hp) (C : Addr) (cl : List (Str × Addr)) (fp : List Addr), PG (Blk X scope s H C cl fp) (.Name x pt) (gName i))
    (he : ∀ (s : Shared) (H : Hp) (C : Addr) (cl : List (Str × Addr)) (fp : List Addr), LE (Blk X scope s H C cl fp) elt te)
    (hs : ∀ v, foldedSetIterable iter X.env v = pure v := by intro _; rfl) :
    LS X (.Assign [.Name y py] (.ListComp elt [⟨.Name x pt, iter, [], 0⟩] scope pos) spos) (pSet k (pLcLv tl i te)) := by
  refine ⟨fun σv H σ F M D tk rm rs h => ?_⟩
  refine WS.of (ps_setLc (own := [(x, i)]) (g := gName i) (te := EBlk X scope elt) hc hN hy hyl hsw (pi_list WE.pe) ok hg (fun _ _ _ _ _ => pts_nil) (fun s0 H0 C cl fp => ⟨fun pins s σ H Q I hh => hh s0 H0 C cl fp pins s I⟩) hs) ?_
  have q := lcV_t (Q := fun x M1 => D.nx (σ.set k (some x)) M1) (eQ := fun acc M2 => D.nx (σ.set k (some (.lst acc))) M2) (scope := scope) (elt := elt) hi he (fun b1 nD b2 nF nM hD ra q => lc_finF (Q := fun x M1 => D.nx (σ.set k (some x)) M1) b1 nD b2 nF nM hD ra q) tk rm rs h
  have m : ∀ v H', LQ X.K F M H (fun x M1 => D.nx (σ.set k (some x)) M1) v H' → gName k v σv H' (LD X.K F M H D).nx := fun v H' ⟨F1, M1, y, b1, ry, hy⟩ => ⟨F1, M1, _, b1, (rs.same b1.sm).set k ry, hy⟩
  refine WE.mono q fun v0 H1 h0 => ?_
  obtain ⟨a, ea, hx, h1⟩ := h0
  refine ⟨a, ea, hx, ?_⟩
  intro D' nD
  obtain ⟨W, w0, w1⟩ := h1 D' nD
  refine ⟨W, w0, fun j m' H' w => ?_⟩
  rcases w1 j m' H' w with ⟨s1, s2⟩ | s
  · exact .inl ⟨s1, m _ _ s2⟩
  · exact .inr s
theorem w_lcLv {E : PXK} {σ : PSt} {M : Mem} {Q : PQ} (h : tl E σ M fun x M1 => need (lstOf M1 x) fun xs => pLcV x xs i te xs [] σ M1 fun acc M2 => Q (.lst acc) M2) : pLcLv tl i te E σ M Q := h
/-- pure elements -/
theorem lcV_map {α : Type} {x0 : PV} {xs0 : List PV} {σ : PSt} {M : Mem} {Q : List PV → Mem → Prop} (h f : α → PV) (hl : lstOf M x0 = some xs0) : ∀ (ys : List α) (acc : List PV), acc.length + ys.length ≤ sizeLine → (∀ y ∈ ys, ∀ R : PQ, R (f y) M → te noX (σ.set i (some (h y))) M R) → Q (acc ++ ys.map f) M → pLcV x0 xs0 i te (ys.map h) acc σ M Q
  | [], acc, _, _, q => by rw [List.map_nil, List.append_nil] at q; exact q
  | y :: ys, acc, hz, he, q => by
    rw [List.length_cons] at hz
    refine he y List.mem_cons_self _ ⟨by omega, hl, lcV_map h f hl ys (acc ++ [f y]) (by rw [List.length_append]; show acc.length + 1 + ys.length ≤ _; omega) (fun z hz => he z (List.mem_cons_of_mem _ hz)) ?_⟩
    rw [List.append_assoc]
    exact q
end
end PL
set_option Elab.async false
set_option linter.all false
set_option maxRecDepth 100000
namespace PL
open PySem PySem.Spec PyProof.Rows L2
section
variable {X : Cx} {a b c e : Expr} {ta tb tc te to : PTE} {pos p : Pos} {es : List Expr} {t : PTA} {x : Str}
/-! sorted of a list of data that are alike (tuples in tuples) -/
def sortZ {α : Type} (xs : List α) (ds : List PyData) : List α := ((xs.zip ds).mergeSort (PySem.W.dataLe false Prod.snd)).map Prod.fst
theorem each_zip {K : PySem.W.Frag} {H : Hp} : ∀ {xs : List V} {ds : List PyData} {us : List Value}, DpAll K H xs ds → Vals xs us → PySem.W.EachIs (fun (u : Value) (b : V × PyData) => RelV b.1 u) us (xs.zip ds)
  | _, _, _, .nil, .nil => .nil
  | _, _, _, .cons _ r, .cons h t => .cons h (each_zip r t)
theorem each_reads {X : Cx} {pins : List (Addr × Obj)} {s : Shared} {σ : L2.St} {H : Hp} (I : L2.Inv X pins σ H s) : ∀ {xs : List V} {ds : List PyData} {us : List Value}, DpAll X.K H xs ds → Vals xs us → PySem.W.EachIs (fun (u : Value) (b : V × PyData) => ∃ as, Reads s.heap u b.2 as) us (xs.zip ds)
  | _, _, _, .nil, .nil => .nil
  | _, _, _, .cons d r, .cons h t => .cons (Dp.reads I _ _ _ d h) (each_reads I r t)
theorem zip_ds {K : PySem.W.Frag} {H : Hp} : ∀ {xs : List V} {ds : List PyData}, DpAll K H xs ds → (xs.zip ds).map Prod.snd = ds ∧ (xs.zip ds).length = xs.length
  | _, _, .nil => ⟨rfl, rfl⟩
  | _, _, .cons _ r => ⟨congrArg (_ :: ·) (zip_ds r).1, congrArg (· + 1) (zip_ds r).2⟩
theorem vals_each : ∀ {us : List Value} {bs : List (V × PyData)}, PySem.W.EachIs (fun (u : Value) (b : V × PyData) => RelV b.1 u) us bs → Vals (bs.map Prod.fst) us
  | _, _, .nil => .nil
  | _, _, .cons h t => .cons h (vals_each t)
def rSortedD (K : PySem.W.Frag) : List V → Hp → VK → Prop := fun vs H Q => ∃ (a : Addr) (xs : List V) (ds : List PyData), vs = [V.ref a] ∧ SqL K H a xs ∧ DpAll K H xs ds ∧ PySem.W.AllAlike ds ∧ PySem.W.Sortable ds ∧ (∀ d ∈ ds, d.depth ≤ 60) ∧
  ∀ p, H p = none → Q (.ref p) (upd H p (.lst (sortZ xs ds)))
theorem cr_sortedD (hu : X.A.units + 65 < cLine) : CallR X (.builtin "sorted") (rSortedD X.K) := by
  intro pins s σ H vs us Q I r h
  obtain ⟨a, xs, ds, rfl, hs, hd, hal, hk, hdep, q⟩ := h
  obtain ⟨its, rv, hl, hz⟩ := I.list hs
  rw [Vals.ref1 r]
  have hzd := zip_ds hd
  refine PySem.W.sorted_data (β := V × PyData) (bs := xs.zip ds) (enc := Prod.snd) hl.isList (each_zip hd rv) (each_reads I hd rv) (by rw [hzd.1]; exact hal) (by rw [hzd.1]; exact hk) (by rw [hzd.2]; exact hz) (fun b hb => ?_) fun out hlo ho => ?_
  · have := hdep b.2 (by rw [← hzd.1]; exact List.mem_map_of_mem hb)
    omega
  · obtain ⟨ep, he'⟩ := PyProof.Rows.sortedAll_at s.heap its out.toArray
    have hv : Vals (sortZ xs ds) out := vals_each ho
    have hlen : (sortZ xs ds).length ≤ sizeLine := by
      rw [hv.length, hlo, hzd.2]
      exact hz
    exact ⟨.ref _, upd H (s.heap.objs.size + 1) (.lst (sortZ xs ds)), I.laid (t' := s.toks) (fun _ _ => PyProof.Rows.sortedAll_old) (Nat.le_succ _) ⟨hlen, out, ep, hv, he'⟩, rfl, q _ (I.hok.fresh (Nat.le_succ _))⟩
def kSortD (x : PV) (M : Mem) (Q : PQ) : Prop := need (lstOf M x) fun xs => need (toDs xs) fun ds => PySem.W.AllAlike ds ∧ PySem.W.Sortable ds ∧ (∀ d ∈ ds, d.depth ≤ 60) ∧ Q (.lst (sortZ xs ds)) M
theorem rall_zip {K : PySem.W.Frag} {F : Hp} : ∀ {xs : List PV} {vs : List V}, RAll K F xs vs → ∀ p ∈ xs.zip vs, R K F p.1 p.2
  | _, _, .nil, _, h => absurd h List.not_mem_nil
  | _, _, .cons h t, p, hp => by
    rw [List.zip_cons_cons] at hp
    rcases List.mem_cons.mp hp with rfl | hp
    · exact h
    · exact rall_zip t p hp
theorem rall_of {K : PySem.W.Frag} {F : Hp} : ∀ {zs : List (PV × V)}, (∀ p ∈ zs, R K F p.1 p.2) → RAll K F (zs.map Prod.fst) (zs.map Prod.snd)
  | [], _ => .nil
  | z :: zs, h => .cons (h z List.mem_cons_self) (rall_of fun p hp => h p (List.mem_cons_of_mem _ hp))
theorem rall_sortZ {K : PySem.W.Frag} {F : Hp} {xs : List PV} {vs : List V} {ds : List PyData} (ra : RAll K F xs vs) : RAll K F (sortZ xs ds) (sortZ vs ds) := by
  have hl : xs.length = vs.length := ra.length
  have e1 : xs.zip ds = ((xs.zip vs).zip ds).map fun p => (p.1.1, p.2) := by
    have : xs = (xs.zip vs).map Prod.fst := (List.map_fst_zip (by omega)).symm
    conv => lhs; rw [this]
    rw [List.zip_map_left]
    rfl
  have e2 : vs.zip ds = ((xs.zip vs).zip ds).map fun p => (p.1.2, p.2) := by
    have : vs = (xs.zip vs).map Prod.snd := (List.map_snd_zip (by omega)).symm
    conv => lhs; rw [this]
    rw [List.zip_map_left]
    rfl
  unfold sortZ
  rw [e1, e2, ← PySem.W.sort_maps (r := PySem.W.dataLe false Prod.snd) (fun p : (PV × V) × PyData => (p.1.1, p.2)) (fun _ _ _ _ => rfl), ← PySem.W.sort_maps (r := PySem.W.dataLe false Prod.snd) (fun p : (PV × V) × PyData => (p.1.2, p.2)) (fun _ _ _ _ => rfl), List.map_map, List.map_map]
  have := rall_of (K := K) (F := F) (zs := (((xs.zip vs).zip ds).mergeSort (PySem.W.dataLe false Prod.snd)).map Prod.fst) fun p hp => by
    obtain ⟨q, hq, rfl⟩ := List.mem_map.mp hp
    exact rall_zip ra _ (List.of_mem_zip (a := q.1) (b := q.2) ((List.mergeSort_perm _ _).mem_iff.mp hq)).1
  rw [List.map_map, List.map_map] at this
  exact this
theorem LE.sortedD (hu : X.A.units + 65 < cLine) (hg : Gl X "sorted") (hm : X.mg "sorted" = none) (ha : LA X [e] t) (he : starEach [e] X.env = (false, eval e X.env) :: starEach [] X.env := by rfl) : LE X (.Call (.Name "sorted" p) [e] [] pos) (pCallB (on1 kSortD) t) := by
  refine LE.callB (cr_sortedD hu) (fun F M H xs vs Q Qv rm rx h k => ?_) hg hm (by decide +kernel) ha (he := he)
  obtain ⟨x, ex, h1⟩ := on1_of h
  subst ex
  obtain ⟨v, ev, rx1⟩ := rx.one
  subst ev
  obtain ⟨ys, e1, h2⟩ := need_of h1
  obtain ⟨ds, e2, h3, h4, h5, h6⟩ := need_of h2
  obtain ⟨q, ws, ev, hs, ra⟩ := rx1.lstI rm e1
  subst ev
  exact ⟨q, ws, ds, rfl, hs, (toDs_dp rm.fr _ _ _ ra e2).1, h3, h4, h5, fun l nl => k _ _ ⟨_, M, _, rm.beh nl, .lst upd_same ((rall_sortZ ra).same (rm.beh (o := .lst (sortZ ws ds)) nl).sm), h6⟩⟩
theorem w_sortD {x : PV} {xs : List PV} {ds : List PyData} {M : Mem} {Q : PQ} (e1 : lstOf M x = some xs) (e2 : toDs xs = some ds) (h1 : PySem.W.AllAlike ds) (h2 : PySem.W.Sortable ds) (h3 : ∀ d ∈ ds, d.depth ≤ 60) (h : Q (.lst (sortZ xs ds)) M) : kSortD x M Q := need_by e1 (need_by e2 ⟨h1, h2, h3, h⟩)
end
end PL
set_option Elab.async false
set_option linter.all false
set_option maxRecDepth 100000
/-! TM: ordinary tape machines, as plain Lean -/
namespace TM
open PySem PySem.Spec PyProof.Rows L2 PL

abbrev TRow := Option (Int × Int × Int)
def rowP : TRow → PV
  | none => .non
  | some (w, mv, t) => .tup [.int w, .int mv, .int t]
def RowOk (m s : Int) : TRow → Prop
  | none => True
  | some (w, mv, t) => (0 ≤ w ∧ w < m) ∧ (mv = 1 ∨ mv = -1) ∧ (0 ≤ t ∧ t < s)
structure Mach (m s : Int) (rows : List TRow) : Prop where
  m2 : 2 ≤ m
  m8 : m ≤ 8
  s1 : 1 ≤ s
  s40 : s ≤ 40
  len : (rows.length : Int) = m * s
  ok : ∀ r ∈ rows, RowOk m s r
def tI (xs : List Int) : PV := .tup (xs.map PV.int)
def trimL (ms : List Int) : List Int := (ms.reverse.dropWhile (fun x => decide (x = 0))).reverse
structure Cf where
  q : Int
  l : List Int
  a : Int
  r : List Int
def cfP (c : Cf) : PV := .tup [.int c.q, tI c.l, .int c.a, tI c.r]
structure SideOk (m : Int) (xs : List Int) : Prop where
  mm : ∀ x ∈ xs, 0 ≤ x ∧ x < m
  tr : trimL xs = xs
structure CfOk (m s : Int) (c : Cf) : Prop where
  q0 : 0 ≤ c.q
  qs : c.q < s
  a0 : 0 ≤ c.a
  am : c.a < m
  l : SideOk m c.l
  r : SideOk m c.r
def push (w : Int) (l : List Int) : List Int := if w = 0 ∧ l = [] then [] else w :: l
def hd (l : List Int) : Int := l.headD 0
def rowAt (rows : List TRow) (m q a : Int) : TRow := (rows[(q * m + a).toNat]?).getD none
def stepM (rows : List TRow) (m : Int) (c : Cf) : Option Cf := match rowAt rows m c.q c.a with
  | none => none
  | some (w, mv, t) => if mv = 1 then some ⟨t, push w c.l, hd c.r, c.r.tail⟩ else some ⟨t, c.l.tail, hd c.l, push w c.r⟩
def runM (rows : List TRow) (m : Int) : Nat → Cf → Cf × Nat
  | 0, c => (c, 0)
  | n + 1, c => match stepM rows m c with
    | none => (c, 0)
    | some d => let (e, k) := runM rows m n d; (e, k + 1)
def optP : Option Cf → PV
  | none => .non
  | some c => cfP c
def tapeF (m s : Int) (rows : List TRow) : List (Str × PV) := [(Str.ofString "marks", .int m), (Str.ofString "states", .int s), (Str.ofString "_rows", .lst (rows.map rowP))]

/-! ### trimming -/
theorem trimL_nil : trimL [] = [] := rfl
theorem trimL_snoc0 (xs : List Int) : trimL (xs ++ [0]) = trimL xs := by
  unfold trimL
  rw [List.reverse_append]
  simp
theorem trimL_snoc (xs : List Int) {x : Int} (h : x ≠ 0) : trimL (xs ++ [x]) = xs ++ [x] := by
  unfold trimL
  rw [List.reverse_append]
  simp [h]
theorem trimL_idem (xs : List Int) : trimL (trimL xs) = trimL xs := by
  unfold trimL
  rw [List.reverse_reverse]
  congr 1
  generalize xs.reverse = ys
  induction ys with
  | nil => rfl
  | cons y r ih =>
    rw [List.dropWhile_cons]
    split
    · exact ih
    · rename_i h
      rw [List.dropWhile_cons, if_neg h]
theorem mem_trimL {xs : List Int} {x : Int} (h : x ∈ trimL xs) : x ∈ xs := by
  unfold trimL at h
  rw [List.mem_reverse] at h
  exact List.mem_reverse.mp ((List.dropWhile_suffix _).subset h)
theorem trimL_len (xs : List Int) : (trimL xs).length ≤ xs.length := by
  unfold trimL
  rw [List.length_reverse]
  exact Nat.le_trans ((List.dropWhile_suffix _).length_le) (by rw [List.length_reverse]; exact Nat.le_refl _)
theorem SideOk.trim {m : Int} {xs : List Int} (h : ∀ x ∈ xs, 0 ≤ x ∧ x < m) : SideOk m (trimL xs) := ⟨fun x hx => h x (mem_trimL hx), trimL_idem xs⟩
/-- it is trimmed: it is empty, or its last is no blank -/
theorem trimL_eq_iff (xs : List Int) : trimL xs = xs ↔ ∀ x, xs.getLast? = some x → x ≠ 0 := by
  rcases List.eq_nil_or_concat xs with rfl | ⟨r, y, rfl⟩
  · simp [trimL]
  · rw [List.concat_eq_append]
    constructor
    · intro h x hx
      rw [List.getLast?_append] at hx
      simp at hx
      subst hx
      intro z
      subst z
      rw [trimL_snoc0] at h
      have := trimL_len r
      rw [h] at this
      simp at this
      omega
    · intro h
      exact trimL_snoc r (h y (by simp))
theorem SideOk.tail {m : Int} {xs : List Int} (h : SideOk m xs) : SideOk m xs.tail := by
  refine ⟨fun x hx => h.mm x (List.mem_of_mem_tail hx), ?_⟩
  rw [trimL_eq_iff]
  have h2 := (trimL_eq_iff xs).mp h.tr
  cases xs with
  | nil => exact h2
  | cons a r =>
    intro x hx
    refine h2 x ?_
    show (a :: r).getLast? = some x
    cases r with
    | nil => cases hx
    | cons b r =>
      rw [List.getLast?_cons_cons]
      exact hx
theorem SideOk.push {m w : Int} {xs : List Int} (h : SideOk m xs) (hw : 0 ≤ w ∧ w < m) : SideOk m (push w xs) := by
  unfold TM.push
  split
  · exact ⟨fun x hx => (nomatch hx), rfl⟩
  · rename_i hn
    refine ⟨fun x hx => ?_, ?_⟩
    · rcases List.mem_cons.mp hx with e | e
      · rw [e]; exact hw
      · exact h.mm x e
    · rw [trimL_eq_iff]
      have h2 := (trimL_eq_iff xs).mp h.tr
      cases xs with
      | nil =>
        intro x hx
        simp at hx
        subst hx
        intro z
        exact hn ⟨z, rfl⟩
      | cons b r =>
        intro x hx
        rw [List.getLast?_cons_cons] at hx
        exact h2 x hx
theorem SideOk.hd {m : Int} {xs : List Int} (h : SideOk m xs) (hm : 0 < m) : 0 ≤ hd xs ∧ hd xs < m := by
  cases xs with
  | nil => exact ⟨Int.le_refl 0, hm⟩
  | cons a r => exact h.mm a List.mem_cons_self
theorem trim_push {m w : Int} {xs : List Int} (h : SideOk m xs) : trimL (w :: xs) = push w xs := by
  unfold TM.push
  by_cases hx : xs = []
  · subst hx
    by_cases hw : w = 0
    · subst hw; rw [if_pos ⟨rfl, rfl⟩]; rfl
    · rw [if_neg (fun z => hw z.1)]
      exact trimL_snoc [] hw
  · rw [if_neg (fun z => hx z.2), trimL_eq_iff]
    have h2 := (trimL_eq_iff xs).mp h.tr
    intro x e
    cases xs with
    | nil => exact absurd rfl hx
    | cons b r =>
      rw [List.getLast?_cons_cons] at e
      exact h2 x e
theorem rowAt_mem {m s q a : Int} {rows : List TRow} (M : Mach m s rows) (hq : 0 ≤ q) (hqs : q < s) (ha : 0 ≤ a) (ham : a < m) :
    (q * m + a).toNat < rows.length ∧ rows[(q * m + a).toNat]? = some (rowAt rows m q a) ∧ RowOk m s (rowAt rows m q a) ∧ 0 ≤ q * m + a := by
  have h0 : 0 ≤ q * m + a := Int.add_nonneg (Int.mul_nonneg hq (by have := M.m2; omega)) ha
  have h1 : q * m + a < m * s := by
    have e1 : (q + 1) * m ≤ s * m := Int.mul_le_mul_of_nonneg_right (by omega) (by have := M.m2; omega)
    have e2 : (q + 1) * m = q * m + m := by rw [Int.add_mul, Int.one_mul]
    have e3 : s * m = m * s := Int.mul_comm s m
    omega
  have hl : (q * m + a).toNat < rows.length := by
    have := M.len
    omega
  have hg : rows[(q * m + a).toNat]? = some rows[(q * m + a).toNat] := List.getElem?_eq_getElem hl
  have hr : rowAt rows m q a = rows[(q * m + a).toNat] := by
    unfold rowAt
    rw [hg]
    rfl
  exact ⟨hl, by rw [hr]; exact hg, by rw [hr]; exact M.ok _ (List.getElem_mem hl), h0⟩
theorem stepM_ok {m s : Int} {rows : List TRow} {c d : Cf} (M : Mach m s rows) (h : CfOk m s c) (e : stepM rows m c = some d) : CfOk m s d := by
  unfold stepM at e
  obtain ⟨_, _, hr, _⟩ := rowAt_mem M h.q0 h.qs h.a0 h.am
  split at e
  · cases e
  · rename_i w mv t hrow
    rw [hrow] at hr
    obtain ⟨hw, hm, ht⟩ := hr
    have hm0 : (0 : Int) < m := by have := M.m2; omega
    split at e
    · cases e
      exact ⟨ht.1, ht.2, (h.r.hd hm0).1, (h.r.hd hm0).2, h.l.push hw, h.r.tail⟩
    · cases e
      exact ⟨ht.1, ht.2, (h.l.hd hm0).1, (h.l.hd hm0).2, h.l.tail, h.r.push hw⟩
/-! ### readings over tuples of ints -/
section
variable {M : Mem} {Q : PQ}
theorem eq_tI {l r : List Int} : oEq (tI l) (tI r) M Q = Q (.bl (decide (l = r))) M := eqP_tI
theorem eq_tI_nil {l : List Int} : oEq (tI l) (.tup []) M Q = Q (.bl (decide (l = []))) M := eqP_tI (ys := [])
theorem sl_tI_tail {l : List Int} : oSl (tI l) (some 1) none M Q = Q (tI l.tail) M := by
  unfold tI
  rw [PL.sl_tup, cutA_map, cutA_from1]
theorem sl_tI_to {l : List Int} {k : Int} (h : 0 ≤ k) : oSl (tI l) none (some k) M Q = Q (tI (l.take k.toNat)) M := by
  unfold tI
  rw [PL.sl_tup, cutA_map, cutA_to _ h]
theorem sl_tI_from {l : List Int} {k : Int} (h : 0 ≤ k) : oSl (tI l) (some k) none M Q = Q (tI (l.drop k.toNat)) M := by
  unfold tI
  rw [PL.sl_tup, cutA_map, cutA_from _ h]
theorem len_tI {l : List Int} : kLen (tI l) M Q = Q (.int l.length) M := by
  unfold tI
  rw [PL.len_tup, List.length_map]
theorem tup_tI {l : List Int} : PL.kTup (tI l) M Q = Q (tI l) M := rfl
theorem ix_tI0 {l : List Int} (h : l ≠ []) : oIx (tI l) (.int 0) M Q = Q (.int (hd l)) M := by
  cases l with
  | nil => exact absurd rfl h
  | cons a r =>
    unfold tI
    rw [PL.ix_tup, at_0]
    rfl
theorem ix_tI {l : List Int} {i : Int} {x : Int} (h : 0 ≤ i) (e : l[i.toNat]? = some x) : oIx (tI l) (.int i) M Q = Q (.int x) M := by
  unfold tI
  rw [PL.ix_tup, at_pos _ h, List.getElem?_map, e]
  rfl
theorem add_tI {l r : List Int} : oAdd (tI l) (tI r) M Q = (l.length + r.length ≤ sizeLine ∧ Q (tI (l ++ r)) M) := by
  show ((l.map PV.int).length + (r.map PV.int).length ≤ sizeLine ∧ Q (.tup (l.map PV.int ++ r.map PV.int)) M) = _
  rw [List.length_map, List.length_map, ← List.map_append]
  rfl
theorem hd_nil : hd [] = 0 := rfl
theorem hd_cons (a : Int) (r : List Int) : hd (a :: r) = a := rfl
end
section
variable {m s : Int} {rows : List TRow}
theorem lk_marks : List.lookup (Str.ofString "marks") (tapeF m s rows) = some (.int m) := rfl
theorem lk_states : List.lookup (Str.ofString "states") (tapeF m s rows) = some (.int s) := rfl
theorem lk_rows : List.lookup (Str.ofString "_rows") (tapeF m s rows) = some (.lst (rows.map rowP)) := rfl
theorem lk_row : List.lookup (Str.ofString "row") (tapeF m s rows) = none := rfl
theorem lk_table : List.lookup (Str.ofString "table") (tapeF m s rows) = none := rfl
theorem lk_begin : List.lookup (Str.ofString "begin") (tapeF m s rows) = none := rfl
theorem lk_step : List.lookup (Str.ofString "step") (tapeF m s rows) = none := rfl
theorem lk_stopped : List.lookup (Str.ofString "stopped") (tapeF m s rows) = none := rfl
theorem lk_run : List.lookup (Str.ofString "run") (tapeF m s rows) = none := rfl
theorem ix_rows {M : Mem} {Q : PQ} {q a : Int} (M0 : Mach m s rows) (hq : 0 ≤ q) (hqs : q < s) (ha : 0 ≤ a) (ham : a < m) : oIx (.lst (rows.map rowP)) (.int (q * m + a)) M Q = Q (rowP (rowAt rows m q a)) M := by
  obtain ⟨_, h2, _, h0⟩ := rowAt_mem M0 hq hqs ha ham
  rw [PL.ix_lst, at_pos _ h0, List.getElem?_map, h2]
  rfl
theorem at_rows {q a : Int} (M0 : Mach m s rows) (hq : 0 ≤ q) (hqs : q < s) (ha : 0 ≤ a) (ham : a < m) : L2.atI (rows.map rowP) (q * m + a) = some (rowP (rowAt rows m q a)) := by
  obtain ⟨_, h2, _, h0⟩ := rowAt_mem M0 hq hqs ha ham
  rw [at_pos _ h0, List.getElem?_map, h2]
  rfl
theorem cmul_ok {q : Int} (M0 : Mach m s rows) (hq : 0 ≤ q) (hqs : q < s) : CMul q m := by
  have := M0.s40
  exact .inl ⟨by omega, by omega⟩
end
/-! ### the count of places from which on something stands -/
def cntL (ms : List Int) : Nat := ((List.range ms.length).filter (fun i => (ms.drop i).any (fun x => decide (0 < x)))).length
theorem cntL_eq : ∀ (n : Nat) (ms : List Int), ms.length = n → (∀ x ∈ ms, 0 ≤ x) → cntL ms = (trimL ms).length
  | 0, ms, h, _ => by
    have : ms = [] := List.eq_nil_of_length_eq_zero h
    subst this
    rfl
  | n + 1, ms, h, hp => by
    rcases List.eq_nil_or_concat ms with e | ⟨r, y, e⟩
    · subst e; rfl
    · rw [List.concat_eq_append] at e
      subst e
      have hr : r.length = n := by simpa using h
      have hy : 0 ≤ y := hp y (by simp)
      have hrp : ∀ x ∈ r, 0 ≤ x := fun x hx => hp x (List.mem_append_left _ hx)
      unfold cntL
      rw [List.length_append]
      show ((List.range (r.length + 1)).filter _).length = _
      by_cases hz : y = 0
      · subst hz
        rw [trimL_snoc0, ← cntL_eq n r hr hrp]
        unfold cntL
        rw [List.range_succ, List.filter_append]
        have e1 : [r.length].filter (fun i => ((r ++ [0]).drop i).any (fun x => decide (0 < x))) = [] := by simp
        rw [e1, List.append_nil]
        congr 1
        apply List.filter_congr
        intro i hi
        have hi : i < r.length := List.mem_range.mp hi
        rw [List.drop_append_of_le_length (by omega), List.any_append]
        simp
      · rw [trimL_snoc r hz, List.length_append, List.filter_eq_self.mpr, List.length_range]
        · rfl
        · intro i hi
          have hi : i < r.length + 1 := List.mem_range.mp hi
          rw [List.drop_append_of_le_length (by omega), List.any_append]
          simp
          right
          omega
theorem take_trimL (ms : List Int) : ms.take (trimL ms).length = trimL ms := by
  have h : trimL ms <+: ms := by
    unfold trimL
    have h := List.dropWhile_suffix (fun x : Int => decide (x = 0)) (l := ms.reverse)
    have h2 := List.reverse_prefix.mpr h
    rw [List.reverse_reverse] at h2
    exact h2
  exact (List.prefix_iff_eq_take.mp h).symm
section
variable {M : Mem} {Q : PQ}
theorem tupRev_tI {l : List Int} : (need (tupF (tI l)) fun xs => Q (.tup xs.reverse) M) = Q (tI l.reverse) M := by
  show Q (.tup (l.map PV.int).reverse) M = _
  rw [← List.map_reverse]
  rfl
theorem maxT_tI {x : Int} {l : List Int} : kMaxT (tI (x :: l)) M Q = ∀ m, m ∈ x :: l → (∀ y, y ∈ x :: l → y ≤ m) → Q (.int m) M := by
  unfold kMaxT
  show need (intsOf ((x :: l).map PV.int)) _ = _
  rw [intsOf_map]
  exact propext ⟨fun h => h.2, fun h => ⟨Nat.succ_pos _, h⟩⟩
end
end TM
set_option Elab.async false
set_option linter.all false
set_option maxRecDepth 100000
namespace My
open PySem PySem.Spec PyProof.Rows L2 PL
def topS (i : Nat) : Stmt := PySem.Challenge.pw_backstair_k05_where_a_machine_forgets.main.body.getD i (.Pass ⟨0, 0, 0, 0⟩)
abbrev s_is_whole : Stmt := topS 5
theorem sc_is_whole : FnScope ["value"] ["value"] (defScope s_is_whole) := ⟨rfl, rfl, rfl, by decide +kernel, rfl, by decide +kernel, by decide +kernel⟩
abbrev s_is_number : Stmt := topS 6
theorem sc_is_number : FnScope ["value", "low", "high"] ["value", "low", "high"] (defScope s_is_number) := ⟨rfl, rfl, rfl, by decide +kernel, rfl, by decide +kernel, by decide +kernel⟩
abbrev s_pushed : Stmt := topS 8
theorem sc_pushed : FnScope ["mark", "side"] ["mark", "side"] (defScope s_pushed) := ⟨rfl, rfl, rfl, by decide +kernel, rfl, by decide +kernel, by decide +kernel⟩
abbrev s_nearest : Stmt := topS 9
theorem sc_nearest : FnScope ["side"] ["side"] (defScope s_nearest) := ⟨rfl, rfl, rfl, by decide +kernel, rfl, by decide +kernel, by decide +kernel⟩
abbrev s_moved : Stmt := topS 10
theorem sc_moved : FnScope ["tape", "move", "left", "mark", "right"] ["tape", "move"] (defScope s_moved) := ⟨rfl, rfl, rfl, by decide +kernel, rfl, by decide +kernel, by decide +kernel⟩
abbrev s_is_row : Stmt := topS 11
theorem sc_is_row : FnScope ["row", "marks", "states", "mark", "move", "state"] ["row", "marks", "states"] (defScope s_is_row) := ⟨rfl, rfl, rfl, by decide +kernel, rfl, by decide +kernel, by decide +kernel⟩
abbrev s_Tape_init : Stmt := inClass (topS 12) 0
theorem sc_Tape_init : FnScope ["self", "marks", "states", "rows", "row"] ["self", "marks", "states", "rows"] (defScope s_Tape_init) := ⟨rfl, rfl, rfl, by decide +kernel, rfl, by decide +kernel, by decide +kernel⟩
abbrev s_Tape_row : Stmt := inClass (topS 12) 1
theorem sc_Tape_row : FnScope ["self", "state", "mark"] ["self", "state", "mark"] (defScope s_Tape_row) := ⟨rfl, rfl, rfl, by decide +kernel, rfl, by decide +kernel, by decide +kernel⟩
abbrev s_Tape_table : Stmt := inClass (topS 12) 2
theorem sc_Tape_table : FnScope ["self"] ["self"] (defScope s_Tape_table) := ⟨rfl, rfl, rfl, by decide +kernel, rfl, by decide +kernel, by decide +kernel⟩
abbrev s_meet : Stmt := topS 14
theorem sc_meet : FnScope ["one", "two"] ["one", "two"] (defScope s_meet) := ⟨rfl, rfl, rfl, by decide +kernel, rfl, by decide +kernel, by decide +kernel⟩
abbrev s_clashes : Stmt := topS 15
theorem sc_clashes : FnScope ["machine", "rows", "places", "found", "i", "j", "state", "mark"] ["machine"] (defScope s_clashes) := ⟨rfl, rfl, rfl, by decide +kernel, rfl, by decide +kernel, by decide +kernel⟩
abbrev s_forgets : Stmt := topS 16
theorem sc_forgets : FnScope ["machine"] ["machine"] (defScope s_forgets) := ⟨rfl, rfl, rfl, by decide +kernel, rfl, by decide +kernel, by decide +kernel⟩
abbrev s_before : Stmt := topS 17
theorem sc_before : FnScope ["machine", "configuration", "found", "state", "mark", "row", "left", "written", "right"] ["machine", "configuration"] (defScope s_before) := ⟨rfl, rfl, rfl, by decide +kernel, rfl, by decide +kernel, by decide +kernel⟩
abbrev s_law_numbers : Stmt := topS 19
theorem sc_law_numbers : FnScope ["script", "many", "numbers", "k", "cell", "j", "mixed"] ["script", "many"] (defScope s_law_numbers) := ⟨rfl, rfl, rfl, by decide +kernel, rfl, by decide +kernel, by decide +kernel⟩
abbrev s_law_take : Stmt := topS 20
theorem sc_law_take : FnScope ["numbers", "place"] ["numbers", "place"] (defScope s_law_take) := ⟨rfl, rfl, rfl, by decide +kernel, rfl, by decide +kernel, by decide +kernel⟩
abbrev s_law_machine : Stmt := topS 21
theorem sc_law_machine : FnScope ["numbers", "place", "marks", "states", "rows", "style", "k", "number", "row"] ["numbers", "place", "marks", "states"] (defScope s_law_machine) := ⟨rfl, rfl, rfl, by decide +kernel, rfl, by decide +kernel, by decide +kernel⟩
abbrev s_law_sizes : Stmt := topS 22
theorem sc_law_sizes : FnScope ["numbers", "place", "first", "second"] ["numbers", "place"] (defScope s_law_sizes) := ⟨rfl, rfl, rfl, by decide +kernel, rfl, by decide +kernel, by decide +kernel⟩
abbrev s_law_trim : Stmt := topS 23
theorem sc_law_trim : FnScope ["marks", "count", "k"] ["marks"] (defScope s_law_trim) := ⟨rfl, rfl, rfl, by decide +kernel, rfl, by decide +kernel, by decide +kernel⟩
abbrev s_law_side : Stmt := topS 24
theorem sc_law_side : FnScope ["numbers", "place", "marks", "most", "side", "k"] ["numbers", "place", "marks", "most"] (defScope s_law_side) := ⟨rfl, rfl, rfl, by decide +kernel, rfl, by decide +kernel, by decide +kernel⟩
abbrev s_law_configuration : Stmt := topS 25
theorem sc_law_configuration : FnScope ["numbers", "place", "marks", "states", "most", "left", "right"] ["numbers", "place", "marks", "states", "most"] (defScope s_law_configuration) := ⟨rfl, rfl, rfl, by decide +kernel, rfl, by decide +kernel, by decide +kernel⟩
abbrev s_law_step : Stmt := topS 26
theorem sc_law_step : FnScope ["rows", "marks", "spot", "row", "tape", "at"] ["rows", "marks", "spot"] (defScope s_law_step) := ⟨rfl, rfl, rfl, by decide +kernel, rfl, by decide +kernel, by decide +kernel⟩
abbrev s_law_same : Stmt := topS 28
theorem sc_law_same : FnScope ["actual", "expected", "k"] ["actual", "expected"] (defScope s_law_same) := ⟨rfl, rfl, rfl, by decide +kernel, rfl, by decide +kernel, by decide +kernel⟩
abbrev s_law_before : Stmt := topS 29
theorem sc_law_before : FnScope ["rows", "sizes", "spot", "found", "k", "tape", "at"] ["rows", "sizes", "spot"] (defScope s_law_before) := ⟨rfl, rfl, rfl, by decide +kernel, rfl, by decide +kernel, by decide +kernel⟩
abbrev s_law_clashes : Stmt := topS 30
theorem sc_law_clashes : FnScope ["rows", "sizes", "found", "k", "j", "one", "two"] ["rows", "sizes"] (defScope s_law_clashes) := ⟨rfl, rfl, rfl, by decide +kernel, rfl, by decide +kernel, by decide +kernel⟩
abbrev s_law_two : Stmt := topS 31
theorem sc_law_two : FnScope ["rows", "sizes", "pair", "one", "two", "around"] ["rows", "sizes", "pair"] (defScope s_law_two) := ⟨rfl, rfl, rfl, by decide +kernel, rfl, by decide +kernel, by decide +kernel⟩
abbrev s_law : Stmt := topS 32
theorem sc_law : FnScope ["script", "numbers", "place", "sizes", "rows", "machine", "spot", "expected", "actual", "places", "k", "earlier", "one"] ["script"] (defScope s_law) := ⟨rfl, rfl, rfl, by decide +kernel, rfl, by decide +kernel, by decide +kernel⟩
/-- where the classes of the text stand -/
structure Ctx where
  Tape : Addr
structure ClTape (K : PySem.W.Frag) (C : Addr) : Prop where
  cl : Cls K C
  n_rows : NoAttr K C (PySem.Str.ofString "_rows")
  n_marks : NoAttr K C (PySem.Str.ofString "marks")
  n_states : NoAttr K C (PySem.Str.ofString "states")
structure Txt (K : PySem.W.Frag) (mg : Str → Option Value) (Γ : Ctx) : Prop where
  b_abs : mg (PySem.Str.ofString "abs") = none
  b_bool : mg (PySem.Str.ofString "bool") = none
  b_int : mg (PySem.Str.ofString "int") = none
  b_isinstance : mg (PySem.Str.ofString "isinstance") = none
  b_len : mg (PySem.Str.ofString "len") = none
  b_list : mg (PySem.Str.ofString "list") = none
  b_max : mg (PySem.Str.ofString "max") = none
  b_range : mg (PySem.Str.ofString "range") = none
  b_reversed : mg (PySem.Str.ofString "reversed") = none
  b_sorted : mg (PySem.Str.ofString "sorted") = none
  b_str : mg (PySem.Str.ofString "str") = none
  b_tuple : mg (PySem.Str.ofString "tuple") = none
  cTape : ClTape K Γ.Tape
end My
set_option Elab.async false
set_option linter.all false
set_option maxRecDepth 100000
namespace My
open PySem PySem.Spec PyProof.Rows L2 PL TM
/-! ### promises -/
def isNum (lo hi : Int) : PV → Bool
  | .int i => decide (lo ≤ i) && decide (i ≤ hi)
  | _ => false
def areNum (lo hi : Int) : PV → Bool
  | .tup xs => xs.all (isNum lo hi)
  | _ => false
def known (M : Mem) (v : PV) : Prop := tyOf M v ≠ none
def isWh : PV → Bool
  | .int _ => true
  | _ => false
def sp_is_whole (Γ : Ctx) : PSp := fun xs M Q _ => ∃ v, xs = [v] ∧ known M v ∧ Q (.bl (isWh v)) M
def sp_is_number (Γ : Ctx) : PSp := fun xs M Q _ => ∃ v lo hi, xs = [v, .int lo, .int hi] ∧ known M v ∧ Q (.bl (isNum lo hi v)) M
def sp_are_numbers (Γ : Ctx) : PSp := fun xs M Q _ => ∃ v lo hi, xs = [v, .int lo, .int hi] ∧ known M v ∧ (∀ ys, v = .tup ys → ys.length ≤ sizeLine ∧ ∀ y ∈ ys, known M y) ∧ Q (.bl (areNum lo hi v)) M
def sp_trimmed (Γ : Ctx) : PSp := fun xs M Q _ => ∃ ms, xs = [tI ms] ∧ Q (tI (trimL ms)) M
def sp_laid (Γ : Ctx) : PSp := fun xs M Q _ => ∃ ms, xs = [tI ms] ∧ Q (.tup [.tup [], .int (hd ms), tI (trimL ms.tail)]) M
def sp_pushed (Γ : Ctx) : PSp := fun xs M Q _ => ∃ w l, xs = [.int w, tI l] ∧ l.length < 1000000 ∧ Q (tI (push w l)) M
def sp_nearest (Γ : Ctx) : PSp := fun xs M Q _ => ∃ l, xs = [tI l] ∧ Q (.int (hd l)) M
def sp_moved (Γ : Ctx) : PSp := fun xs M Q _ => ∃ l a r mv, xs = [.tup [tI l, .int a, tI r], .int mv] ∧ (mv = 1 ∨ mv = -1) ∧ l.length < 1000000 ∧ r.length < 1000000 ∧
  Q (if mv = 1 then .tup [tI (push a l), .int (hd r), tI r.tail] else .tup [tI l.tail, .int (hd l), tI (push a r)]) M
def sp_is_row (Γ : Ctx) : PSp := fun xs M Q _ => ∃ r m s, xs = [rowP r, .int m, .int s] ∧ RowOk m s r ∧ Q (.bl true) M
def sp_Tape_init (Γ : Ctx) : PSp := fun xs M Q _ => ∃ p m s rv rows, xs = [.ptr p, .int m, .int s, rv] ∧ Mach m s rows ∧ lstOf M rv = some (rows.map rowP) ∧ tyOf M rv = some "list" ∧ M p = some (.obj Γ.Tape []) ∧
  Q .non (M.put p (.obj Γ.Tape (tapeF m s rows)))
def tapeP (Γ : Ctx) (m s : Int) (rows : List TRow) : PV := .obj Γ.Tape (tapeF m s rows)
def sp_Tape_row (Γ : Ctx) : PSp := fun xs M Q _ => ∃ m s rows q a, xs = [tapeP Γ m s rows, .int q, .int a] ∧ Mach m s rows ∧ (0 ≤ q ∧ q < s) ∧ (0 ≤ a ∧ a < m) ∧ Q (rowP (rowAt rows m q a)) M
def sp_Tape_table (Γ : Ctx) : PSp := fun xs M Q _ => ∃ m s rows, xs = [tapeP Γ m s rows] ∧ ∀ p, M p = none → Q (.ptr p) (M.put p (.lst (rows.map rowP)))
def sp_Tape_begin (Γ : Ctx) : PSp := fun xs M Q _ => ∃ m s rows ms, xs = [tapeP Γ m s rows, tI ms] ∧ ms.length < 1000000 ∧ (∀ x ∈ ms, 0 ≤ x ∧ x < m) ∧ Q (.tup [.int 0, .tup [], .int (hd ms), tI (trimL ms.tail)]) M
def sp_Tape_step (Γ : Ctx) : PSp := fun xs M Q _ => ∃ m s rows c, xs = [tapeP Γ m s rows, cfP c] ∧ Mach m s rows ∧ CfOk m s c ∧ c.l.length < 1000000 ∧ c.r.length < 1000000 ∧ Q (optP (stepM rows m c)) M
def sp_Tape_stopped (Γ : Ctx) : PSp := fun xs M Q _ => ∃ m s rows c, xs = [tapeP Γ m s rows, cfP c] ∧ Mach m s rows ∧ CfOk m s c ∧ c.l.length < 1000000 ∧ c.r.length < 1000000 ∧ Q (.bl (stepM rows m c).isNone) M
def sp_Tape_run (Γ : Ctx) : PSp := fun xs M Q _ => ∃ m s rows c n, xs = [tapeP Γ m s rows, cfP c, .int (n : Nat)] ∧ Mach m s rows ∧ CfOk m s c ∧ c.l.length + n < 900000 ∧ c.r.length + n < 900000 ∧
  Q (.tup [cfP (runM rows m n c).1, .int (runM rows m n c).2]) M
/-! the law's own -/
structure Nums (ns : List Int) : Prop where
  r : ∀ n ∈ ns, 0 ≤ n ∧ n < 1000
  l : ns.length ≤ 1000
def lI (xs : List Int) : PV := .lst (xs.map PV.int)
def sp_law_numbers (Γ : Ctx) : PSp := fun xs M Q _ => ∃ (zs : List Int) (many : Int), xs = [.scr (zs.map .int), .int many] ∧ zs.length ≤ 63 ∧ (0 ≤ many ∧ many ≤ 1000) ∧ ∀ ns, Nums ns → Q (lI ns) M
/-- numbers and the place among them -/
def At (M : Mem) (p : Addr) (k : Int) : Prop := M p = some (.lst [.int k]) ∧ 0 ≤ k
def sp_law_take (Γ : Ctx) : PSp := fun xs M Q _ => ∃ ns p k, xs = [lI ns, .ptr p] ∧ Nums ns ∧ At M p k ∧ ∀ n k', (0 ≤ n ∧ n < 1000) → 0 ≤ k' → Q (.int n) (M.put p (.lst [.int k']))
def sp_law_machine (Γ : Ctx) : PSp := fun xs M Q _ => ∃ ns p k m s, xs = [lI ns, .ptr p, .int m, .int s] ∧ Nums ns ∧ At M p k ∧ (2 ≤ m ∧ m ≤ 8) ∧ (1 ≤ s ∧ s ≤ 40) ∧
  ∀ rows k', Mach m s rows → 0 ≤ k' → Q (.lst (rows.map rowP)) (M.put p (.lst [.int k']))
def sp_law_sizes (Γ : Ctx) : PSp := fun xs M Q _ => ∃ ns p k, xs = [lI ns, .ptr p] ∧ Nums ns ∧ At M p k ∧ ∀ m s k', (2 ≤ m ∧ m ≤ 8) → (1 ≤ s ∧ s ≤ 40) → 0 ≤ k' → Q (.tup [.int m, .int s]) (M.put p (.lst [.int k']))
def sp_law_trim (Γ : Ctx) : PSp := fun xs M Q _ => ∃ ms, xs = [tI ms] ∧ (∀ x ∈ ms, 0 ≤ x) ∧ ms.length < 1000000 ∧ Q (tI (trimL ms)) M
def sp_law_side (Γ : Ctx) : PSp := fun xs M Q _ => ∃ ns p k m n, xs = [lI ns, .ptr p, .int m, .int n] ∧ Nums ns ∧ At M p k ∧ 1 ≤ m ∧ (0 ≤ n ∧ n ≤ 1000) ∧ ∀ ms k', SideOk m ms → (ms.length : Int) ≤ n → 0 ≤ k' → Q (tI ms) (M.put p (.lst [.int k']))
def sp_law_configuration (Γ : Ctx) : PSp := fun xs M Q _ => ∃ ns p k m s n, xs = [lI ns, .ptr p, .int m, .int s, .int n] ∧ Nums ns ∧ At M p k ∧ 1 ≤ m ∧ 1 ≤ s ∧ (0 ≤ n ∧ n ≤ 1000) ∧
  ∀ c k', CfOk m s c → (c.l.length : Int) ≤ n → (c.r.length : Int) ≤ n → 0 ≤ k' → Q (cfP c) (M.put p (.lst [.int k']))
def sp_law_step (Γ : Ctx) : PSp := fun xs M Q _ => ∃ m s rows c, xs = [.lst (rows.map rowP), .int m, cfP c] ∧ Mach m s rows ∧ CfOk m s c ∧ c.l.length < 100000 ∧ c.r.length < 100000 ∧ Q (optP (stepM rows m c)) M
def sp_law_run (Γ : Ctx) : PSp := fun xs M Q _ => ∃ m s rows c n, xs = [.lst (rows.map rowP), .int m, cfP c, .int (n : Nat)] ∧ Mach m s rows ∧ CfOk m s c ∧ c.l.length + n < 90000 ∧ c.r.length + n < 90000 ∧
  Q (.tup [cfP (runM rows m n c).1, .int (runM rows m n c).2]) M
/-- data without lists, not deeper than n -/
def okD : Nat → PV → Prop
  | 0, _ => False
  | n + 1, .tup xs => xs.length < 1000000 ∧ ∀ x ∈ xs, okD n x
  | _ + 1, .non => True
  | _ + 1, .int _ => True
  | _ + 1, .str _ => True
  | _ + 1, _ => False
def spSame (n : Nat) : PSp := fun xs M Q _ => ∃ x, xs = [x, x] ∧ okD n x ∧ Q (.bl true) M
def sp_law_same (Γ : Ctx) : PSp := spSame 8
/-! where a machine forgets -/
def meetT : TRow → TRow → Bool
  | some (w, v, t), some (w', v', t') => decide (t = t') && (!decide (v = v') || decide (w = w'))
  | _, _ => false
def rowN (rows : List TRow) (k : Nat) : TRow := (rows[k]?).getD none
def plP (m : Int) (k : Nat) : PV := .tup [.int ((k : Int) / m), .int ((k : Int) % m)]
/-- the pairs of places, in order -/
def clN (rows : List TRow) (i : Nat) : List (Nat × Nat) := ((List.range (rows.length - (i + 1))).filter fun j => meetT (rowN rows i) (rowN rows (i + 1 + j))).map fun j => (i, i + 1 + j)
def clL (rows : List TRow) : List (Nat × Nat) := ((List.range rows.length).map (clN rows)).flatten
def clV (m : Int) (rows : List TRow) : List PV := (clL rows).map fun p => .tup [plP m p.1, plP m p.2]
/-- where a row k leads back to -/
def bkC (m : Int) (k : Nat) (c : Cf) : TRow → Option Cf
  | none => none
  | some (w, v, t) => if t = c.q then (if v = 1 then (if hd c.l = w then some ⟨(k : Int) / m, c.l.tail, (k : Int) % m, push c.a c.r⟩ else none)
      else (if hd c.r = w then some ⟨(k : Int) / m, push c.a c.l, (k : Int) % m, c.r.tail⟩ else none)) else none
def bkL (m : Int) (rows : List TRow) (c : Cf) : List Cf := (List.range rows.length).filterMap fun k => bkC m k c (rowN rows k)
/-- the same, in Python's order -/
def bkS (m : Int) (rows : List TRow) (c : Cf) : List Cf := (bkL m rows c).mergeSort (PySem.W.dataLe false fun d => (toD (cfP d)).getD .none)
def sp_meet (Γ : Ctx) : PSp := fun xs M Q _ => ∃ m s a b, xs = [rowP a, rowP b] ∧ RowOk m s a ∧ RowOk m s b ∧ Q (.bl (meetT a b)) M
def sp_clashes (Γ : Ctx) : PSp := fun xs M Q _ => ∃ m s rows, xs = [tapeP Γ m s rows] ∧ Mach m s rows ∧ ∀ M', Ext M M' → Q (.lst (clV m rows)) M'
def sp_forgets (Γ : Ctx) : PSp := fun xs M Q _ => ∃ m s rows, xs = [tapeP Γ m s rows] ∧ Mach m s rows ∧ ∀ M', Ext M M' → Q (.bl (decide (0 < (clL rows).length))) M'
def sp_before (Γ : Ctx) : PSp := fun xs M Q _ => ∃ m s rows c, xs = [tapeP Γ m s rows, cfP c] ∧ Mach m s rows ∧ CfOk m s c ∧ c.l.length < 1000 ∧ c.r.length < 1000 ∧ Q (.lst ((bkS m rows c).map cfP)) M
def sp_law_before (Γ : Ctx) : PSp := fun xs M Q _ => ∃ m s rows c, xs = [.lst (rows.map rowP), .tup [.int m, .int s], cfP c] ∧ Mach m s rows ∧ CfOk m s c ∧ c.l.length < 1000 ∧ c.r.length < 1000 ∧ Q (.lst ((bkS m rows c).map cfP)) M
def sp_law_clashes (Γ : Ctx) : PSp := fun xs M Q _ => ∃ m s rows, xs = [.lst (rows.map rowP), .tup [.int m, .int s]] ∧ Mach m s rows ∧ Q (.lst (clV m rows)) M
/-- the configuration that two rows that clash lead to -/
def twC : TRow → TRow → Cf
  | some (w, v, t), some (w', v', _) =>
    let l := if v = 1 then w else if v' = 1 then w' else 0
    let r := if v = 1 then (if v' = 1 then 0 else w') else w
    ⟨t, trimL [if v = 1 ∧ v' = 1 then w' else l], 0, trimL [if v = -1 ∧ v' = -1 then w' else r]⟩
  | _, _ => ⟨0, [], 0, []⟩
def sp_law_two (Γ : Ctx) : PSp := fun xs M Q _ => ∃ m s rows, ∃ i j : Nat, xs = [.lst (rows.map rowP), .tup [.int m, .int s], .tup [plP m i, plP m j]] ∧ Mach m s rows ∧ i < rows.length ∧ j < rows.length ∧ meetT (rowN rows i) (rowN rows j) = true ∧ Q (cfP (twC (rowN rows i) (rowN rows j))) M
def sp_top : PSp := fun xs M Q _ => ∃ (zs : List Int), xs = [.scr (zs.map .int)] ∧ zs.length ≤ 63 ∧ ∀ M', Q (.bl true) M'
def sp_law (_ : Ctx) : PSp := sp_top
end My
set_option Elab.async false
set_option linter.all false
set_option maxRecDepth 100000
namespace My
open PySem PySem.Spec PyProof.Rows L2 PL
def t_is_whole (Γ : Ctx) : PTS := (pRet (pAndV (fun E σ M Q => (pVar 0) E σ M fun x M1 => kIsi "int" x M1 Q) (pNotV (fun E σ M Q => (pVar 0) E σ M fun x M1 => kIsi "bool" x M1 Q))))
theorem d_is_whole {P : Program} {w : World} {K : PySem.W.Frag} {mg : Str → Option Value} {base : Heap} {Γ : Ctx} (T : Txt K mg Γ)  {f : Addr} {cdv : Value} {A : Around} {outer : List Env} {s : Shared} {H : Hp} {E : XK}
    (hr : Room 0 (A.deeper (envOfC "is_whole" (defScope s_is_whole) s.heap.objs.size f cdv))) :
    LSs (cxOf (L2.CX P w) P w K mg base ["value"] "is_whole" (defScope s_is_whole) f cdv A outer s H E) (defBody s_is_whole) (t_is_whole Γ) :=
  (LSs.one (LS.ret (PL.LE.and (PL.LE.isi (Ts := "int") rfl T.b_isinstance rfl T.b_int (by decide +kernel) (PL.LE.var 0)) (PL.LE.one (PL.LE.not (PL.LE.isi (Ts := "bool") rfl T.b_isinstance rfl T.b_bool (by decide +kernel) (PL.LE.var 0)))))))
def t_is_number (Γ : Ctx) : PTS := (pRet (pAndV (pCall (sp_is_whole Γ) (pCons (pVar 0) pNil)) (pChain (fun i j => decide (i ≤ j)) (fun i j => decide (i ≤ j)) (pVar 1) (pVar 0) (pVar 2))))
theorem d_is_number {P : Program} {w : World} {K : PySem.W.Frag} {mg : Str → Option Value} {base : Heap} {Γ : Ctx} (T : Txt K mg Γ) (G_is_whole : GFn P w K mg base (PySem.Str.ofString "is_whole") 1 ["value"] (sp_is_whole Γ)) {f : Addr} {cdv : Value} {A : Around} {outer : List Env} {s : Shared} {H : Hp} {E : XK}
    (hr : Room 1 (A.deeper (envOfC "is_number" (defScope s_is_number) s.heap.objs.size f cdv))) :
    LSs (cxOf (L2.CX P w) P w K mg base ["value", "low", "high"] "is_number" (defScope s_is_number) f cdv A outer s H E) (defBody s_is_number) (t_is_number Γ) :=
  (LSs.one (LS.ret (PL.LE.and (PL.LE.call G_is_whole (hr.mono (by decide)) rfl (LA.cons (PL.LE.var 0) LA.nil)) (PL.LE.one (PL.LE.lele (PL.LE.var 1) (PL.LE.var 0) (PL.LE.var 2))))))
def t_pushed (Γ : Ctx) : PTS := (pSeq (pIfS (pAnd (pTest (pBin oEq (pVar 0) (pC (.int 0)))) (pTest (pBin oEq (pVar 1) (pTup pNil)))) (pRet (pTup pNil)) pNext) (pRet (pBin oAdd (pTup (pCons (pVar 0) pNil)) (pVar 1))))
theorem d_pushed {P : Program} {w : World} {K : PySem.W.Frag} {mg : Str → Option Value} {base : Heap} {Γ : Ctx} (T : Txt K mg Γ)  {f : Addr} {cdv : Value} {A : Around} {outer : List Env} {s : Shared} {H : Hp} {E : XK}
    (hr : Room 0 (A.deeper (envOfC "pushed" (defScope s_pushed) s.heap.objs.size f cdv))) :
    LSs (cxOf (L2.CX P w) P w K mg base ["mark", "side"] "pushed" (defScope s_pushed) f cdv A outer s H E) (defBody s_pushed) (t_pushed Γ) :=
  (LSs.cons (LS.ite (LW.lt (LW.and (PL.LT.eq hr.units (PL.LE.var 0) PL.LE.int) (LW.and1 (PL.LT.eq hr.units (PL.LE.var 1) (PL.LE.tup LA.nil))))) (LSs.one (LS.ret (PL.LE.tup LA.nil))) LSs.nil) (LSs.one (LS.ret (PL.LE.add (PL.LE.tup (LA.cons (PL.LE.var 0) LA.nil)) (PL.LE.var 1)))))
def t_nearest (Γ : Ctx) : PTS := (pSeq (pIfS (pTest (pBin oEq (pVar 0) (pTup pNil))) (pRet (pC (.int 0))) pNext) (pRet (pBin oIx (pVar 0) (pC (.int 0)))))
theorem d_nearest {P : Program} {w : World} {K : PySem.W.Frag} {mg : Str → Option Value} {base : Heap} {Γ : Ctx} (T : Txt K mg Γ)  {f : Addr} {cdv : Value} {A : Around} {outer : List Env} {s : Shared} {H : Hp} {E : XK}
    (hr : Room 0 (A.deeper (envOfC "nearest" (defScope s_nearest) s.heap.objs.size f cdv))) :
    LSs (cxOf (L2.CX P w) P w K mg base ["side"] "nearest" (defScope s_nearest) f cdv A outer s H E) (defBody s_nearest) (t_nearest Γ) :=
  (LSs.cons (LS.ite (PL.LT.eq hr.units (PL.LE.var 0) (PL.LE.tup LA.nil)) (LSs.one (LS.ret PL.LE.int)) LSs.nil) (LSs.one (LS.ret (PL.LE.ix (PL.LE.var 0) PL.LE.int))))
def t_moved (Γ : Ctx) : PTS := (pSeq (pAsg (pVar 0) (gpTup 3 (gpCons (gpName 2) (gpCons (gpName 3) (gpCons (gpName 4) gpNil))))) (pSeq (pIfS (pTest (pBin oEq (pVar 1) (pC (.int 1)))) (pRet (pTup (pCons (pCall (sp_pushed Γ) (pCons (pVar 3) (pCons (pVar 2) pNil))) (pCons (pCall (sp_nearest Γ) (pCons (pVar 4) pNil)) (pCons (pSl (pVar 4) (pPart (pC (.int 1))) pNoPart) pNil))))) pNext) (pSeq (pIfS (pTest (pBin oEq (pVar 1) (pNeg (pC (.int 1))))) (pRet (pTup (pCons (pSl (pVar 2) (pPart (pC (.int 1))) pNoPart) (pCons (pCall (sp_nearest Γ) (pCons (pVar 2) pNil)) (pCons (pCall (sp_pushed Γ) (pCons (pVar 3) (pCons (pVar 4) pNil))) pNil))))) pNext) (pRet (pVar 0)))))
theorem d_moved {P : Program} {w : World} {K : PySem.W.Frag} {mg : Str → Option Value} {base : Heap} {Γ : Ctx} (T : Txt K mg Γ) (G_pushed : GFn P w K mg base (PySem.Str.ofString "pushed") 1 ["mark", "side"] (sp_pushed Γ)) (G_nearest : GFn P w K mg base (PySem.Str.ofString "nearest") 1 ["side"] (sp_nearest Γ)) {f : Addr} {cdv : Value} {A : Around} {outer : List Env} {s : Shared} {H : Hp} {E : XK}
    (hr : Room 1 (A.deeper (envOfC "moved" (defScope s_moved) s.heap.objs.size f cdv))) :
    LSs (cxOf (L2.CX P w) P w K mg base ["tape", "move", "left", "mark", "right"] "moved" (defScope s_moved) f cdv A outer s H E) (defBody s_moved) (t_moved Γ) :=
  (LSs.cons (LS.asg (PL.LE.var 0) (LG.tup rfl (LGs.cons (LG.name 2 sc_moved.nd) (LGs.cons (LG.name 3 sc_moved.nd) (LGs.cons (LG.name 4 sc_moved.nd) LGs.nil))))) (LSs.cons (LS.ite (PL.LT.eq hr.units (PL.LE.var 1) PL.LE.int) (LSs.one (LS.ret (PL.LE.tup (LA.cons (PL.LE.call G_pushed (hr.mono (by decide)) rfl (LA.cons (PL.LE.var 3) (LA.cons (PL.LE.var 2) LA.nil))) (LA.cons (PL.LE.call G_nearest (hr.mono (by decide)) rfl (LA.cons (PL.LE.var 4) LA.nil)) (LA.cons (PL.LE.slice (PL.LE.var 4) (LO.some PL.LE.int) LO.none) LA.nil)))))) LSs.nil) (LSs.cons (LS.ite (PL.LT.eq hr.units (PL.LE.var 1) (PL.LE.neg PL.LE.int)) (LSs.one (LS.ret (PL.LE.tup (LA.cons (PL.LE.slice (PL.LE.var 2) (LO.some PL.LE.int) LO.none) (LA.cons (PL.LE.call G_nearest (hr.mono (by decide)) rfl (LA.cons (PL.LE.var 2) LA.nil)) (LA.cons (PL.LE.call G_pushed (hr.mono (by decide)) rfl (LA.cons (PL.LE.var 3) (LA.cons (PL.LE.var 4) LA.nil))) LA.nil)))))) LSs.nil) (LSs.one (LS.ret (PL.LE.var 0))))))
def t_is_row (Γ : Ctx) : PTS := (pSeq (pIfS (pTIsN (pVar 0)) (pRet (pC (.bl true))) pNext) (pSeq (pIfS (pOr (pNot (pTest (fun E σ M Q => (pVar 0) E σ M fun x M1 => kIsi "tuple" x M1 Q))) (pTest (pBin oNe (pCallB (on1 kLen) (pCons (pVar 0) pNil)) (pC (.int 3))))) (pRet (pC (.bl false))) pNext) (pSeq (pAsg (pVar 0) (gpTup 3 (gpCons (gpName 3) (gpCons (gpName 4) (gpCons (gpName 5) gpNil))))) (pSeq (pIfS (pOr (pNot (pTest (pCall (sp_is_number Γ) (pCons (pVar 4) (pCons (pNeg (pC (.int 1))) (pCons (pC (.int 1)) pNil)))))) (pTest (pBin oEq (pVar 4) (pC (.int 0))))) (pRet (pC (.bl false))) pNext) (pRet (pAndV (pCall (sp_is_number Γ) (pCons (pVar 3) (pCons (pC (.int 0)) (pCons (pBin oSub (pVar 1) (pC (.int 1))) pNil)))) (pCall (sp_is_number Γ) (pCons (pVar 5) (pCons (pC (.int 0)) (pCons (pBin oSub (pVar 2) (pC (.int 1))) pNil))))))))))
theorem d_is_row {P : Program} {w : World} {K : PySem.W.Frag} {mg : Str → Option Value} {base : Heap} {Γ : Ctx} (T : Txt K mg Γ) (G_is_number : GFn P w K mg base (PySem.Str.ofString "is_number") 2 ["value", "low", "high"] (sp_is_number Γ)) {f : Addr} {cdv : Value} {A : Around} {outer : List Env} {s : Shared} {H : Hp} {E : XK}
    (hr : Room 2 (A.deeper (envOfC "is_row" (defScope s_is_row) s.heap.objs.size f cdv))) :
    LSs (cxOf (L2.CX P w) P w K mg base ["row", "marks", "states", "mark", "move", "state"] "is_row" (defScope s_is_row) f cdv A outer s H E) (defBody s_is_row) (t_is_row Γ) :=
  (LSs.cons (LS.ite (PL.LT.isN (PL.LE.var 0)) (LSs.one (LS.ret PL.LE.bl)) LSs.nil) (LSs.cons (LS.ite (LW.lt (LW.or (PL.LT.not (PL.LT.val (PL.LE.isi (Ts := "tuple") rfl T.b_isinstance rfl T.b_tuple (by decide +kernel) (PL.LE.var 0)))) (LW.or1 (PL.LT.ne hr.units (PL.LE.len rfl T.b_len (LA.cons (PL.LE.var 0) LA.nil)) PL.LE.int)))) (LSs.one (LS.ret PL.LE.bl)) LSs.nil) (LSs.cons (LS.asg (PL.LE.var 0) (LG.tup rfl (LGs.cons (LG.name 3 sc_is_row.nd) (LGs.cons (LG.name 4 sc_is_row.nd) (LGs.cons (LG.name 5 sc_is_row.nd) LGs.nil))))) (LSs.cons (LS.ite (LW.lt (LW.or (PL.LT.not (PL.LT.val (PL.LE.call G_is_number (hr.mono (by decide)) rfl (LA.cons (PL.LE.var 4) (LA.cons (PL.LE.neg PL.LE.int) (LA.cons PL.LE.int LA.nil)))))) (LW.or1 (PL.LT.eq hr.units (PL.LE.var 4) PL.LE.int)))) (LSs.one (LS.ret PL.LE.bl)) LSs.nil) (LSs.one (LS.ret (PL.LE.and (PL.LE.call G_is_number (hr.mono (by decide)) rfl (LA.cons (PL.LE.var 3) (LA.cons PL.LE.int (LA.cons (PL.LE.sub (PL.LE.var 1) PL.LE.int) LA.nil)))) (PL.LE.one (PL.LE.call G_is_number (hr.mono (by decide)) rfl (LA.cons (PL.LE.var 5) (LA.cons PL.LE.int (LA.cons (PL.LE.sub (PL.LE.var 2) PL.LE.int) LA.nil))))))))))))
def b_Tape_init_1 (Γ : Ctx) := ((pIfS (pNot (pTest (pCall (sp_is_row Γ) (pCons (pVar 4) (pCons (pVar 1) (pCons (pVar 2) pNil)))))) pNever pNext) : PTS)
def t_Tape_init (Γ : Ctx) : PTS := (pSeq (pIfS (pNot (pTest (pCall (sp_is_number Γ) (pCons (pVar 1) (pCons (pC (.int 2)) (pCons (pC (.int 8)) pNil)))))) pNever pNext) (pSeq (pIfS (pNot (pTest (pCall (sp_is_number Γ) (pCons (pVar 2) (pCons (pC (.int 1)) (pCons (pC (.int 40)) pNil)))))) pNever pNext) (pSeq (pIfS (pOr (pNot (pTest (fun E σ M Q => (pVar 3) E σ M fun x M1 => kIsi "list" x M1 Q))) (pTest (pBin oNe (pCallB (on1 kLen) (pCons (pVar 3) pNil)) (pBin oMul (pVar 1) (pVar 2))))) pNever pNext) (pSeq (pForM (pVar 3) (gpName 4) (b_Tape_init_1 Γ)) (pSeq (pFldS Γ.Tape (PySem.Str.ofString "marks") (pVar 0) (pVar 1)) (pSeq (pFldS Γ.Tape (PySem.Str.ofString "states") (pVar 0) (pVar 2)) (pFldS Γ.Tape (PySem.Str.ofString "_rows") (pVar 0) (pCallB (on1 kList) (pCons (pVar 3) pNil)))))))))
theorem d_Tape_init {P : Program} {w : World} {K : PySem.W.Frag} {mg : Str → Option Value} {base : Heap} {Γ : Ctx} (T : Txt K mg Γ) (G_is_number : GFn P w K mg base (PySem.Str.ofString "is_number") 2 ["value", "low", "high"] (sp_is_number Γ)) (G_is_row : GFn P w K mg base (PySem.Str.ofString "is_row") 3 ["row", "marks", "states"] (sp_is_row Γ)) {f : Addr} {cdv : Value} {A : Around} {outer : List Env} {s : Shared} {H : Hp} {E : XK}
    (hr : Room 3 (A.deeper (envOfC "Tape.__init__" (defScope s_Tape_init) s.heap.objs.size f cdv))) :
    LSs (cxOf (L2.CX P w) P w K mg base ["self", "marks", "states", "rows", "row"] "Tape.__init__" (defScope s_Tape_init) f cdv A outer s H E) (defBody s_Tape_init) (t_Tape_init Γ) :=
  (LSs.cons (LS.ite (PL.LT.not (PL.LT.val (PL.LE.call G_is_number (hr.mono (by decide)) rfl (LA.cons (PL.LE.var 1) (LA.cons PL.LE.int (LA.cons PL.LE.int LA.nil)))))) (LSs.one LS.never) LSs.nil) (LSs.cons (LS.ite (PL.LT.not (PL.LT.val (PL.LE.call G_is_number (hr.mono (by decide)) rfl (LA.cons (PL.LE.var 2) (LA.cons PL.LE.int (LA.cons PL.LE.int LA.nil)))))) (LSs.one LS.never) LSs.nil) (LSs.cons (LS.ite (LW.lt (LW.or (PL.LT.not (PL.LT.val (PL.LE.isi (Ts := "list") rfl T.b_isinstance rfl T.b_list (by decide +kernel) (PL.LE.var 3)))) (LW.or1 (PL.LT.ne hr.units (PL.LE.len rfl T.b_len (LA.cons (PL.LE.var 3) LA.nil)) (PL.LE.mul (PL.LE.var 1) (PL.LE.var 2)))))) (LSs.one LS.never) LSs.nil) (LSs.cons (LS.forM (passes_of rfl) rfl (PL.LE.var 3) (LG.name 4 sc_Tape_init.nd) (LSs.one (LS.ite (PL.LT.not (PL.LT.val (PL.LE.call G_is_row (hr.mono (by decide)) rfl (LA.cons (PL.LE.var 4) (LA.cons (PL.LE.var 1) (LA.cons (PL.LE.var 2) LA.nil)))))) (LSs.one LS.never) LSs.nil))) (LSs.cons (LS.fld T.cTape.cl T.cTape.n_marks (PL.LE.var 0) (PL.LE.var 1)) (LSs.cons (LS.fld T.cTape.cl T.cTape.n_states (PL.LE.var 0) (PL.LE.var 2)) (LSs.one (LS.fld T.cTape.cl T.cTape.n_rows (PL.LE.var 0) (PL.LE.list rfl T.b_list (LA.cons (PL.LE.var 3) LA.nil))))))))))
def t_Tape_row (Γ : Ctx) : PTS := (pSeq (pIfS (pOr (pNot (pTest (pCall (sp_is_number Γ) (pCons (pVar 1) (pCons (pC (.int 0)) (pCons (pBin oSub (pFld Γ.Tape (pVar 0) (PySem.Str.ofString "states")) (pC (.int 1))) pNil)))))) (pNot (pTest (pCall (sp_is_number Γ) (pCons (pVar 2) (pCons (pC (.int 0)) (pCons (pBin oSub (pFld Γ.Tape (pVar 0) (PySem.Str.ofString "marks")) (pC (.int 1))) pNil))))))) pNever pNext) (pRet (pBin oIx (pFld Γ.Tape (pVar 0) (PySem.Str.ofString "_rows")) (pBin oAdd (pBin oMul (pVar 1) (pFld Γ.Tape (pVar 0) (PySem.Str.ofString "marks"))) (pVar 2)))))
theorem d_Tape_row {P : Program} {w : World} {K : PySem.W.Frag} {mg : Str → Option Value} {base : Heap} {Γ : Ctx} (T : Txt K mg Γ) (G_is_number : GFn P w K mg base (PySem.Str.ofString "is_number") 2 ["value", "low", "high"] (sp_is_number Γ)) {f : Addr} {cdv : Value} {A : Around} {outer : List Env} {s : Shared} {H : Hp} {E : XK}
    (hr : Room 2 (A.deeper (envOfC "Tape.row" (defScope s_Tape_row) s.heap.objs.size f cdv))) :
    LSs (cxOf (L2.CX P w) P w K mg base ["self", "state", "mark"] "Tape.row" (defScope s_Tape_row) f cdv A outer s H E) (defBody s_Tape_row) (t_Tape_row Γ) :=
  (LSs.cons (LS.ite (LW.lt (LW.or (PL.LT.not (PL.LT.val (PL.LE.call G_is_number (hr.mono (by decide)) rfl (LA.cons (PL.LE.var 1) (LA.cons PL.LE.int (LA.cons (PL.LE.sub (PL.LE.fld T.cTape.cl T.cTape.n_states (PL.LE.var 0)) PL.LE.int) LA.nil)))))) (LW.or1 (PL.LT.not (PL.LT.val (PL.LE.call G_is_number (hr.mono (by decide)) rfl (LA.cons (PL.LE.var 2) (LA.cons PL.LE.int (LA.cons (PL.LE.sub (PL.LE.fld T.cTape.cl T.cTape.n_marks (PL.LE.var 0)) PL.LE.int) LA.nil))))))))) (LSs.one LS.never) LSs.nil) (LSs.one (LS.ret (PL.LE.ix (PL.LE.fld T.cTape.cl T.cTape.n_rows (PL.LE.var 0)) (PL.LE.add (PL.LE.mul (PL.LE.var 1) (PL.LE.fld T.cTape.cl T.cTape.n_marks (PL.LE.var 0))) (PL.LE.var 2))))))
def t_Tape_table (Γ : Ctx) : PTS := (pRet (pCallB (on1 kListM) (pCons (pFld Γ.Tape (pVar 0) (PySem.Str.ofString "_rows")) pNil)))
theorem d_Tape_table {P : Program} {w : World} {K : PySem.W.Frag} {mg : Str → Option Value} {base : Heap} {Γ : Ctx} (T : Txt K mg Γ)  {f : Addr} {cdv : Value} {A : Around} {outer : List Env} {s : Shared} {H : Hp} {E : XK}
    (hr : Room 0 (A.deeper (envOfC "Tape.table" (defScope s_Tape_table) s.heap.objs.size f cdv))) :
    LSs (cxOf (L2.CX P w) P w K mg base ["self"] "Tape.table" (defScope s_Tape_table) f cdv A outer s H E) (defBody s_Tape_table) (t_Tape_table Γ) :=
  (LSs.one (LS.ret (PL.LE.listM rfl T.b_list (LA.cons (PL.LE.fld T.cTape.cl T.cTape.n_rows (PL.LE.var 0)) LA.nil))))
def t_meet (Γ : Ctx) : PTS := (pSeq (pIfS (pOr (pTIsN (pVar 0)) (pOr (pTIsN (pVar 1)) (pTest (pBin oNe (pBin oIx (pVar 0) (pC (.int 2))) (pBin oIx (pVar 1) (pC (.int 2))))))) (pRet (pC (.bl false))) pNext) (pRet (pOrV (pBin oNe (pBin oIx (pVar 0) (pC (.int 1))) (pBin oIx (pVar 1) (pC (.int 1)))) (pBin oEq (pBin oIx (pVar 0) (pC (.int 0))) (pBin oIx (pVar 1) (pC (.int 0)))))))
theorem d_meet {P : Program} {w : World} {K : PySem.W.Frag} {mg : Str → Option Value} {base : Heap} {Γ : Ctx} (T : Txt K mg Γ)  {f : Addr} {cdv : Value} {A : Around} {outer : List Env} {s : Shared} {H : Hp} {E : XK}
    (hr : Room 0 (A.deeper (envOfC "meet" (defScope s_meet) s.heap.objs.size f cdv))) :
    LSs (cxOf (L2.CX P w) P w K mg base ["one", "two"] "meet" (defScope s_meet) f cdv A outer s H E) (defBody s_meet) (t_meet Γ) :=
  (LSs.cons (LS.ite (LW.lt (LW.or (PL.LT.isN (PL.LE.var 0)) (LW.or (PL.LT.isN (PL.LE.var 1)) (LW.or1 (PL.LT.ne hr.units (PL.LE.ix (PL.LE.var 0) PL.LE.int) (PL.LE.ix (PL.LE.var 1) PL.LE.int)))))) (LSs.one (LS.ret PL.LE.bl)) LSs.nil) (LSs.one (LS.ret (PL.LE.or (PL.LE.ne hr.units (PL.LE.ix (PL.LE.var 0) PL.LE.int) (PL.LE.ix (PL.LE.var 1) PL.LE.int)) (PL.LE.one (PL.LE.eq hr.units (PL.LE.ix (PL.LE.var 0) PL.LE.int) (PL.LE.ix (PL.LE.var 1) PL.LE.int)))))))
def b_clashes_2 (Γ : Ctx) := ((pIfS (pTest (pCall (sp_meet Γ) (pCons (pBin oIx (pVar 1) (pVar 4)) (pCons (pBin oIx (pVar 1) (pVar 5)) pNil)))) (pDrop (pApp (pVar 3) (pTup (pCons (pBin oIx (pVar 2) (pVar 4)) (pCons (pBin oIx (pVar 2) (pVar 5)) pNil))))) pNext) : PTS)
def b_clashes_1 (Γ : Ctx) := ((pFor (piR2 (pBin oAdd (pVar 4) (pC (.int 1))) (pCallB (on1 kLen) (pCons (pVar 1) pNil))) (gpName 5) (b_clashes_2 Γ)) : PTS)
def t_clashes (Γ : Ctx) : PTS := (pSeq (pSet 1 (pMeth Γ.Tape (PySem.Str.ofString "table") (sp_Tape_table Γ) (pVar 0) pNil)) (pSeq (pSet 2 (pLc2 (piR1 (pFld Γ.Tape (pVar 0) (PySem.Str.ofString "states"))) 6 (piR1 (pFld Γ.Tape (pVar 0) (PySem.Str.ofString "marks"))) 7 (pTup (pCons (pVar 6) (pCons (pVar 7) pNil))))) (pSeq (pSet 3 (pLstM pNil)) (pSeq (pFor (piR1 (pCallB (on1 kLen) (pCons (pVar 1) pNil))) (gpName 4) (b_clashes_1 Γ)) (pRetF (pVar 3))))))
theorem d_clashes {P : Program} {w : World} {K : PySem.W.Frag} {mg : Str → Option Value} {base : Heap} {Γ : Ctx} (T : Txt K mg Γ) (G_Tape_table : GMt P w K mg base Γ.Tape (PySem.Str.ofString "table") 1 ["self"] (sp_Tape_table Γ)) (G_meet : GFn P w K mg base (PySem.Str.ofString "meet") 1 ["one", "two"] (sp_meet Γ)) {f : Addr} {cdv : Value} {A : Around} {outer : List Env} {s : Shared} {H : Hp} {E : XK}
    (hr : Room 1 (A.deeper (envOfC "clashes" (defScope s_clashes) s.heap.objs.size f cdv))) :
    LSs (cxOf (L2.CX P w) P w K mg base ["machine", "rows", "places", "found", "i", "j", "state", "mark"] "clashes" (defScope s_clashes) f cdv A outer s H E) (defBody s_clashes) (t_clashes Γ) :=
  (LSs.cons (LS.set 1 sc_clashes.nd (PL.LE.meth0 G_Tape_table T.cTape.cl (hr.mono (by decide)) (PL.LE.var 0))) (LSs.cons (LS.setLc2 2 rfl rfl (sw_true rfl rfl rfl (by decide +kernel)) rfl sc_clashes.nd (LI.rng1 rfl T.b_range (PL.LE.fld T.cTape.cl T.cTape.n_states (PL.LE.var 0))) (blkOk_by (N := ["machine", "rows", "places", "found", "i", "j", "state", "mark"]) (sc := defScope s_clashes) (own := [("state", 6), ("mark", 7)]) (by decide +kernel)) (by decide) (fun _ _ _ _ _ => pg_name (i := 6) sc_clashes.nd rfl (Or.inl rfl)) (fun _ _ _ _ _ => (LI.rng1 rfl T.b_range (PL.LE.fld T.cTape.cl T.cTape.n_marks (PL.LE.var 0)))) (fun _ _ _ _ _ => pg_name (i := 7) sc_clashes.nd rfl (Or.inl rfl)) (fun _ _ _ _ _ => (PL.LE.tup (LA.cons (PL.LE.var 6) (LA.cons (PL.LE.var 7) LA.nil))))) (LSs.cons (LS.set 3 sc_clashes.nd (PL.LE.lstM LA.nil)) (LSs.cons (LS.for (passes_of rfl) rfl (LI.rng1 rfl T.b_range (PL.LE.len rfl T.b_len (LA.cons (PL.LE.var 1) LA.nil))) (LG.name 4 sc_clashes.nd) (LSs.one (LS.for (passes_of rfl) rfl (LI.rng2 rfl T.b_range (PL.LE.add (PL.LE.var 4) PL.LE.int) (PL.LE.len rfl T.b_len (LA.cons (PL.LE.var 1) LA.nil))) (LG.name 5 sc_clashes.nd) (LSs.one (LS.ite (PL.LT.val (PL.LE.call G_meet (hr.mono (by decide)) rfl (LA.cons (PL.LE.ix (PL.LE.var 1) (PL.LE.var 4)) (LA.cons (PL.LE.ix (PL.LE.var 1) (PL.LE.var 5)) LA.nil)))) (LSs.one (LS.expr (PL.LE.app (PL.LE.var 3) (PL.LE.tup (LA.cons (PL.LE.ix (PL.LE.var 2) (PL.LE.var 4)) (LA.cons (PL.LE.ix (PL.LE.var 2) (PL.LE.var 5)) LA.nil)))))) LSs.nil))))) (LSs.one (LS.retF (PL.LE.var 3)))))))
def t_forgets (Γ : Ctx) : PTS := (pRet (pBin oGt (pCallB (on1 kLen) (pCons (pCall (sp_clashes Γ) (pCons (pVar 0) pNil)) pNil)) (pC (.int 0))))
theorem d_forgets {P : Program} {w : World} {K : PySem.W.Frag} {mg : Str → Option Value} {base : Heap} {Γ : Ctx} (T : Txt K mg Γ) (G_clashes : GFn P w K mg base (PySem.Str.ofString "clashes") 2 ["machine"] (sp_clashes Γ)) {f : Addr} {cdv : Value} {A : Around} {outer : List Env} {s : Shared} {H : Hp} {E : XK}
    (hr : Room 2 (A.deeper (envOfC "forgets" (defScope s_forgets) s.heap.objs.size f cdv))) :
    LSs (cxOf (L2.CX P w) P w K mg base ["machine"] "forgets" (defScope s_forgets) f cdv A outer s H E) (defBody s_forgets) (t_forgets Γ) :=
  (LSs.one (LS.ret (PL.LE.gt (PL.LE.len rfl T.b_len (LA.cons (PL.LE.call G_clashes (hr.mono (by decide)) rfl (LA.cons (PL.LE.var 0) LA.nil)) LA.nil)) PL.LE.int)))
def b_before_2 (Γ : Ctx) := ((pSeq (pSet 5 (pMeth Γ.Tape (PySem.Str.ofString "row") (sp_Tape_row Γ) (pVar 0) (pCons (pVar 3) (pCons (pVar 4) pNil)))) (pSeq (pIfS (pOr (pTIsN (pVar 5)) (pTest (pBin oNe (pBin oIx (pVar 5) (pC (.int 2))) (pBin oIx (pVar 1) (pC (.int 0)))))) pCont pNext) (pSeq (pAsg (pCall (sp_moved Γ) (pCons (pSl (pVar 1) (pPart (pC (.int 1))) pNoPart) (pCons (pNeg (pBin oIx (pVar 5) (pC (.int 1)))) pNil))) (gpTup 3 (gpCons (gpName 6) (gpCons (gpName 7) (gpCons (gpName 8) gpNil))))) (pIfS (pTest (pBin oEq (pVar 7) (pBin oIx (pVar 5) (pC (.int 0))))) (pDrop (pApp (pVar 2) (pTup (pCons (pVar 3) (pCons (pVar 6) (pCons (pVar 4) (pCons (pVar 8) pNil))))))) pNext)))) : PTS)
def b_before_1 (Γ : Ctx) := ((pFor (piR1 (pFld Γ.Tape (pVar 0) (PySem.Str.ofString "marks"))) (gpName 4) (b_before_2 Γ)) : PTS)
def t_before (Γ : Ctx) : PTS := (pSeq (pSet 2 (pLstM pNil)) (pSeq (pFor (piR1 (pFld Γ.Tape (pVar 0) (PySem.Str.ofString "states"))) (gpName 3) (b_before_1 Γ)) (pRetD [2] (pCallB (on1 kSortD) (pCons (pVar 2) pNil)))))
theorem d_before {P : Program} {w : World} {K : PySem.W.Frag} {mg : Str → Option Value} {base : Heap} {Γ : Ctx} (T : Txt K mg Γ) (G_Tape_row : GMt P w K mg base Γ.Tape (PySem.Str.ofString "row") 3 ["self", "state", "mark"] (sp_Tape_row Γ)) (G_moved : GFn P w K mg base (PySem.Str.ofString "moved") 2 ["tape", "move"] (sp_moved Γ)) {f : Addr} {cdv : Value} {A : Around} {outer : List Env} {s : Shared} {H : Hp} {E : XK}
    (hr : Room 3 (A.deeper (envOfC "before" (defScope s_before) s.heap.objs.size f cdv))) :
    LSs (cxOf (L2.CX P w) P w K mg base ["machine", "configuration", "found", "state", "mark", "row", "left", "written", "right"] "before" (defScope s_before) f cdv A outer s H E) (defBody s_before) (t_before Γ) :=
  (LSs.cons (LS.set 2 sc_before.nd (PL.LE.lstM LA.nil)) (LSs.cons (LS.for (passes_of rfl) rfl (LI.rng1 rfl T.b_range (PL.LE.fld T.cTape.cl T.cTape.n_states (PL.LE.var 0))) (LG.name 3 sc_before.nd) (LSs.one (LS.for (passes_of rfl) rfl (LI.rng1 rfl T.b_range (PL.LE.fld T.cTape.cl T.cTape.n_marks (PL.LE.var 0))) (LG.name 4 sc_before.nd) (LSs.cons (LS.set 5 sc_before.nd (PL.LE.meth G_Tape_row T.cTape.cl (hr.mono (by decide)) (PL.LE.var 0) (LA.cons (PL.LE.var 3) (LA.cons (PL.LE.var 4) LA.nil)))) (LSs.cons (LS.ite (LW.lt (LW.or (PL.LT.isN (PL.LE.var 5)) (LW.or1 (PL.LT.ne hr.units (PL.LE.ix (PL.LE.var 5) PL.LE.int) (PL.LE.ix (PL.LE.var 1) PL.LE.int))))) (LSs.one LS.cont) LSs.nil) (LSs.cons (LS.asg (PL.LE.call G_moved (hr.mono (by decide)) rfl (LA.cons (PL.LE.slice (PL.LE.var 1) (LO.some PL.LE.int) LO.none) (LA.cons (PL.LE.neg (PL.LE.ix (PL.LE.var 5) PL.LE.int)) LA.nil))) (LG.tup rfl (LGs.cons (LG.name 6 sc_before.nd) (LGs.cons (LG.name 7 sc_before.nd) (LGs.cons (LG.name 8 sc_before.nd) LGs.nil))))) (LSs.one (LS.ite (PL.LT.eq hr.units (PL.LE.var 7) (PL.LE.ix (PL.LE.var 5) PL.LE.int)) (LSs.one (LS.expr (PL.LE.app (PL.LE.var 2) (PL.LE.tup (LA.cons (PL.LE.var 3) (LA.cons (PL.LE.var 6) (LA.cons (PL.LE.var 4) (LA.cons (PL.LE.var 8) LA.nil)))))))) LSs.nil)))))))) (LSs.one (LS.retD [2] (PL.LE.sortedD (Room.units65 hr) rfl T.b_sorted (LA.cons (PL.LE.var 2) LA.nil))))))
def b_law_numbers_2 (Γ : Ctx) := ((pIfS (pAnd (pTest (pBin oGt (pVar 4) (pC (.int 0)))) (pTest (pBin oLt (pCallB (on1 kLen) (pCons (pVar 2) pNil)) (pVar 1)))) (pSeq (pDrop (pApp (pVar 2) (pBin oMod (pVar 4) (pC (.int 1000))))) (pSet 4 (pBin oDiv (pVar 4) (pC (.int 1000))))) pNext) : PTS)
def b_law_numbers_3 (Γ : Ctx) := ((pSeq (pSet 6 (pBin oMod (pCallB (on1 kInt) (pCons (pBin oAdd (pBin oAdd (pBin oAdd (pBin oMul (pVar 4) (pC (.int 48271))) (pBin oMul (pVar 3) (pC (.int 69621)))) (pBin oMul (pVar 5) (pC (.int 16807)))) (pC (.int 11))) pNil)) (pC (.int 2147483647)))) (pSeq (pSet 6 (pBin oMod (pCallB (on1 kInt) (pCons (pBin oAdd (pBin oMul (pVar 6) (pVar 6)) (pVar 5)) pNil)) (pC (.int 2147483629)))) (pDrop (pApp (pVar 2) (pBin oMod (pBin oDiv (pVar 6) (pC (.int 7))) (pC (.int 1000))))))) : PTS)
def b_law_numbers_1 (Γ : Ctx) := ((pSeq (pSet 4 (pCallB (on1 kAbs) (pCons (pBin oIx (pVar 0) (pVar 3)) pNil))) (pIfS (pTest (pBin oGe (pVar 4) (pBin oPow (pC (.int 10)) (pC (.int 18))))) (pFor (piR1 (pC (.int 60))) (gpName 5) (b_law_numbers_2 Γ)) (pFor (piR1 (pC (.int 5))) (gpName 5) (b_law_numbers_3 Γ)))) : PTS)
def t_law_numbers (Γ : Ctx) : PTS := (pSeq (pSet 2 (pLstM pNil)) (pSeq (pFor (piR1 (pCallB (on1 kLen) (pCons (pVar 0) pNil))) (gpName 3) (b_law_numbers_1 Γ)) (pRetD [2] (pSl (pVar 2) pNoPart (pPart (pVar 1))))))
theorem d_law_numbers {P : Program} {w : World} {K : PySem.W.Frag} {mg : Str → Option Value} {base : Heap} {Γ : Ctx} (T : Txt K mg Γ)  {f : Addr} {cdv : Value} {A : Around} {outer : List Env} {s : Shared} {H : Hp} {E : XK}
    (hr : Room 0 (A.deeper (envOfC "_law_numbers" (defScope s_law_numbers) s.heap.objs.size f cdv))) :
    LSs (cxOf (L2.CX P w) P w K mg base ["script", "many", "numbers", "k", "cell", "j", "mixed"] "_law_numbers" (defScope s_law_numbers) f cdv A outer s H E) (defBody s_law_numbers) (t_law_numbers Γ) :=
  (LSs.cons (LS.set 2 sc_law_numbers.nd (PL.LE.lstM LA.nil)) (LSs.cons (LS.for (passes_of rfl) rfl (LI.rng1 rfl T.b_range (PL.LE.len rfl T.b_len (LA.cons (PL.LE.var 0) LA.nil))) (LG.name 3 sc_law_numbers.nd) (LSs.cons (LS.set 4 sc_law_numbers.nd (PL.LE.abs rfl T.b_abs (LA.cons (PL.LE.ix (PL.LE.var 0) (PL.LE.var 3)) LA.nil))) (LSs.one (LS.ite (PL.LT.ge (PL.LE.var 4) (PL.LE.pow PL.LE.int PL.LE.int)) (LSs.one (LS.for (passes_of rfl) rfl (LI.rng1 rfl T.b_range PL.LE.int) (LG.name 5 sc_law_numbers.nd) (LSs.one (LS.ite (LW.lt (LW.and (PL.LT.gt (PL.LE.var 4) PL.LE.int) (LW.and1 (PL.LT.lt (PL.LE.len rfl T.b_len (LA.cons (PL.LE.var 2) LA.nil)) (PL.LE.var 1))))) (LSs.cons (LS.expr (PL.LE.app (PL.LE.var 2) (PL.LE.mod (PL.LE.var 4) PL.LE.int))) (LSs.one (LS.set 4 sc_law_numbers.nd (PL.LE.div (PL.LE.var 4) PL.LE.int)))) LSs.nil)))) (LSs.one (LS.for (passes_of rfl) rfl (LI.rng1 rfl T.b_range PL.LE.int) (LG.name 5 sc_law_numbers.nd) (LSs.cons (LS.set 6 sc_law_numbers.nd (PL.LE.mod (PL.LE.intOf rfl T.b_int (LA.cons (PL.LE.add (PL.LE.add (PL.LE.add (PL.LE.mul (PL.LE.var 4) PL.LE.int) (PL.LE.mul (PL.LE.var 3) PL.LE.int)) (PL.LE.mul (PL.LE.var 5) PL.LE.int)) PL.LE.int) LA.nil)) PL.LE.int)) (LSs.cons (LS.set 6 sc_law_numbers.nd (PL.LE.mod (PL.LE.intOf rfl T.b_int (LA.cons (PL.LE.add (PL.LE.mul (PL.LE.var 6) (PL.LE.var 6)) (PL.LE.var 5)) LA.nil)) PL.LE.int)) (LSs.one (LS.expr (PL.LE.app (PL.LE.var 2) (PL.LE.mod (PL.LE.div (PL.LE.var 6) PL.LE.int) PL.LE.int)))))))))))) (LSs.one (LS.retD [2] (PL.LE.slice (PL.LE.var 2) LO.none (LO.some (PL.LE.var 1)))))))
def t_law_take (Γ : Ctx) : PTS := (pSeq (pIfS (pTest (pBin oLt (pBin oIx (pVar 1) (pC (.int 0))) (pCallB (on1 kLen) (pCons (pVar 0) pNil)))) (pSeq (pAsg (pBin oAdd (pBin oIx (pVar 1) (pC (.int 0))) (pC (.int 1))) (gpSub (pVar 1) (pC (.int 0)))) (pRet (pBin oIx (pVar 0) (pBin oSub (pBin oIx (pVar 1) (pC (.int 0))) (pC (.int 1)))))) pNext) (pRet (pC (.int 0))))
theorem d_law_take {P : Program} {w : World} {K : PySem.W.Frag} {mg : Str → Option Value} {base : Heap} {Γ : Ctx} (T : Txt K mg Γ)  {f : Addr} {cdv : Value} {A : Around} {outer : List Env} {s : Shared} {H : Hp} {E : XK}
    (hr : Room 0 (A.deeper (envOfC "_law_take" (defScope s_law_take) s.heap.objs.size f cdv))) :
    LSs (cxOf (L2.CX P w) P w K mg base ["numbers", "place"] "_law_take" (defScope s_law_take) f cdv A outer s H E) (defBody s_law_take) (t_law_take Γ) :=
  (LSs.cons (LS.ite (PL.LT.lt (PL.LE.ix (PL.LE.var 1) PL.LE.int) (PL.LE.len rfl T.b_len (LA.cons (PL.LE.var 0) LA.nil))) (LSs.cons (LS.asg (PL.LE.add (PL.LE.ix (PL.LE.var 1) PL.LE.int) PL.LE.int) (LG.sub (PL.LE.var 1) PL.LE.int)) (LSs.one (LS.ret (PL.LE.ix (PL.LE.var 0) (PL.LE.sub (PL.LE.ix (PL.LE.var 1) PL.LE.int) PL.LE.int))))) LSs.nil) (LSs.one (LS.ret PL.LE.int)))
def b_law_machine_1 (Γ : Ctx) := ((pIfS (pTest (pBin oLt (pVar 6) (pC (.int 400)))) (pSeq (pSet 7 (pBin oAdd (pCall (sp_law_take Γ) (pCons (pVar 0) (pCons (pVar 1) pNil))) (pBin oMul (pC (.int 17)) (pBin oDiv (pVar 6) (pC (.int 24)))))) (pSeq (pSet 8 (pTup (pCons (pBin oMod (pVar 7) (pVar 2)) (pCons (pBin oIx (pTup (pCons (pNeg (pC (.int 1))) (pCons (pC (.int 1)) pNil))) (pBin oMod (pBin oDiv (pVar 7) (pC (.int 4))) (pC (.int 2)))) (pCons (pBin oMod (pBin oDiv (pVar 7) (pC (.int 8))) (pVar 3)) pNil))))) (pSeq (pIfS (pAnd (pTest (pBin oEq (pVar 5) (pC (.int 1)))) (pTest (pBin oGt (pVar 6) (pC (.int 0))))) (pSet 8 (pTup (pCons (pBin oMod (pVar 7) (pVar 2)) (pCons (pC (.int 1)) (pCons (pBin oMod (pBin oDiv (pVar 7) (pC (.int 8))) (pVar 3)) pNil))))) pNext) (pSeq (pIfS (pAnd (pTest (pBin oEq (pBin oMod (pBin oDiv (pVar 7) (pC (.int 50))) (pC (.int 7))) (pC (.int 0)))) (pTest (pBin oNe (pVar 5) (pC (.int 2))))) (pSet 8 (pC .non)) pNext) (pDrop (pApp (pVar 4) (pVar 8))))))) pNext) : PTS)
def t_law_machine (Γ : Ctx) : PTS := (pSeq (pSet 4 (pLstM pNil)) (pSeq (pSet 5 (pBin oMod (pCall (sp_law_take Γ) (pCons (pVar 0) (pCons (pVar 1) pNil))) (pC (.int 4)))) (pSeq (pFor (piR1 (pBin oMul (pVar 2) (pVar 3))) (gpName 6) (b_law_machine_1 Γ)) (pRetF (pVar 4)))))
theorem d_law_machine {P : Program} {w : World} {K : PySem.W.Frag} {mg : Str → Option Value} {base : Heap} {Γ : Ctx} (T : Txt K mg Γ) (G_law_take : GFn P w K mg base (PySem.Str.ofString "_law_take") 1 ["numbers", "place"] (sp_law_take Γ)) {f : Addr} {cdv : Value} {A : Around} {outer : List Env} {s : Shared} {H : Hp} {E : XK}
    (hr : Room 1 (A.deeper (envOfC "_law_machine" (defScope s_law_machine) s.heap.objs.size f cdv))) :
    LSs (cxOf (L2.CX P w) P w K mg base ["numbers", "place", "marks", "states", "rows", "style", "k", "number", "row"] "_law_machine" (defScope s_law_machine) f cdv A outer s H E) (defBody s_law_machine) (t_law_machine Γ) :=
  (LSs.cons (LS.set 4 sc_law_machine.nd (PL.LE.lstM LA.nil)) (LSs.cons (LS.set 5 sc_law_machine.nd (PL.LE.mod (PL.LE.call G_law_take (hr.mono (by decide)) rfl (LA.cons (PL.LE.var 0) (LA.cons (PL.LE.var 1) LA.nil))) PL.LE.int)) (LSs.cons (LS.for (passes_of rfl) rfl (LI.rng1 rfl T.b_range (PL.LE.mul (PL.LE.var 2) (PL.LE.var 3))) (LG.name 6 sc_law_machine.nd) (LSs.one (LS.ite (PL.LT.lt (PL.LE.var 6) PL.LE.int) (LSs.cons (LS.set 7 sc_law_machine.nd (PL.LE.add (PL.LE.call G_law_take (hr.mono (by decide)) rfl (LA.cons (PL.LE.var 0) (LA.cons (PL.LE.var 1) LA.nil))) (PL.LE.mul PL.LE.int (PL.LE.div (PL.LE.var 6) PL.LE.int)))) (LSs.cons (LS.set 8 sc_law_machine.nd (PL.LE.tup (LA.cons (PL.LE.mod (PL.LE.var 7) (PL.LE.var 2)) (LA.cons (PL.LE.ix (PL.LE.tup (LA.cons (PL.LE.neg PL.LE.int) (LA.cons PL.LE.int LA.nil))) (PL.LE.mod (PL.LE.div (PL.LE.var 7) PL.LE.int) PL.LE.int)) (LA.cons (PL.LE.mod (PL.LE.div (PL.LE.var 7) PL.LE.int) (PL.LE.var 3)) LA.nil))))) (LSs.cons (LS.ite (LW.lt (LW.and (PL.LT.eq hr.units (PL.LE.var 5) PL.LE.int) (LW.and1 (PL.LT.gt (PL.LE.var 6) PL.LE.int)))) (LSs.one (LS.set 8 sc_law_machine.nd (PL.LE.tup (LA.cons (PL.LE.mod (PL.LE.var 7) (PL.LE.var 2)) (LA.cons PL.LE.int (LA.cons (PL.LE.mod (PL.LE.div (PL.LE.var 7) PL.LE.int) (PL.LE.var 3)) LA.nil)))))) LSs.nil) (LSs.cons (LS.ite (LW.lt (LW.and (PL.LT.eq hr.units (PL.LE.mod (PL.LE.div (PL.LE.var 7) PL.LE.int) PL.LE.int) PL.LE.int) (LW.and1 (PL.LT.ne hr.units (PL.LE.var 5) PL.LE.int)))) (LSs.one (LS.set 8 sc_law_machine.nd PL.LE.non)) LSs.nil) (LSs.one (LS.expr (PL.LE.app (PL.LE.var 4) (PL.LE.var 8)))))))) LSs.nil))) (LSs.one (LS.retF (PL.LE.var 4))))))
def t_law_sizes (Γ : Ctx) : PTS := (pSeq (pSet 2 (pCall (sp_law_take Γ) (pCons (pVar 0) (pCons (pVar 1) pNil)))) (pSeq (pSet 3 (pCall (sp_law_take Γ) (pCons (pVar 0) (pCons (pVar 1) pNil)))) (pSeq (pIfS (pTest (pBin oEq (pBin oMod (pBin oDiv (pVar 2) (pC (.int 3))) (pC (.int 12))) (pC (.int 11)))) (pRet (pTup (pCons (pBin oAdd (pC (.int 5)) (pBin oMod (pVar 2) (pC (.int 4)))) (pCons (pBin oIx (pTup (pCons (pC (.int 40)) (pCons (pBin oAdd (pC (.int 7)) (pBin oMod (pVar 3) (pC (.int 14)))) (pCons (pBin oAdd (pC (.int 7)) (pBin oMod (pVar 3) (pC (.int 34)))) pNil)))) (pBin oMod (pVar 3) (pC (.int 3)))) pNil)))) pNext) (pRet (pTup (pCons (pBin oAdd (pC (.int 2)) (pBin oMod (pVar 2) (pC (.int 3)))) (pCons (pBin oAdd (pC (.int 1)) (pBin oMod (pVar 3) (pC (.int 6)))) pNil)))))))
theorem d_law_sizes {P : Program} {w : World} {K : PySem.W.Frag} {mg : Str → Option Value} {base : Heap} {Γ : Ctx} (T : Txt K mg Γ) (G_law_take : GFn P w K mg base (PySem.Str.ofString "_law_take") 1 ["numbers", "place"] (sp_law_take Γ)) {f : Addr} {cdv : Value} {A : Around} {outer : List Env} {s : Shared} {H : Hp} {E : XK}
    (hr : Room 1 (A.deeper (envOfC "_law_sizes" (defScope s_law_sizes) s.heap.objs.size f cdv))) :
    LSs (cxOf (L2.CX P w) P w K mg base ["numbers", "place", "first", "second"] "_law_sizes" (defScope s_law_sizes) f cdv A outer s H E) (defBody s_law_sizes) (t_law_sizes Γ) :=
  (LSs.cons (LS.set 2 sc_law_sizes.nd (PL.LE.call G_law_take (hr.mono (by decide)) rfl (LA.cons (PL.LE.var 0) (LA.cons (PL.LE.var 1) LA.nil)))) (LSs.cons (LS.set 3 sc_law_sizes.nd (PL.LE.call G_law_take (hr.mono (by decide)) rfl (LA.cons (PL.LE.var 0) (LA.cons (PL.LE.var 1) LA.nil)))) (LSs.cons (LS.ite (PL.LT.eq hr.units (PL.LE.mod (PL.LE.div (PL.LE.var 2) PL.LE.int) PL.LE.int) PL.LE.int) (LSs.one (LS.ret (PL.LE.tup (LA.cons (PL.LE.add PL.LE.int (PL.LE.mod (PL.LE.var 2) PL.LE.int)) (LA.cons (PL.LE.ix (PL.LE.tup (LA.cons PL.LE.int (LA.cons (PL.LE.add PL.LE.int (PL.LE.mod (PL.LE.var 3) PL.LE.int)) (LA.cons (PL.LE.add PL.LE.int (PL.LE.mod (PL.LE.var 3) PL.LE.int)) LA.nil)))) (PL.LE.mod (PL.LE.var 3) PL.LE.int)) LA.nil))))) LSs.nil) (LSs.one (LS.ret (PL.LE.tup (LA.cons (PL.LE.add PL.LE.int (PL.LE.mod (PL.LE.var 2) PL.LE.int)) (LA.cons (PL.LE.add PL.LE.int (PL.LE.mod (PL.LE.var 3) PL.LE.int)) LA.nil))))))))
def t_law_trim (Γ : Ctx) : PTS := (pSeq (pSet 1 (pCallB (on1 kLen) (pCons (pLc (piR1 (pCallB (on1 kLen) (pCons (pVar 0) pNil))) 2 (pTest (pBin oGt (pCallB (on1 kMaxT) (pCons (pBin oAdd (pTup (pCons (pC (.int 0)) pNil)) (pSl (pVar 0) (pPart (pVar 2)) pNoPart)) pNil)) (pC (.int 0)))) (pVar 2)) pNil))) (pRet (pSl (pVar 0) pNoPart (pPart (pVar 1)))))
theorem d_law_trim {P : Program} {w : World} {K : PySem.W.Frag} {mg : Str → Option Value} {base : Heap} {Γ : Ctx} (T : Txt K mg Γ)  {f : Addr} {cdv : Value} {A : Around} {outer : List Env} {s : Shared} {H : Hp} {E : XK}
    (hr : Room 0 (A.deeper (envOfC "_law_trim" (defScope s_law_trim) s.heap.objs.size f cdv))) :
    LSs (cxOf (L2.CX P w) P w K mg base ["marks", "count", "k"] "_law_trim" (defScope s_law_trim) f cdv A outer s H E) (defBody s_law_trim) (t_law_trim Γ) :=
  (LSs.cons (LS.set 1 sc_law_trim.nd (PL.LE.len rfl T.b_len (LA.cons (PL.LE.lc rfl sc_law_trim.nd (LI.rng1 rfl T.b_range (PL.LE.len rfl T.b_len (LA.cons (PL.LE.var 0) LA.nil))) (blkOk_by (N := ["marks", "count", "k"]) (sc := defScope s_law_trim) (by decide +kernel)) (fun _ _ _ _ _ => pg_name (i := 2) sc_law_trim.nd rfl (Or.inl rfl)) (fun _ _ _ _ _ => (LTs.one (PL.LT.gt (PL.LE.maxT rfl rfl T.b_max (LA.cons (PL.LE.add (PL.LE.tup (LA.cons PL.LE.int LA.nil)) (PL.LE.slice (PL.LE.var 0) (LO.some (PL.LE.var 2)) LO.none)) LA.nil)) PL.LE.int))) (fun _ _ _ _ _ => (PL.LE.var 2))) LA.nil))) (LSs.one (LS.ret (PL.LE.slice (PL.LE.var 0) LO.none (LO.some (PL.LE.var 1))))))
def b_law_side_1 (Γ : Ctx) := ((pSet 4 (pBin oAdd (pVar 4) (pTup (pCons (pBin oMod (pCall (sp_law_take Γ) (pCons (pVar 0) (pCons (pVar 1) pNil))) (pVar 2)) pNil)))) : PTS)
def t_law_side (Γ : Ctx) : PTS := (pSeq (pSet 4 (pTup pNil)) (pSeq (pFor (piR1 (pBin oMod (pCall (sp_law_take Γ) (pCons (pVar 0) (pCons (pVar 1) pNil))) (pBin oAdd (pVar 3) (pC (.int 1))))) (gpName 5) (b_law_side_1 Γ)) (pRet (pCall (sp_law_trim Γ) (pCons (pVar 4) pNil)))))
theorem d_law_side {P : Program} {w : World} {K : PySem.W.Frag} {mg : Str → Option Value} {base : Heap} {Γ : Ctx} (T : Txt K mg Γ) (G_law_trim : GFn P w K mg base (PySem.Str.ofString "_law_trim") 1 ["marks"] (sp_law_trim Γ)) (G_law_take : GFn P w K mg base (PySem.Str.ofString "_law_take") 1 ["numbers", "place"] (sp_law_take Γ)) {f : Addr} {cdv : Value} {A : Around} {outer : List Env} {s : Shared} {H : Hp} {E : XK}
    (hr : Room 1 (A.deeper (envOfC "_law_side" (defScope s_law_side) s.heap.objs.size f cdv))) :
    LSs (cxOf (L2.CX P w) P w K mg base ["numbers", "place", "marks", "most", "side", "k"] "_law_side" (defScope s_law_side) f cdv A outer s H E) (defBody s_law_side) (t_law_side Γ) :=
  (LSs.cons (LS.set 4 sc_law_side.nd (PL.LE.tup LA.nil)) (LSs.cons (LS.for (passes_of rfl) rfl (LI.rng1 rfl T.b_range (PL.LE.mod (PL.LE.call G_law_take (hr.mono (by decide)) rfl (LA.cons (PL.LE.var 0) (LA.cons (PL.LE.var 1) LA.nil))) (PL.LE.add (PL.LE.var 3) PL.LE.int))) (LG.name 5 sc_law_side.nd) (LSs.one (LS.set 4 sc_law_side.nd (PL.LE.add (PL.LE.var 4) (PL.LE.tup (LA.cons (PL.LE.mod (PL.LE.call G_law_take (hr.mono (by decide)) rfl (LA.cons (PL.LE.var 0) (LA.cons (PL.LE.var 1) LA.nil))) (PL.LE.var 2)) LA.nil)))))) (LSs.one (LS.ret (PL.LE.call G_law_trim (hr.mono (by decide)) rfl (LA.cons (PL.LE.var 4) LA.nil))))))
def t_law_configuration (Γ : Ctx) : PTS := (pSeq (pSet 5 (pCall (sp_law_side Γ) (pCons (pVar 0) (pCons (pVar 1) (pCons (pVar 2) (pCons (pVar 4) pNil)))))) (pSeq (pSet 6 (pCall (sp_law_side Γ) (pCons (pVar 0) (pCons (pVar 1) (pCons (pVar 2) (pCons (pVar 4) pNil)))))) (pRet (pTup (pCons (pBin oMod (pCall (sp_law_take Γ) (pCons (pVar 0) (pCons (pVar 1) pNil))) (pVar 3)) (pCons (pVar 5) (pCons (pBin oMod (pCall (sp_law_take Γ) (pCons (pVar 0) (pCons (pVar 1) pNil))) (pVar 2)) (pCons (pVar 6) pNil))))))))
theorem d_law_configuration {P : Program} {w : World} {K : PySem.W.Frag} {mg : Str → Option Value} {base : Heap} {Γ : Ctx} (T : Txt K mg Γ) (G_law_side : GFn P w K mg base (PySem.Str.ofString "_law_side") 2 ["numbers", "place", "marks", "most"] (sp_law_side Γ)) (G_law_take : GFn P w K mg base (PySem.Str.ofString "_law_take") 1 ["numbers", "place"] (sp_law_take Γ)) {f : Addr} {cdv : Value} {A : Around} {outer : List Env} {s : Shared} {H : Hp} {E : XK}
    (hr : Room 2 (A.deeper (envOfC "_law_configuration" (defScope s_law_configuration) s.heap.objs.size f cdv))) :
    LSs (cxOf (L2.CX P w) P w K mg base ["numbers", "place", "marks", "states", "most", "left", "right"] "_law_configuration" (defScope s_law_configuration) f cdv A outer s H E) (defBody s_law_configuration) (t_law_configuration Γ) :=
  (LSs.cons (LS.set 5 sc_law_configuration.nd (PL.LE.call G_law_side (hr.mono (by decide)) rfl (LA.cons (PL.LE.var 0) (LA.cons (PL.LE.var 1) (LA.cons (PL.LE.var 2) (LA.cons (PL.LE.var 4) LA.nil)))))) (LSs.cons (LS.set 6 sc_law_configuration.nd (PL.LE.call G_law_side (hr.mono (by decide)) rfl (LA.cons (PL.LE.var 0) (LA.cons (PL.LE.var 1) (LA.cons (PL.LE.var 2) (LA.cons (PL.LE.var 4) LA.nil)))))) (LSs.one (LS.ret (PL.LE.tup (LA.cons (PL.LE.mod (PL.LE.call G_law_take (hr.mono (by decide)) rfl (LA.cons (PL.LE.var 0) (LA.cons (PL.LE.var 1) LA.nil))) (PL.LE.var 3)) (LA.cons (PL.LE.var 5) (LA.cons (PL.LE.mod (PL.LE.call G_law_take (hr.mono (by decide)) rfl (LA.cons (PL.LE.var 0) (LA.cons (PL.LE.var 1) LA.nil))) (PL.LE.var 2)) (LA.cons (PL.LE.var 6) LA.nil)))))))))
def t_law_step (Γ : Ctx) : PTS := (pSeq (pSet 3 (pBin oIx (pVar 0) (pBin oAdd (pBin oMul (pBin oIx (pVar 2) (pC (.int 0))) (pVar 1)) (pBin oIx (pVar 2) (pC (.int 2)))))) (pSeq (pIfS (pTIsN (pVar 3)) (pRet (pC .non)) pNext) (pSeq (pSet 4 (pBin oAdd (pBin oAdd (pTupRev (pBin oIx (pVar 2) (pC (.int 1)))) (pTup (pCons (pBin oIx (pVar 3) (pC (.int 0))) pNil))) (pBin oIx (pVar 2) (pC (.int 3))))) (pSeq (pSet 5 (pBin oAdd (pCallB (on1 kLen) (pCons (pBin oIx (pVar 2) (pC (.int 1))) pNil)) (pBin oIx (pVar 3) (pC (.int 1))))) (pSeq (pIfS (pTest (pBin oLt (pVar 5) (pC (.int 0)))) (pSeq (pSet 4 (pBin oAdd (pTup (pCons (pC (.int 0)) pNil)) (pVar 4))) (pSet 5 (pC (.int 0)))) pNext) (pSeq (pIfS (pTest (pBin oEq (pVar 5) (pCallB (on1 kLen) (pCons (pVar 4) pNil)))) (pSet 4 (pBin oAdd (pVar 4) (pTup (pCons (pC (.int 0)) pNil)))) pNext) (pRet (pTup (pCons (pBin oIx (pVar 3) (pC (.int 2))) (pCons (pCall (sp_law_trim Γ) (pCons (pTupRev (pSl (pVar 4) pNoPart (pPart (pVar 5)))) pNil)) (pCons (pBin oIx (pVar 4) (pVar 5)) (pCons (pCall (sp_law_trim Γ) (pCons (pSl (pVar 4) (pPart (pBin oAdd (pVar 5) (pC (.int 1)))) pNoPart) pNil)) pNil))))))))))))
theorem d_law_step {P : Program} {w : World} {K : PySem.W.Frag} {mg : Str → Option Value} {base : Heap} {Γ : Ctx} (T : Txt K mg Γ) (G_law_trim : GFn P w K mg base (PySem.Str.ofString "_law_trim") 1 ["marks"] (sp_law_trim Γ)) {f : Addr} {cdv : Value} {A : Around} {outer : List Env} {s : Shared} {H : Hp} {E : XK}
    (hr : Room 1 (A.deeper (envOfC "_law_step" (defScope s_law_step) s.heap.objs.size f cdv))) :
    LSs (cxOf (L2.CX P w) P w K mg base ["rows", "marks", "spot", "row", "tape", "at"] "_law_step" (defScope s_law_step) f cdv A outer s H E) (defBody s_law_step) (t_law_step Γ) :=
  (LSs.cons (LS.set 3 sc_law_step.nd (PL.LE.ix (PL.LE.var 0) (PL.LE.add (PL.LE.mul (PL.LE.ix (PL.LE.var 2) PL.LE.int) (PL.LE.var 1)) (PL.LE.ix (PL.LE.var 2) PL.LE.int)))) (LSs.cons (LS.ite (PL.LT.isN (PL.LE.var 3)) (LSs.one (LS.ret PL.LE.non)) LSs.nil) (LSs.cons (LS.set 4 sc_law_step.nd (PL.LE.add (PL.LE.add (PL.LE.tupRev rfl rfl T.b_tuple rfl T.b_reversed (PL.LE.ix (PL.LE.var 2) PL.LE.int)) (PL.LE.tup (LA.cons (PL.LE.ix (PL.LE.var 3) PL.LE.int) LA.nil))) (PL.LE.ix (PL.LE.var 2) PL.LE.int))) (LSs.cons (LS.set 5 sc_law_step.nd (PL.LE.add (PL.LE.len rfl T.b_len (LA.cons (PL.LE.ix (PL.LE.var 2) PL.LE.int) LA.nil)) (PL.LE.ix (PL.LE.var 3) PL.LE.int))) (LSs.cons (LS.ite (PL.LT.lt (PL.LE.var 5) PL.LE.int) (LSs.cons (LS.set 4 sc_law_step.nd (PL.LE.add (PL.LE.tup (LA.cons PL.LE.int LA.nil)) (PL.LE.var 4))) (LSs.one (LS.set 5 sc_law_step.nd PL.LE.int))) LSs.nil) (LSs.cons (LS.ite (PL.LT.eq hr.units (PL.LE.var 5) (PL.LE.len rfl T.b_len (LA.cons (PL.LE.var 4) LA.nil))) (LSs.one (LS.set 4 sc_law_step.nd (PL.LE.add (PL.LE.var 4) (PL.LE.tup (LA.cons PL.LE.int LA.nil))))) LSs.nil) (LSs.one (LS.ret (PL.LE.tup (LA.cons (PL.LE.ix (PL.LE.var 3) PL.LE.int) (LA.cons (PL.LE.call G_law_trim (hr.mono (by decide)) rfl (LA.cons (PL.LE.tupRev rfl rfl T.b_tuple rfl T.b_reversed (PL.LE.slice (PL.LE.var 4) LO.none (LO.some (PL.LE.var 5)))) LA.nil)) (LA.cons (PL.LE.ix (PL.LE.var 4) (PL.LE.var 5)) (LA.cons (PL.LE.call G_law_trim (hr.mono (by decide)) rfl (LA.cons (PL.LE.slice (PL.LE.var 4) (LO.some (PL.LE.add (PL.LE.var 5) PL.LE.int)) LO.none) LA.nil)) LA.nil)))))))))))))
def b_law_same_1 (Γ : Ctx) (spSelf : PSp) := ((pIfS (pNot (pTest (pCall spSelf (pCons (pBin oIx (pVar 0) (pVar 2)) (pCons (pBin oIx (pVar 1) (pVar 2)) pNil))))) (pRet (pC (.bl false))) pNext) : PTS)
def t_law_same (Γ : Ctx) (spSelf : PSp) : PTS := (pSeq (pIfS (pTest (fun E σ M Q => (pVar 1) E σ M fun x M1 => kIsi "tuple" x M1 Q)) (pSeq (pIfS (pOr (pNot (pTest (fun E σ M Q => (pVar 0) E σ M fun x M1 => kIsi "tuple" x M1 Q))) (pTest (pBin oNe (pCallB (on1 kLen) (pCons (pVar 0) pNil)) (pCallB (on1 kLen) (pCons (pVar 1) pNil))))) (pRet (pC (.bl false))) pNext) (pSeq (pFor (piR1 (pCallB (on1 kLen) (pCons (pVar 1) pNil))) (gpName 2) (b_law_same_1 Γ spSelf)) (pRet (pC (.bl true))))) pNext) (pSeq (pIfS (pTIsN (pVar 1)) (pRet (pIsN (pVar 0))) pNext) (pSeq (pIfS (pTest (fun E σ M Q => (pVar 1) E σ M fun x M1 => kIsi "str" x M1 Q)) (pRet (pAndV (fun E σ M Q => (pVar 0) E σ M fun x M1 => kIsi "str" x M1 Q) (pBin oEq (pVar 0) (pVar 1)))) pNext) (pRet (pAndV (fun E σ M Q => (pVar 0) E σ M fun x M1 => kIsi "int" x M1 Q) (pAndV (pNotV (fun E σ M Q => (pVar 0) E σ M fun x M1 => kIsi "bool" x M1 Q)) (pBin oEq (pVar 0) (pVar 1))))))))
theorem d_law_same {P : Program} {w : World} {K : PySem.W.Frag} {mg : Str → Option Value} {base : Heap} {Γ : Ctx} (T : Txt K mg Γ)  {spSelf : PSp} {kk : Nat} (G_self : GFn P w K mg base (PySem.Str.ofString "_law_same") kk ["actual", "expected"] spSelf) {f : Addr} {cdv : Value} {A : Around} {outer : List Env} {s : Shared} {H : Hp} {E : XK}
    (hr : Room kk (A.deeper (envOfC "_law_same" (defScope s_law_same) s.heap.objs.size f cdv))) :
    LSs (cxOf (L2.CX P w) P w K mg base ["actual", "expected", "k"] "_law_same" (defScope s_law_same) f cdv A outer s H E) (defBody s_law_same) (t_law_same Γ spSelf) :=
  (LSs.cons (LS.ite (PL.LT.val (PL.LE.isi (Ts := "tuple") rfl T.b_isinstance rfl T.b_tuple (by decide +kernel) (PL.LE.var 1))) (LSs.cons (LS.ite (LW.lt (LW.or (PL.LT.not (PL.LT.val (PL.LE.isi (Ts := "tuple") rfl T.b_isinstance rfl T.b_tuple (by decide +kernel) (PL.LE.var 0)))) (LW.or1 (PL.LT.ne hr.units (PL.LE.len rfl T.b_len (LA.cons (PL.LE.var 0) LA.nil)) (PL.LE.len rfl T.b_len (LA.cons (PL.LE.var 1) LA.nil)))))) (LSs.one (LS.ret PL.LE.bl)) LSs.nil) (LSs.cons (LS.for (passes_of rfl) rfl (LI.rng1 rfl T.b_range (PL.LE.len rfl T.b_len (LA.cons (PL.LE.var 1) LA.nil))) (LG.name 2 sc_law_same.nd) (LSs.one (LS.ite (PL.LT.not (PL.LT.val (PL.LE.call G_self (hr.mono (by omega)) rfl (LA.cons (PL.LE.ix (PL.LE.var 0) (PL.LE.var 2)) (LA.cons (PL.LE.ix (PL.LE.var 1) (PL.LE.var 2)) LA.nil))))) (LSs.one (LS.ret PL.LE.bl)) LSs.nil))) (LSs.one (LS.ret PL.LE.bl)))) LSs.nil) (LSs.cons (LS.ite (PL.LT.isN (PL.LE.var 1)) (LSs.one (LS.ret (PL.LE.isN (PL.LE.var 0)))) LSs.nil) (LSs.cons (LS.ite (PL.LT.val (PL.LE.isi (Ts := "str") rfl T.b_isinstance rfl T.b_str (by decide +kernel) (PL.LE.var 1))) (LSs.one (LS.ret (PL.LE.and (PL.LE.isi (Ts := "str") rfl T.b_isinstance rfl T.b_str (by decide +kernel) (PL.LE.var 0)) (PL.LE.one (PL.LE.eq hr.units (PL.LE.var 0) (PL.LE.var 1)))))) LSs.nil) (LSs.one (LS.ret (PL.LE.and (PL.LE.isi (Ts := "int") rfl T.b_isinstance rfl T.b_int (by decide +kernel) (PL.LE.var 0)) (PL.LE.and (PL.LE.not (PL.LE.isi (Ts := "bool") rfl T.b_isinstance rfl T.b_bool (by decide +kernel) (PL.LE.var 0))) (PL.LE.one (PL.LE.eq hr.units (PL.LE.var 0) (PL.LE.var 1))))))))))
def b_law_before_1 (Γ : Ctx) := ((pIfS (pAnd (pTNotN (pBin oIx (pVar 0) (pVar 4))) (pTest (pBin oEq (pBin oIx (pBin oIx (pVar 0) (pVar 4)) (pC (.int 2))) (pBin oIx (pVar 2) (pC (.int 0)))))) (pSeq (pSet 5 (pBin oAdd (pBin oAdd (pTupRev (pBin oIx (pVar 2) (pC (.int 1)))) (pTup (pCons (pBin oIx (pVar 2) (pC (.int 2))) pNil))) (pBin oIx (pVar 2) (pC (.int 3))))) (pSeq (pSet 6 (pBin oSub (pCallB (on1 kLen) (pCons (pBin oIx (pVar 2) (pC (.int 1))) pNil)) (pBin oIx (pBin oIx (pVar 0) (pVar 4)) (pC (.int 1))))) (pSeq (pIfS (pTest (pBin oLt (pVar 6) (pC (.int 0)))) (pSeq (pSet 5 (pBin oAdd (pTup (pCons (pC (.int 0)) pNil)) (pVar 5))) (pSet 6 (pC (.int 0)))) pNext) (pSeq (pIfS (pTest (pBin oEq (pVar 6) (pCallB (on1 kLen) (pCons (pVar 5) pNil)))) (pSet 5 (pBin oAdd (pVar 5) (pTup (pCons (pC (.int 0)) pNil)))) pNext) (pIfS (pTest (pBin oEq (pBin oIx (pVar 5) (pVar 6)) (pBin oIx (pBin oIx (pVar 0) (pVar 4)) (pC (.int 0))))) (pSeq (pSet 5 (pBin oAdd (pBin oAdd (pSl (pVar 5) pNoPart (pPart (pVar 6))) (pTup (pCons (pBin oMod (pVar 4) (pBin oIx (pVar 1) (pC (.int 0)))) pNil))) (pSl (pVar 5) (pPart (pBin oAdd (pVar 6) (pC (.int 1)))) pNoPart))) (pDrop (pApp (pVar 3) (pTup (pCons (pBin oDiv (pVar 4) (pBin oIx (pVar 1) (pC (.int 0)))) (pCons (pCall (sp_law_trim Γ) (pCons (pTupRev (pSl (pVar 5) pNoPart (pPart (pVar 6)))) pNil)) (pCons (pBin oIx (pVar 5) (pVar 6)) (pCons (pCall (sp_law_trim Γ) (pCons (pSl (pVar 5) (pPart (pBin oAdd (pVar 6) (pC (.int 1)))) pNoPart) pNil)) pNil)))))))) pNext))))) pNext) : PTS)
def t_law_before (Γ : Ctx) : PTS := (pSeq (pSet 3 (pLstM pNil)) (pSeq (pFor (piR1 (pCallB (on1 kLen) (pCons (pVar 0) pNil))) (gpName 4) (b_law_before_1 Γ)) (pRetD [3] (pCallB (on1 kSortD) (pCons (pVar 3) pNil)))))
theorem d_law_before {P : Program} {w : World} {K : PySem.W.Frag} {mg : Str → Option Value} {base : Heap} {Γ : Ctx} (T : Txt K mg Γ) (G_law_trim : GFn P w K mg base (PySem.Str.ofString "_law_trim") 1 ["marks"] (sp_law_trim Γ)) {f : Addr} {cdv : Value} {A : Around} {outer : List Env} {s : Shared} {H : Hp} {E : XK}
    (hr : Room 1 (A.deeper (envOfC "_law_before" (defScope s_law_before) s.heap.objs.size f cdv))) :
    LSs (cxOf (L2.CX P w) P w K mg base ["rows", "sizes", "spot", "found", "k", "tape", "at"] "_law_before" (defScope s_law_before) f cdv A outer s H E) (defBody s_law_before) (t_law_before Γ) :=
  (LSs.cons (LS.set 3 sc_law_before.nd (PL.LE.lstM LA.nil)) (LSs.cons (LS.for (passes_of rfl) rfl (LI.rng1 rfl T.b_range (PL.LE.len rfl T.b_len (LA.cons (PL.LE.var 0) LA.nil))) (LG.name 4 sc_law_before.nd) (LSs.one (LS.ite (LW.lt (LW.and (PL.LT.notN (PL.LE.ix (PL.LE.var 0) (PL.LE.var 4))) (LW.and1 (PL.LT.eq hr.units (PL.LE.ix (PL.LE.ix (PL.LE.var 0) (PL.LE.var 4)) PL.LE.int) (PL.LE.ix (PL.LE.var 2) PL.LE.int))))) (LSs.cons (LS.set 5 sc_law_before.nd (PL.LE.add (PL.LE.add (PL.LE.tupRev rfl rfl T.b_tuple rfl T.b_reversed (PL.LE.ix (PL.LE.var 2) PL.LE.int)) (PL.LE.tup (LA.cons (PL.LE.ix (PL.LE.var 2) PL.LE.int) LA.nil))) (PL.LE.ix (PL.LE.var 2) PL.LE.int))) (LSs.cons (LS.set 6 sc_law_before.nd (PL.LE.sub (PL.LE.len rfl T.b_len (LA.cons (PL.LE.ix (PL.LE.var 2) PL.LE.int) LA.nil)) (PL.LE.ix (PL.LE.ix (PL.LE.var 0) (PL.LE.var 4)) PL.LE.int))) (LSs.cons (LS.ite (PL.LT.lt (PL.LE.var 6) PL.LE.int) (LSs.cons (LS.set 5 sc_law_before.nd (PL.LE.add (PL.LE.tup (LA.cons PL.LE.int LA.nil)) (PL.LE.var 5))) (LSs.one (LS.set 6 sc_law_before.nd PL.LE.int))) LSs.nil) (LSs.cons (LS.ite (PL.LT.eq hr.units (PL.LE.var 6) (PL.LE.len rfl T.b_len (LA.cons (PL.LE.var 5) LA.nil))) (LSs.one (LS.set 5 sc_law_before.nd (PL.LE.add (PL.LE.var 5) (PL.LE.tup (LA.cons PL.LE.int LA.nil))))) LSs.nil) (LSs.one (LS.ite (PL.LT.eq hr.units (PL.LE.ix (PL.LE.var 5) (PL.LE.var 6)) (PL.LE.ix (PL.LE.ix (PL.LE.var 0) (PL.LE.var 4)) PL.LE.int)) (LSs.cons (LS.set 5 sc_law_before.nd (PL.LE.add (PL.LE.add (PL.LE.slice (PL.LE.var 5) LO.none (LO.some (PL.LE.var 6))) (PL.LE.tup (LA.cons (PL.LE.mod (PL.LE.var 4) (PL.LE.ix (PL.LE.var 1) PL.LE.int)) LA.nil))) (PL.LE.slice (PL.LE.var 5) (LO.some (PL.LE.add (PL.LE.var 6) PL.LE.int)) LO.none))) (LSs.one (LS.expr (PL.LE.app (PL.LE.var 3) (PL.LE.tup (LA.cons (PL.LE.div (PL.LE.var 4) (PL.LE.ix (PL.LE.var 1) PL.LE.int)) (LA.cons (PL.LE.call G_law_trim (hr.mono (by decide)) rfl (LA.cons (PL.LE.tupRev rfl rfl T.b_tuple rfl T.b_reversed (PL.LE.slice (PL.LE.var 5) LO.none (LO.some (PL.LE.var 6)))) LA.nil)) (LA.cons (PL.LE.ix (PL.LE.var 5) (PL.LE.var 6)) (LA.cons (PL.LE.call G_law_trim (hr.mono (by decide)) rfl (LA.cons (PL.LE.slice (PL.LE.var 5) (LO.some (PL.LE.add (PL.LE.var 6) PL.LE.int)) LO.none) LA.nil)) LA.nil))))))))) LSs.nil)))))) LSs.nil))) (LSs.one (LS.retD [3] (PL.LE.sortedD (Room.units65 hr) rfl T.b_sorted (LA.cons (PL.LE.var 3) LA.nil))))))
def b_law_clashes_2 (Γ : Ctx) := ((pSeq (pSet 5 (pBin oIx (pVar 0) (pVar 3))) (pSeq (pSet 6 (pBin oIx (pVar 0) (pVar 4))) (pIfS (pAnd (pTNotN (pVar 5)) (pAnd (pTNotN (pVar 6)) (pTest (pBin oEq (pBin oIx (pVar 5) (pC (.int 2))) (pBin oIx (pVar 6) (pC (.int 2))))))) (pIfS (pOr (pTest (pBin oNe (pBin oIx (pVar 5) (pC (.int 1))) (pBin oIx (pVar 6) (pC (.int 1))))) (pTest (pBin oEq (pBin oIx (pVar 5) (pC (.int 0))) (pBin oIx (pVar 6) (pC (.int 0)))))) (pDrop (pApp (pVar 2) (pTup (pCons (pTup (pCons (pBin oDiv (pVar 3) (pBin oIx (pVar 1) (pC (.int 0)))) (pCons (pBin oMod (pVar 3) (pBin oIx (pVar 1) (pC (.int 0)))) pNil))) (pCons (pTup (pCons (pBin oDiv (pVar 4) (pBin oIx (pVar 1) (pC (.int 0)))) (pCons (pBin oMod (pVar 4) (pBin oIx (pVar 1) (pC (.int 0)))) pNil))) pNil))))) pNext) pNext))) : PTS)
def b_law_clashes_1 (Γ : Ctx) := ((pFor (piR2 (pBin oAdd (pVar 3) (pC (.int 1))) (pCallB (on1 kLen) (pCons (pVar 0) pNil))) (gpName 4) (b_law_clashes_2 Γ)) : PTS)
def t_law_clashes (Γ : Ctx) : PTS := (pSeq (pSet 2 (pLstM pNil)) (pSeq (pFor (piR1 (pCallB (on1 kLen) (pCons (pVar 0) pNil))) (gpName 3) (b_law_clashes_1 Γ)) (pRetF (pVar 2))))
theorem d_law_clashes {P : Program} {w : World} {K : PySem.W.Frag} {mg : Str → Option Value} {base : Heap} {Γ : Ctx} (T : Txt K mg Γ)  {f : Addr} {cdv : Value} {A : Around} {outer : List Env} {s : Shared} {H : Hp} {E : XK}
    (hr : Room 0 (A.deeper (envOfC "_law_clashes" (defScope s_law_clashes) s.heap.objs.size f cdv))) :
    LSs (cxOf (L2.CX P w) P w K mg base ["rows", "sizes", "found", "k", "j", "one", "two"] "_law_clashes" (defScope s_law_clashes) f cdv A outer s H E) (defBody s_law_clashes) (t_law_clashes Γ) :=
  (LSs.cons (LS.set 2 sc_law_clashes.nd (PL.LE.lstM LA.nil)) (LSs.cons (LS.for (passes_of rfl) rfl (LI.rng1 rfl T.b_range (PL.LE.len rfl T.b_len (LA.cons (PL.LE.var 0) LA.nil))) (LG.name 3 sc_law_clashes.nd) (LSs.one (LS.for (passes_of rfl) rfl (LI.rng2 rfl T.b_range (PL.LE.add (PL.LE.var 3) PL.LE.int) (PL.LE.len rfl T.b_len (LA.cons (PL.LE.var 0) LA.nil))) (LG.name 4 sc_law_clashes.nd) (LSs.cons (LS.set 5 sc_law_clashes.nd (PL.LE.ix (PL.LE.var 0) (PL.LE.var 3))) (LSs.cons (LS.set 6 sc_law_clashes.nd (PL.LE.ix (PL.LE.var 0) (PL.LE.var 4))) (LSs.one (LS.ite (LW.lt (LW.and (PL.LT.notN (PL.LE.var 5)) (LW.and (PL.LT.notN (PL.LE.var 6)) (LW.and1 (PL.LT.eq hr.units (PL.LE.ix (PL.LE.var 5) PL.LE.int) (PL.LE.ix (PL.LE.var 6) PL.LE.int)))))) (LSs.one (LS.ite (LW.lt (LW.or (PL.LT.ne hr.units (PL.LE.ix (PL.LE.var 5) PL.LE.int) (PL.LE.ix (PL.LE.var 6) PL.LE.int)) (LW.or1 (PL.LT.eq hr.units (PL.LE.ix (PL.LE.var 5) PL.LE.int) (PL.LE.ix (PL.LE.var 6) PL.LE.int))))) (LSs.one (LS.expr (PL.LE.app (PL.LE.var 2) (PL.LE.tup (LA.cons (PL.LE.tup (LA.cons (PL.LE.div (PL.LE.var 3) (PL.LE.ix (PL.LE.var 1) PL.LE.int)) (LA.cons (PL.LE.mod (PL.LE.var 3) (PL.LE.ix (PL.LE.var 1) PL.LE.int)) LA.nil))) (LA.cons (PL.LE.tup (LA.cons (PL.LE.div (PL.LE.var 4) (PL.LE.ix (PL.LE.var 1) PL.LE.int)) (LA.cons (PL.LE.mod (PL.LE.var 4) (PL.LE.ix (PL.LE.var 1) PL.LE.int)) LA.nil))) LA.nil)))))) LSs.nil)) LSs.nil))))))) (LSs.one (LS.retF (PL.LE.var 2)))))
def t_law_two (Γ : Ctx) : PTS := (pSeq (pSet 3 (pBin oIx (pVar 0) (pBin oAdd (pBin oMul (pBin oIx (pBin oIx (pVar 2) (pC (.int 0))) (pC (.int 0))) (pBin oIx (pVar 1) (pC (.int 0)))) (pBin oIx (pBin oIx (pVar 2) (pC (.int 0))) (pC (.int 1)))))) (pSeq (pSet 4 (pBin oIx (pVar 0) (pBin oAdd (pBin oMul (pBin oIx (pBin oIx (pVar 2) (pC (.int 1))) (pC (.int 0))) (pBin oIx (pVar 1) (pC (.int 0)))) (pBin oIx (pBin oIx (pVar 2) (pC (.int 1))) (pC (.int 1)))))) (pSeq (pSet 5 (pLstM (pCons (pC (.int 0)) (pCons (pC (.int 0)) (pCons (pC (.int 0)) pNil))))) (pSeq (pAsg (pBin oIx (pVar 3) (pC (.int 0))) (gpSub (pVar 5) (pBin oSub (pC (.int 1)) (pBin oIx (pVar 3) (pC (.int 1)))))) (pSeq (pAsg (pBin oIx (pVar 4) (pC (.int 0))) (gpSub (pVar 5) (pBin oSub (pC (.int 1)) (pBin oIx (pVar 4) (pC (.int 1)))))) (pRetD [5] (pTup (pCons (pBin oIx (pVar 3) (pC (.int 2))) (pCons (pCall (sp_law_trim Γ) (pCons (pTup (pCons (pBin oIx (pVar 5) (pC (.int 0))) pNil)) pNil)) (pCons (pC (.int 0)) (pCons (pCall (sp_law_trim Γ) (pCons (pTup (pCons (pBin oIx (pVar 5) (pC (.int 2))) pNil)) pNil)) pNil)))))))))))
theorem d_law_two {P : Program} {w : World} {K : PySem.W.Frag} {mg : Str → Option Value} {base : Heap} {Γ : Ctx} (T : Txt K mg Γ) (G_law_trim : GFn P w K mg base (PySem.Str.ofString "_law_trim") 1 ["marks"] (sp_law_trim Γ)) {f : Addr} {cdv : Value} {A : Around} {outer : List Env} {s : Shared} {H : Hp} {E : XK}
    (hr : Room 1 (A.deeper (envOfC "_law_two" (defScope s_law_two) s.heap.objs.size f cdv))) :
    LSs (cxOf (L2.CX P w) P w K mg base ["rows", "sizes", "pair", "one", "two", "around"] "_law_two" (defScope s_law_two) f cdv A outer s H E) (defBody s_law_two) (t_law_two Γ) :=
  (LSs.cons (LS.set 3 sc_law_two.nd (PL.LE.ix (PL.LE.var 0) (PL.LE.add (PL.LE.mul (PL.LE.ix (PL.LE.ix (PL.LE.var 2) PL.LE.int) PL.LE.int) (PL.LE.ix (PL.LE.var 1) PL.LE.int)) (PL.LE.ix (PL.LE.ix (PL.LE.var 2) PL.LE.int) PL.LE.int)))) (LSs.cons (LS.set 4 sc_law_two.nd (PL.LE.ix (PL.LE.var 0) (PL.LE.add (PL.LE.mul (PL.LE.ix (PL.LE.ix (PL.LE.var 2) PL.LE.int) PL.LE.int) (PL.LE.ix (PL.LE.var 1) PL.LE.int)) (PL.LE.ix (PL.LE.ix (PL.LE.var 2) PL.LE.int) PL.LE.int)))) (LSs.cons (LS.set 5 sc_law_two.nd (PL.LE.lstM (LA.cons PL.LE.int (LA.cons PL.LE.int (LA.cons PL.LE.int LA.nil))))) (LSs.cons (LS.asg (PL.LE.ix (PL.LE.var 3) PL.LE.int) (LG.sub (PL.LE.var 5) (PL.LE.sub PL.LE.int (PL.LE.ix (PL.LE.var 3) PL.LE.int)))) (LSs.cons (LS.asg (PL.LE.ix (PL.LE.var 4) PL.LE.int) (LG.sub (PL.LE.var 5) (PL.LE.sub PL.LE.int (PL.LE.ix (PL.LE.var 4) PL.LE.int)))) (LSs.one (LS.retD [5] (PL.LE.tup (LA.cons (PL.LE.ix (PL.LE.var 3) PL.LE.int) (LA.cons (PL.LE.call G_law_trim (hr.mono (by decide)) rfl (LA.cons (PL.LE.tup (LA.cons (PL.LE.ix (PL.LE.var 5) PL.LE.int) LA.nil)) LA.nil)) (LA.cons PL.LE.int (LA.cons (PL.LE.call G_law_trim (hr.mono (by decide)) rfl (LA.cons (PL.LE.tup (LA.cons (PL.LE.ix (PL.LE.var 5) PL.LE.int) LA.nil)) LA.nil)) LA.nil))))))))))))
def b_law_2 (Γ : Ctx) := ((pIfS (pNot (pTest (pCall (sp_law_same Γ) (pCons (pCall (sp_law_step Γ) (pCons (pVar 4) (pCons (pBin oIx (pVar 3) (pC (.int 0))) (pCons (pVar 12) pNil)))) (pCons (pBin oIx (pVar 9) (pVar 10)) pNil))))) (pRet (pC (.bl false))) pNext) : PTS)
def b_law_1 (Γ : Ctx) := ((pSeq (pSet 11 (pCall (sp_before Γ) (pCons (pVar 5) (pCons (pBin oIx (pVar 9) (pVar 10)) pNil)))) (pSeq (pIfS (pOr (pNot (pTest (fun E σ M Q => (pVar 11) E σ M fun x M1 => kIsi "list" x M1 Q))) (pNot (pTest (pCall (sp_law_same Γ) (pCons (pCallB (on1 kTup) (pCons (pVar 11) pNil)) (pCons (pCallB (on1 kTup) (pCons (pCall (sp_law_before Γ) (pCons (pVar 4) (pCons (pVar 3) (pCons (pBin oIx (pVar 9) (pVar 10)) pNil)))) pNil)) pNil)))))) (pRet (pC (.bl false))) pNext) (pSeq (pIfS (pAnd (pTest (pBin oGt (pCallB (on1 kLen) (pCons (pVar 11) pNil)) (pC (.int 1)))) (pTest (pBin oEq (pCallB (on1 kLen) (pCons (pVar 7) pNil)) (pC (.int 0))))) (pRet (pC (.bl false))) pNext) (pSeq (pIfS (pAnd (pTest (pBin oEq (pVar 10) (pC (.int 1)))) (pTest (pBin oLt (pCallB (on1 kLen) (pCons (pVar 11) pNil)) (pC (.int 2))))) (pRet (pC (.bl false))) pNext) (pFor (piL (pVar 11)) (gpName 12) (b_law_2 Γ)))))) : PTS)
def r_law_13 (Γ : Ctx) := ((pRet (pC (.bl true))) : PTS)
def r_law_12 (Γ : Ctx) := ((pSeq (pFor (piR1 (pCallB (on1 kLen) (pCons (pVar 9) pNil))) (gpName 10) (b_law_1 Γ)) (r_law_13 Γ)) : PTS)
def r_law_11 (Γ : Ctx) := ((pSeq (pIfS (pTest (pBin oGt (pCallB (on1 kLen) (pCons (pVar 7) pNil)) (pC (.int 0)))) (pDrop (pApp (pVar 9) (pCall (sp_law_two Γ) (pCons (pVar 4) (pCons (pVar 3) (pCons (pBin oIx (pVar 7) (pBin oMod (pCall (sp_law_take Γ) (pCons (pVar 1) (pCons (pVar 2) pNil))) (pCallB (on1 kLen) (pCons (pVar 7) pNil)))) pNil)))))) pNext) (r_law_12 Γ)) : PTS)
def r_law_10 (Γ : Ctx) := ((pSeq (pSet 9 (pLstM (pCons (pVar 6) pNil))) (r_law_11 Γ)) : PTS)
def r_law_9 (Γ : Ctx) := ((pSeq (pIfS (pOr (pNot (pTest (fun E σ M Q => (pCall (sp_forgets Γ) (pCons (pVar 5) pNil)) E σ M fun x M1 => kIsi "bool" x M1 Q))) (pTest (pBin oNe (pCall (sp_forgets Γ) (pCons (pVar 5) pNil)) (pBin oGt (pCallB (on1 kLen) (pCons (pVar 7) pNil)) (pC (.int 0)))))) (pRet (pC (.bl false))) pNext) (r_law_10 Γ)) : PTS)
def r_law_8 (Γ : Ctx) := ((pSeq (pIfS (pOr (pNot (pTest (fun E σ M Q => (pVar 8) E σ M fun x M1 => kIsi "list" x M1 Q))) (pNot (pTest (pCall (sp_law_same Γ) (pCons (pCallB (on1 kTup) (pCons (pVar 8) pNil)) (pCons (pCallB (on1 kTup) (pCons (pVar 7) pNil)) pNil)))))) (pRet (pC (.bl false))) pNext) (r_law_9 Γ)) : PTS)
def r_law_7 (Γ : Ctx) := ((pSeq (pSet 8 (pCall (sp_clashes Γ) (pCons (pVar 5) pNil))) (r_law_8 Γ)) : PTS)
def r_law_6 (Γ : Ctx) := ((pSeq (pSet 7 (pCall (sp_law_clashes Γ) (pCons (pVar 4) (pCons (pVar 3) pNil)))) (r_law_7 Γ)) : PTS)
def r_law_5 (Γ : Ctx) := ((pSeq (pSet 6 (pCall (sp_law_configuration Γ) (pCons (pVar 1) (pCons (pVar 2) (pCons (pBin oIx (pVar 3) (pC (.int 0))) (pCons (pBin oIx (pVar 3) (pC (.int 1))) (pCons (pC (.int 4)) pNil))))))) (r_law_6 Γ)) : PTS)
def r_law_4 (Γ : Ctx) := ((pSeq (pSet 5 (pMake Γ.Tape (sp_Tape_init Γ) (pCons (pBin oIx (pVar 3) (pC (.int 0))) (pCons (pBin oIx (pVar 3) (pC (.int 1))) (pCons (pCallB (on1 kList) (pCons (pVar 4) pNil)) pNil))))) (r_law_5 Γ)) : PTS)
def r_law_3 (Γ : Ctx) := ((pSeq (pSet 4 (pCall (sp_law_machine Γ) (pCons (pVar 1) (pCons (pVar 2) (pCons (pBin oIx (pVar 3) (pC (.int 0))) (pCons (pBin oIx (pVar 3) (pC (.int 1))) pNil)))))) (r_law_4 Γ)) : PTS)
def r_law_2 (Γ : Ctx) := ((pSeq (pSet 3 (pCall (sp_law_sizes Γ) (pCons (pVar 1) (pCons (pVar 2) pNil)))) (r_law_3 Γ)) : PTS)
def r_law_1 (Γ : Ctx) := ((pSeq (pSet 2 (pLstM (pCons (pC (.int 0)) pNil))) (r_law_2 Γ)) : PTS)
def t_law (Γ : Ctx) : PTS := (pSeq (pSet 1 (pCall (sp_law_numbers Γ) (pCons (pVar 0) (pCons (pC (.int 60)) pNil)))) (r_law_1 Γ))
theorem d_law {P : Program} {w : World} {K : PySem.W.Frag} {mg : Str → Option Value} {base : Heap} {Γ : Ctx} (T : Txt K mg Γ) (G_law_numbers : GFn P w K mg base (PySem.Str.ofString "_law_numbers") 1 ["script", "many"] (sp_law_numbers Γ)) (G_law_sizes : GFn P w K mg base (PySem.Str.ofString "_law_sizes") 2 ["numbers", "place"] (sp_law_sizes Γ)) (G_law_machine : GFn P w K mg base (PySem.Str.ofString "_law_machine") 2 ["numbers", "place", "marks", "states"] (sp_law_machine Γ)) (G_Tape_init : GMk P w K mg base (PySem.Str.ofString "Tape") Γ.Tape 4 ["self", "marks", "states", "rows"] (sp_Tape_init Γ)) (G_law_configuration : GFn P w K mg base (PySem.Str.ofString "_law_configuration") 3 ["numbers", "place", "marks", "states", "most"] (sp_law_configuration Γ)) (G_law_clashes : GFn P w K mg base (PySem.Str.ofString "_law_clashes") 1 ["rows", "sizes"] (sp_law_clashes Γ)) (G_clashes : GFn P w K mg base (PySem.Str.ofString "clashes") 2 ["machine"] (sp_clashes Γ)) (G_before : GFn P w K mg base (PySem.Str.ofString "before") 4 ["machine", "configuration"] (sp_before Γ)) (G_law_same : GFn P w K mg base (PySem.Str.ofString "_law_same") 9 ["actual", "expected"] (sp_law_same Γ)) (G_forgets : GFn P w K mg base (PySem.Str.ofString "forgets") 3 ["machine"] (sp_forgets Γ)) (G_law_two : GFn P w K mg base (PySem.Str.ofString "_law_two") 2 ["rows", "sizes", "pair"] (sp_law_two Γ)) (G_law_step : GFn P w K mg base (PySem.Str.ofString "_law_step") 2 ["rows", "marks", "spot"] (sp_law_step Γ)) (G_law_take : GFn P w K mg base (PySem.Str.ofString "_law_take") 1 ["numbers", "place"] (sp_law_take Γ)) (G_law_before : GFn P w K mg base (PySem.Str.ofString "_law_before") 2 ["rows", "sizes", "spot"] (sp_law_before Γ)) {f : Addr} {cdv : Value} {A : Around} {outer : List Env} {s : Shared} {H : Hp} {E : XK}
    (hr : Room 9 (A.deeper (envOfC "law" (defScope s_law) s.heap.objs.size f cdv))) :
    LSs (cxOf (L2.CX P w) P w K mg base ["script", "numbers", "place", "sizes", "rows", "machine", "spot", "expected", "actual", "places", "k", "earlier", "one"] "law" (defScope s_law) f cdv A outer s H E) (defBody s_law) (t_law Γ) :=
  (LSs.cons (LS.set 1 sc_law.nd (PL.LE.call G_law_numbers (hr.mono (by decide)) rfl (LA.cons (PL.LE.var 0) (LA.cons PL.LE.int LA.nil)))) (LSs.cons (LS.set 2 sc_law.nd (PL.LE.lstM (LA.cons PL.LE.int LA.nil))) (LSs.cons (LS.set 3 sc_law.nd (PL.LE.call G_law_sizes (hr.mono (by decide)) rfl (LA.cons (PL.LE.var 1) (LA.cons (PL.LE.var 2) LA.nil)))) (LSs.cons (LS.set 4 sc_law.nd (PL.LE.call G_law_machine (hr.mono (by decide)) rfl (LA.cons (PL.LE.var 1) (LA.cons (PL.LE.var 2) (LA.cons (PL.LE.ix (PL.LE.var 3) PL.LE.int) (LA.cons (PL.LE.ix (PL.LE.var 3) PL.LE.int) LA.nil)))))) (LSs.cons (LS.set 5 sc_law.nd (PL.LE.make G_Tape_init (hr.mono (by decide)) rfl (LA.cons (PL.LE.ix (PL.LE.var 3) PL.LE.int) (LA.cons (PL.LE.ix (PL.LE.var 3) PL.LE.int) (LA.cons (PL.LE.list rfl T.b_list (LA.cons (PL.LE.var 4) LA.nil)) LA.nil))))) (LSs.cons (LS.set 6 sc_law.nd (PL.LE.call G_law_configuration (hr.mono (by decide)) rfl (LA.cons (PL.LE.var 1) (LA.cons (PL.LE.var 2) (LA.cons (PL.LE.ix (PL.LE.var 3) PL.LE.int) (LA.cons (PL.LE.ix (PL.LE.var 3) PL.LE.int) (LA.cons PL.LE.int LA.nil))))))) (LSs.cons (LS.set 7 sc_law.nd (PL.LE.call G_law_clashes (hr.mono (by decide)) rfl (LA.cons (PL.LE.var 4) (LA.cons (PL.LE.var 3) LA.nil)))) (LSs.cons (LS.set 8 sc_law.nd (PL.LE.call G_clashes (hr.mono (by decide)) rfl (LA.cons (PL.LE.var 5) LA.nil))) (LSs.cons (LS.ite (LW.lt (LW.or (PL.LT.not (PL.LT.val (PL.LE.isi (Ts := "list") rfl T.b_isinstance rfl T.b_list (by decide +kernel) (PL.LE.var 8)))) (LW.or1 (PL.LT.not (PL.LT.val (PL.LE.call G_law_same (hr.mono (by decide)) rfl (LA.cons (PL.LE.tupOf rfl T.b_tuple (LA.cons (PL.LE.var 8) LA.nil)) (LA.cons (PL.LE.tupOf rfl T.b_tuple (LA.cons (PL.LE.var 7) LA.nil)) LA.nil)))))))) (LSs.one (LS.ret PL.LE.bl)) LSs.nil) (LSs.cons (LS.ite (LW.lt (LW.or (PL.LT.not (PL.LT.val (PL.LE.isi (Ts := "bool") rfl T.b_isinstance rfl T.b_bool (by decide +kernel) (PL.LE.call G_forgets (hr.mono (by decide)) rfl (LA.cons (PL.LE.var 5) LA.nil))))) (LW.or1 (PL.LT.ne hr.units (PL.LE.call G_forgets (hr.mono (by decide)) rfl (LA.cons (PL.LE.var 5) LA.nil)) (PL.LE.gt (PL.LE.len rfl T.b_len (LA.cons (PL.LE.var 7) LA.nil)) PL.LE.int))))) (LSs.one (LS.ret PL.LE.bl)) LSs.nil) (LSs.cons (LS.set 9 sc_law.nd (PL.LE.lstM (LA.cons (PL.LE.var 6) LA.nil))) (LSs.cons (LS.ite (PL.LT.gt (PL.LE.len rfl T.b_len (LA.cons (PL.LE.var 7) LA.nil)) PL.LE.int) (LSs.one (LS.expr (PL.LE.app (PL.LE.var 9) (PL.LE.call G_law_two (hr.mono (by decide)) rfl (LA.cons (PL.LE.var 4) (LA.cons (PL.LE.var 3) (LA.cons (PL.LE.ix (PL.LE.var 7) (PL.LE.mod (PL.LE.call G_law_take (hr.mono (by decide)) rfl (LA.cons (PL.LE.var 1) (LA.cons (PL.LE.var 2) LA.nil))) (PL.LE.len rfl T.b_len (LA.cons (PL.LE.var 7) LA.nil)))) LA.nil))))))) LSs.nil) (LSs.cons (LS.for (passes_of rfl) rfl (LI.rng1 rfl T.b_range (PL.LE.len rfl T.b_len (LA.cons (PL.LE.var 9) LA.nil))) (LG.name 10 sc_law.nd) (LSs.cons (LS.set 11 sc_law.nd (PL.LE.call G_before (hr.mono (by decide)) rfl (LA.cons (PL.LE.var 5) (LA.cons (PL.LE.ix (PL.LE.var 9) (PL.LE.var 10)) LA.nil)))) (LSs.cons (LS.ite (LW.lt (LW.or (PL.LT.not (PL.LT.val (PL.LE.isi (Ts := "list") rfl T.b_isinstance rfl T.b_list (by decide +kernel) (PL.LE.var 11)))) (LW.or1 (PL.LT.not (PL.LT.val (PL.LE.call G_law_same (hr.mono (by decide)) rfl (LA.cons (PL.LE.tupOf rfl T.b_tuple (LA.cons (PL.LE.var 11) LA.nil)) (LA.cons (PL.LE.tupOf rfl T.b_tuple (LA.cons (PL.LE.call G_law_before (hr.mono (by decide)) rfl (LA.cons (PL.LE.var 4) (LA.cons (PL.LE.var 3) (LA.cons (PL.LE.ix (PL.LE.var 9) (PL.LE.var 10)) LA.nil)))) LA.nil)) LA.nil)))))))) (LSs.one (LS.ret PL.LE.bl)) LSs.nil) (LSs.cons (LS.ite (LW.lt (LW.and (PL.LT.gt (PL.LE.len rfl T.b_len (LA.cons (PL.LE.var 11) LA.nil)) PL.LE.int) (LW.and1 (PL.LT.eq hr.units (PL.LE.len rfl T.b_len (LA.cons (PL.LE.var 7) LA.nil)) PL.LE.int)))) (LSs.one (LS.ret PL.LE.bl)) LSs.nil) (LSs.cons (LS.ite (LW.lt (LW.and (PL.LT.eq hr.units (PL.LE.var 10) PL.LE.int) (LW.and1 (PL.LT.lt (PL.LE.len rfl T.b_len (LA.cons (PL.LE.var 11) LA.nil)) PL.LE.int)))) (LSs.one (LS.ret PL.LE.bl)) LSs.nil) (LSs.one (LS.for (passes_of rfl) rfl (LI.list (PL.LE.var 11)) (LG.name 12 sc_law.nd) (LSs.one (LS.ite (PL.LT.not (PL.LT.val (PL.LE.call G_law_same (hr.mono (by decide)) rfl (LA.cons (PL.LE.call G_law_step (hr.mono (by decide)) rfl (LA.cons (PL.LE.var 4) (LA.cons (PL.LE.ix (PL.LE.var 3) PL.LE.int) (LA.cons (PL.LE.var 12) LA.nil)))) (LA.cons (PL.LE.ix (PL.LE.var 9) (PL.LE.var 10)) LA.nil))))) (LSs.one (LS.ret PL.LE.bl)) LSs.nil))))))))) (LSs.one (LS.ret PL.LE.bl)))))))))))))))
end My
set_option Elab.async false
set_option linter.all false
set_option maxRecDepth 100000
namespace My
open PySem PL TM
section
variable {M : Mem} {Q : PQ}
theorem ix_lI {ns : List Int} {i : Int} {x : Int} {M : Mem} {Q : PQ} (h : 0 ≤ i) (e : ns[i.toNat]? = some x) : oIx (lI ns) (.int i) M Q = Q (.int x) M := by
  unfold lI
  rw [PL.ix_lst, at_pos _ h, List.getElem?_map, e]
  rfl
theorem len_lI {ns : List Int} {M : Mem} {Q : PQ} : kLen (lI ns) M Q = Q (.int ns.length) M := by
  unfold lI
  rw [PL.len_lst, List.length_map]
theorem tupF_tI {l : List Int} : tupF (tI l) = some (l.map PV.int) := rfl
theorem tI_rev {l : List Int} : PV.tup (List.map PV.int l).reverse = tI l.reverse := by unfold tI; rw [List.map_reverse]
theorem addR_tI {l : List Int} {w : Int} : oAdd (tI l) (.tup [.int w]) M Q = (l.length + 1 ≤ sizeLine ∧ Q (tI (l ++ [w])) M) := add_tI (r := [w])
theorem addL_tI {l : List Int} {w : Int} : oAdd (.tup [.int w]) (tI l) M Q = (1 + l.length ≤ sizeLine ∧ Q (tI (w :: l)) M) := add_tI (l := [w])
end

local macro_rules | `(tactic| walk_at "pl") => `(tactic| try simp only [pSeq, pNext, pSet, pRet, pRetN, pIfS, pVar, pC, pTest, pBin, pAnd, pOr, pNot, pAndV, pOrV, pNotV, pIsN, pNotN, pTIsN, pTNotN, pCons, pNil, pTup, pLst, pLstM, pCall, pCallB, pDrop, pAsg, gpName, kB_bl, need_some, need_none, pIf, pSl, pNoPart,
  piL, piT, pFor, pLc, pAug, pFldS, pForM, pMeth, pFld, fldOf_obj, objOf_obj, pApp, gpSub, pRetF, pRetFD, pRetD, dropSlots, pTupRev, pBreak, pCont, pRaise, pTryAs, pMake, kIsE, r_isB, r_notB,
  pstart, List.map_cons, List.map_nil, List.cons_append, List.nil_append, List.length_cons, List.length_nil, List.replicate, List.getElem?_cons_zero, List.getElem?_cons_succ, List.set_cons_zero, List.set_cons_succ, Nat.reduceSub, Nat.reduceAdd, Nat.zero_add, Nat.add_zero, Nat.sub_self,
  Bool.false_eq_true, if_false, if_true, ite_true, ite_false, reduceIte, Bool.not_true, Bool.not_false, Bool.true_eq_false, decide_eq_true_eq, Bool.not_eq_true', List.length_append, true_and, and_true, List.length_map,
  isi_int, isi_bl, isi_str, isi_non, isi_tup, isi_lst, kit_ib, kit_ii, kit_it, kit_il, kit_is, kit_bb, kit_bi, kit_bt, kit_bl, kit_bs, kit_tb, kit_ti, kit_tt, kit_tl, kit_ts, kit_lb, kit_li, kit_lt, kit_ll, kit_ls, kit_sb, kit_si, kit_st, kit_sl, kit_ss, kit_nb, kit_ni, kit_nt, kit_nl, kit_ns,
  PL.ix_tup, PL.ix_lst, ix_scr, at_0, at_1, at_2, at_3, at_4, at_5, len_tup, len_lst, len_scr, eq_int', ne_int', eq_bl', ne_bl', eq_str', ne_str', sl_tup, sl_lst, sl_scr, cutA_map, cutA_from1,
  r_add_int, r_add_str, r_add_tup, r_add_lst, r_mulA_int, r_mulA_tup, r_I0, r_I, r_neg, r_neg_int, r_chain, r_ch1, r_ch2, r_abs, r_int, r_min2, r_max2, r_list_lst, r_list_tup, r_list_scr, r_tup_lst, r_tup_tup, r_listM_lst, r_listM_tup, r_on1, r_on2, r_gtup, r_gcons, r_gnil,
  r_non_non, r_non_int, r_non_tup, r_non_lst, r_non_str, r_non_bl, r_non_ptr, r_non_obj, r_part, r_part_int, r_R1, r_R1_int, r_R2, r_R2_int, r_lstF, r_lstF_scr, r_tupF, cdiv_eq, Int.reduceLT, Int.reduceLE, Int.reduceNeg, Int.reduceAdd, Int.reduceSub, Int.reduceMul, Int.reduceEq, Int.reducePow, Nat.reducePow,
  eq_tI, eq_tI_nil, len_lI, tupF_tI, tI_rev, addR_tI, addL_tI, sl_tI_tail, len_tI, tup_tI, add_tI])
theorem tyOf_ptr_list {M : Mem} {a : Addr} {n : String} (ht : tyOf M (.ptr a) = some n) : n = "list" := by
  have h' : (match M a with | some (.lst _) => some "list" | _ => none) = some n := ht
  cases hm : M a with
  | none => rw [hm] at h'; cases h'
  | some m =>
    rw [hm] at h'
    cases m with
    | lst xs => cases h'; rfl
    | obj C fs => cases h'
    | dct _ _ => cases h'
theorem k_is_whole (Γ : Ctx) : Keeps (t_is_whole Γ) 1 1 (sp_is_whole Γ) := by
  rintro xs M Q E hl ⟨v, rfl, hk, q⟩
  unfold t_is_whole
  walk_at "pl"
  cases v with
  | int i => walk_at "pl"; exact q
  | bl b => walk_at "pl"; exact q
  | str b => walk_at "pl"; exact q
  | non => walk_at "pl"; exact q
  | tup b => walk_at "pl"; exact q
  | lst b => walk_at "pl"; exact q
  | ptr a =>
    cases ht : tyOf M (.ptr a) with
    | none => exact absurd ht hk
    | some n =>
      have hn := tyOf_ptr_list ht
      subst hn
      simp only [isi_of ht]
      walk_at "pl"
      exact q
  | ty n => exact absurd rfl hk
  | scr xs => exact absurd rfl hk
  | obj C fs => exact absurd rfl hk
  | dct _ => exact absurd rfl hk
  | exc _ _ _ => exact absurd rfl hk
  | rng _ _ => exact absurd rfl hk
  | tpd _ => exact absurd rfl hk
theorem k_is_number (Γ : Ctx) : Keeps (t_is_number Γ) 3 3 (sp_is_number Γ) := by
  rintro xs M Q E hl ⟨v, lo, hi, rfl, hk, q⟩
  unfold t_is_number
  walk_at "pl"
  refine ⟨_, rfl, hk, ?_⟩
  cases v with
  | int i =>
    walk_at "pl"
    by_cases h : lo ≤ i
    · rw [if_pos h]
      have e : isNum lo hi (.int i) = decide (i ≤ hi) := by unfold isNum; simp [h]
      rw [e] at q
      exact q
    · rw [if_neg h]
      have e : isNum lo hi (.int i) = false := by unfold isNum; simp [h]
      rw [e] at q
      exact q
  | bl b => exact q
  | str b => exact q
  | non => exact q
  | tup b => exact q
  | lst b => exact q
  | ptr a => exact q
  | ty n => exact absurd rfl hk
  | scr xs => exact absurd rfl hk
  | obj C fs => exact absurd rfl hk
  | dct _ => exact absurd rfl hk
  | exc _ _ _ => exact absurd rfl hk
  | rng _ _ => exact absurd rfl hk
  | tpd _ => exact absurd rfl hk
end My
set_option Elab.async false
set_option linter.all false
set_option maxRecDepth 100000
namespace My
open PySem PL TM PD
local macro_rules | `(tactic| walk_at "hd") => `(tactic| repeat (first | (with_reducible refine w_cons ?_) | ((with_reducible refine' w_var ?_ ?_); rotate_left; exact rfl) | (with_reducible refine w_seq ?_) | (with_reducible refine w_C ?_) | (with_reducible refine w_nil ?_) | (with_reducible refine w_bin ?_) | (with_reducible refine w_tup ?_) | ((with_reducible refine' w_pset ?_ ?_); rotate_left; (intro x; first | with_reducible exact set_h0 | with_reducible exact set_h1 | with_reducible exact set_h2 | with_reducible exact set_h3 | with_reducible exact set_h4 | with_reducible exact set_h5 | with_reducible exact set_h6 | with_reducible exact set_h7 | with_reducible exact set_h8 | with_reducible exact set_h9 | with_reducible exact set_h10 | with_reducible exact set_h11 | with_reducible exact set_h12 | with_reducible exact set_h13 | with_reducible exact set_h14 | with_reducible exact set_h15 | with_reducible exact set_h16 | with_reducible exact set_h17 | with_reducible exact set_h18 | with_reducible exact set_h19 | with_reducible exact set_h20 | with_reducible exact set_h21 | with_reducible exact set_h22 | with_reducible exact set_h23 | with_reducible exact set_h24 | with_reducible exact set_h25)) | (with_reducible refine w_add ?_) | (with_reducible refine w_test ?_) | (with_reducible refine w_kB ?_) | (with_reducible refine w_call ?_) | (with_reducible refine w_ifs ?_) | (with_reducible refine w_next ?_) | ((with_reducible refine' w_gname ?_ ?_); rotate_left; (first | with_reducible exact set_h0 | with_reducible exact set_h1 | with_reducible exact set_h2 | with_reducible exact set_h3 | with_reducible exact set_h4 | with_reducible exact set_h5 | with_reducible exact set_h6 | with_reducible exact set_h7 | with_reducible exact set_h8 | with_reducible exact set_h9 | with_reducible exact set_h10 | with_reducible exact set_h11 | with_reducible exact set_h12 | with_reducible exact set_h13 | with_reducible exact set_h14 | with_reducible exact set_h15 | with_reducible exact set_h16 | with_reducible exact set_h17 | with_reducible exact set_h18 | with_reducible exact set_h19 | with_reducible exact set_h20 | with_reducible exact set_h21 | with_reducible exact set_h22 | with_reducible exact set_h23 | with_reducible exact set_h24 | with_reducible exact set_h25)) | (with_reducible refine w_ret ?_) | (with_reducible refine w_fld ?_) | (with_reducible refine w_ifd ?_) | ((with_reducible refine' w_fldO ?_ ?_); rotate_left; exact rfl) | (with_reducible refine w_gcons ?_) | (with_reducible refine w_callB ?_) | (with_reducible refine w_on1 ?_) | ((with_reducible refine w_mod ?_ ?_); (first | decide | omega)) | (with_reducible refine w_int ?_) | (with_reducible refine w_drop ?_) | (with_reducible refine w_for ?_) | (with_reducible refine w_I0 ?_) | (with_reducible refine w_ifF ?_) | (with_reducible refine w_part ?_) | (with_reducible refine w_partI ?_) | (with_reducible refine w_sl ?_) | (with_reducible refine w_nop ?_) | (with_reducible refine w_ifT ?_) | (with_reducible refine w_R1 ?_) | ((with_reducible refine w_R1I ?_ ?_); (first | decide | omega)) | (with_reducible refine w_gnil ?_) | (with_reducible refine w_ixtup0 ?_) | (with_reducible refine w_ifn ?_) | (with_reducible refine w_asg ?_) | ((with_reducible refine w_gtup ?_ ?_); exact rfl) | (with_reducible refine w_eqInt ?_) | (with_reducible refine w_ixtup1 ?_) | (with_reducible refine w_or ?_) | (with_reducible refine w_not ?_) | (with_reducible refine w_in_non ?_) | (with_reducible refine w_lc ?_) | ((with_reducible refine w_div ?_ ?_); (first | decide | omega)) | (with_reducible refine w_neg ?_) | (with_reducible refine w_negI ?_) | (with_reducible refine w_eqStr ?_) | (with_reducible refine w_slT ?_) | (with_reducible refine w_lentup ?_) | (with_reducible refine w_tupL ?_) | (with_reducible refine w_lstF ?_) | (with_reducible refine w_app ?_) | (with_reducible refine w_tisN ?_) | (with_reducible refine w_meth ?_) | ((with_reducible refine w_objO ?_ ?_); exact rfl) | (with_reducible refine w_lstM ?_) | (with_reducible refine w_ixtup2 ?_) | (with_reducible refine w_retF ?_) | (with_reducible refine w_iL ?_) | (with_reducible refine w_make ?_) | (with_reducible refine w_fldS ?_) | (with_reducible refine w_rg1 ?_) | (with_reducible refine w_dnew ?_) | (with_reducible refine w_gsubD ?_) | (with_reducible refine w_lst ?_) | (with_reducible refine w_ixtup3 ?_) | (with_reducible refine w_lenlst ?_) | (with_reducible refine w_and ?_) | (with_reducible refine w_in_tup ?_) | ((with_reducible refine' w_aug ?_ ?_ ?_); rotate_left 2; exact rfl; (intro x; first | with_reducible exact set_h0 | with_reducible exact set_h1 | with_reducible exact set_h2 | with_reducible exact set_h3 | with_reducible exact set_h4 | with_reducible exact set_h5 | with_reducible exact set_h6 | with_reducible exact set_h7 | with_reducible exact set_h8 | with_reducible exact set_h9 | with_reducible exact set_h10 | with_reducible exact set_h11 | with_reducible exact set_h12 | with_reducible exact set_h13 | with_reducible exact set_h14 | with_reducible exact set_h15 | with_reducible exact set_h16 | with_reducible exact set_h17 | with_reducible exact set_h18 | with_reducible exact set_h19 | with_reducible exact set_h20 | with_reducible exact set_h21 | with_reducible exact set_h22 | with_reducible exact set_h23 | with_reducible exact set_h24 | with_reducible exact set_h25)) | (with_reducible refine w_lc2 ?_) | (with_reducible refine w_lcT ?_) | (with_reducible refine w_on2 ?_) | (with_reducible refine w_neInt ?_) | (with_reducible refine w_slL ?_) | (with_reducible refine w_tnotN ?_) | (with_reducible refine w_iT ?_) | (with_reducible refine w_tupF ?_) | (with_reducible refine w_par ?_) | ((with_reducible refine' w_kpar ?_ ?_ ?_); rotate_left 2; (first | with_reducible exact set_h0 | with_reducible exact set_h1 | with_reducible exact set_h2 | with_reducible exact set_h3 | with_reducible exact set_h4 | with_reducible exact set_h5 | with_reducible exact set_h6 | with_reducible exact set_h7 | with_reducible exact set_h8 | with_reducible exact set_h9 | with_reducible exact set_h10 | with_reducible exact set_h11 | with_reducible exact set_h12 | with_reducible exact set_h13 | with_reducible exact set_h14 | with_reducible exact set_h15 | with_reducible exact set_h16 | with_reducible exact set_h17 | with_reducible exact set_h18 | with_reducible exact set_h19 | with_reducible exact set_h20 | with_reducible exact set_h21 | with_reducible exact set_h22 | with_reducible exact set_h23 | with_reducible exact set_h24 | with_reducible exact set_h25); (first | with_reducible exact set_h0 | with_reducible exact set_h1 | with_reducible exact set_h2 | with_reducible exact set_h3 | with_reducible exact set_h4 | with_reducible exact set_h5 | with_reducible exact set_h6 | with_reducible exact set_h7 | with_reducible exact set_h8 | with_reducible exact set_h9 | with_reducible exact set_h10 | with_reducible exact set_h11 | with_reducible exact set_h12 | with_reducible exact set_h13 | with_reducible exact set_h14 | with_reducible exact set_h15 | with_reducible exact set_h16 | with_reducible exact set_h17 | with_reducible exact set_h18 | with_reducible exact set_h19 | with_reducible exact set_h20 | with_reducible exact set_h21 | with_reducible exact set_h22 | with_reducible exact set_h23 | with_reducible exact set_h24 | with_reducible exact set_h25)) | (with_reducible refine w_rg2 ?_) | (with_reducible refine w_asT ?_) | (with_reducible refine w_kTp ?_) | (with_reducible refine w_pdget2 ?_) | (with_reducible refine w_zT ?_) | (with_reducible refine w_dct ?_) | (with_reducible refine w_listL ?_) | (with_reducible refine w_andV ?_) | (with_reducible refine w_isN ?_) | (with_reducible refine w_cnt ?_) | (with_reducible refine w_retD ?_) | ((with_reducible refine' w_isi_i ?_ ?_); rotate_left; (first | with_reducible exact kit_ib | with_reducible exact kit_ii | with_reducible exact kit_it | with_reducible exact kit_il | with_reducible exact kit_is)) | ((with_reducible refine' w_isi_t ?_ ?_); rotate_left; (first | with_reducible exact kit_tb | with_reducible exact kit_ti | with_reducible exact kit_tt | with_reducible exact kit_tl | with_reducible exact kit_ts)) | (with_reducible refine w_lc2M ?_) | (with_reducible refine w_lcM ?_) | (with_reducible refine w_catN ?_) | (with_reducible refine w_tcnt ?_) | (with_reducible refine w_kTCnt ?_) | (with_reducible refine w_catR ?_) | (with_reducible refine w_tidx ?_) | (with_reducible refine w_pdget1 ?_) | (with_reducible refine w_rv ?_) | (with_reducible refine w_z ?_) | (with_reducible refine w_gsub ?_) | (with_reducible refine w_ixlst0 ?_) | (with_reducible refine w_ixlst1 ?_) | (with_reducible refine w_slS ?_) | (with_reducible refine w_abs ?_) | (with_reducible refine w_listML ?_) | (with_reducible refine w_notB ?_) | (with_reducible refine w_brk ?_) | (with_reducible refine w_fzE ?_) | ((with_reducible refine' w_isi_l ?_ ?_); rotate_left; (first | with_reducible exact kit_lb | with_reducible exact kit_li | with_reducible exact kit_lt | with_reducible exact kit_ll | with_reducible exact kit_ls)) | (with_reducible refine w_join ?_) | (with_reducible refine w_kStr ?_) | (with_reducible refine w_zL ?_) | (with_reducible refine w_tupRg ?_) | ((with_reducible refine w_shr ?_ ?_); (first | decide | omega)) | (with_reducible refine w_retN ?_) | (with_reducible refine w_dnx ?_) | (with_reducible refine w_drt ?_) | (with_reducible refine w_dbk ?_) | (with_reducible refine w_eqBl ?_) | (with_reducible refine w_neBl ?_) | (with_reducible refine w_neStr ?_) | (with_reducible refine w_ixlst2 ?_) | (with_reducible refine w_ixlst3 ?_) | (with_reducible refine w_ixtup4 ?_) | (with_reducible refine w_ixlst4 ?_) | (with_reducible refine w_ixtup5 ?_) | (with_reducible refine w_ixlst5 ?_) | (with_reducible refine w_need ?_) | (with_reducible refine w_lenscr ?_) | (with_reducible refine w_listT ?_) | (with_reducible refine w_listS ?_) | (with_reducible refine w_tupT ?_) | (with_reducible refine w_listMT ?_) | (with_reducible refine w_orV ?_) | (with_reducible refine w_notV ?_) | (with_reducible refine w_if ?_) | (with_reducible refine w_notN ?_) | (with_reducible refine w_in_int ?_) | (with_reducible refine w_in_lst ?_) | (with_reducible refine w_in_ptr ?_) | (with_reducible refine w_in_str ?_) | (with_reducible refine w_in_bl ?_) | (with_reducible refine w_isB ?_) | (with_reducible refine w_lstFs ?_) | (with_reducible refine w_R2 ?_) | (with_reducible refine w_forM ?_) | (with_reducible refine w_lcnil ?_) | (with_reducible refine w_lccons ?_) | (with_reducible refine w_retFD ?_) | (with_reducible refine w_raise ?_) | (with_reducible refine w_raiseF ?_) | (with_reducible refine w_tryF ?_) | (with_reducible refine w_isFp ?_) | (with_reducible refine w_isFx ?_) | ((with_reducible refine' w_xf ?_ ?_); rotate_left; exact rfl) | (with_reducible refine w_try ?_) | (with_reducible refine w_lstRg ?_) | (with_reducible refine w_pop ?_) | (with_reducible refine w_rev ?_) | (with_reducible refine w_revL ?_) | (with_reducible refine w_forE ?_) | ((with_reducible refine' w_isi_b ?_ ?_); rotate_left; (first | with_reducible exact kit_bb | with_reducible exact kit_bi | with_reducible exact kit_bt | with_reducible exact kit_bl | with_reducible exact kit_bs)) | ((with_reducible refine' w_isi_s ?_ ?_); rotate_left; (first | with_reducible exact kit_sb | with_reducible exact kit_si | with_reducible exact kit_st | with_reducible exact kit_sl | with_reducible exact kit_ss)) | ((with_reducible refine' w_isi_n ?_ ?_); rotate_left; (first | with_reducible exact kit_nb | with_reducible exact kit_ni | with_reducible exact kit_nt | with_reducible exact kit_nl | with_reducible exact kit_ns))))
local macro_rules | `(tactic| walk_at "st") => `(tactic| simp only [pstart, List.map_cons, List.map_nil, List.cons_append, List.nil_append, List.length_cons, List.length_nil, List.replicate, Nat.reduceSub, Nat.reduceAdd, Nat.zero_add])
local macro_rules | `(tactic| walk_at "pl") => `(tactic| try simp only [pSeq, pNext, pSet, pRet, pRetN, pIfS, pVar, pC, pTest, pBin, pAnd, pOr, pNot, pAndV, pOrV, pNotV, pIsN, pNotN, pTIsN, pTNotN, pCons, pNil, pTup, pLst, pLstM, pCall, pCallB, pDrop, pAsg, gpName, kB_bl, need_some, need_none, pIf, pSl, pNoPart,
  piL, piT, pFor, pLc, pAug, pFldS, pForM, pMeth, pFld, fldOf_obj, objOf_obj, pApp, gpSub, pRetF, pRetFD, pRetD, dropSlots, pTupRev, pBreak, pCont,
  pstart, List.map_cons, List.map_nil, List.cons_append, List.nil_append, List.length_cons, List.length_nil, List.replicate, List.getElem?_cons_zero, List.getElem?_cons_succ, List.set_cons_zero, List.set_cons_succ, Nat.reduceSub, Nat.reduceAdd, Nat.zero_add, Nat.add_zero, Nat.sub_self,
  Bool.false_eq_true, if_false, if_true, ite_true, ite_false, reduceIte, Bool.not_true, Bool.not_false, Bool.true_eq_false, decide_eq_true_eq, Bool.not_eq_true', List.length_append, true_and, and_true, List.length_map,
  isi_int, isi_bl, isi_str, isi_non, isi_tup, isi_lst, kit_ib, kit_ii, kit_it, kit_il, kit_is, kit_bb, kit_bi, kit_bt, kit_bl, kit_bs, kit_tb, kit_ti, kit_tt, kit_tl, kit_ts, kit_lb, kit_li, kit_lt, kit_ll, kit_ls, kit_sb, kit_si, kit_st, kit_sl, kit_ss, kit_nb, kit_ni, kit_nt, kit_nl, kit_ns,
  PL.ix_tup, PL.ix_lst, ix_scr, at_0, at_1, at_2, at_3, at_4, at_5, len_tup, len_lst, len_scr, eq_int', ne_int', eq_bl', ne_bl', eq_str', ne_str', sl_tup, sl_lst, sl_scr, cutA_map, cutA_from1,
  r_add_int, r_add_str, r_add_tup, r_add_lst, r_mulA_int, r_mulA_tup, r_I0, r_I, r_neg, r_neg_int, r_chain, r_ch1, r_ch2, r_abs, r_int, r_min2, r_max2, r_list_lst, r_list_tup, r_list_scr, r_tup_lst, r_tup_tup, r_listM_lst, r_listM_tup, r_on1, r_on2, r_gtup, r_gcons, r_gnil,
  r_non_non, r_non_int, r_non_tup, r_non_lst, r_non_str, r_non_bl, r_non_ptr, r_non_obj, r_part, r_part_int, r_R1, r_R1_int, r_R2, r_R2_int, r_lstF, r_lstF_scr, r_tupF,
  eq_tI, eq_tI_nil, sl_tI_tail, len_tI, tup_tI, add_tI, lk_marks, lk_states, lk_rows, lk_row, lk_table, lk_begin, lk_step, lk_stopped, lk_run])
theorem c_is_number {Γ : Ctx} {i lo hi : Int} {M : Mem} {Q : PQ} {E : PXK} : sp_is_number Γ [.int i, .int lo, .int hi] M Q E = Q (.bl (decide (lo ≤ i) && decide (i ≤ hi))) M := by
  refine propext ⟨?_, fun q => ⟨_, _, _, rfl, (fun h => nomatch h), q⟩⟩
  rintro ⟨v, lo', hi', e, _, q⟩
  cases e
  exact q
theorem k_nearest (Γ : Ctx) : Keeps (t_nearest Γ) 1 1 (sp_nearest Γ) := by
  rintro xs M Q E hl ⟨l, rfl, q⟩
  unfold t_nearest
  walk_at "pl"
  by_cases h : l = []
  · subst h
    exact q
  · rw [if_neg h, ix_tI0 h]
    exact q
theorem k_pushed (Γ : Ctx) : Keeps (t_pushed Γ) 2 2 (sp_pushed Γ) := by
  rintro xs M Q E hl ⟨w, l, rfl, hz, q⟩
  unfold t_pushed
  walk_at "pl"
  have e : oAdd (.tup [.int w]) (tI l) M Q = (1 + l.length ≤ sizeLine ∧ Q (tI ([w] ++ l)) M) := add_tI (l := [w])
  have h1 : 1 + l.length ≤ sizeLine := line_lt (by omega)
  unfold push at q
  by_cases hw : w = 0
  · by_cases hn : l = []
    · rw [if_pos hw, if_pos hn]
      rw [if_pos ⟨hw, hn⟩] at q
      exact q
    · rw [if_pos hw, if_neg hn]
      rw [if_neg (fun z => hn z.2)] at q
      exact e.mpr ⟨h1, q⟩
  · rw [if_neg hw]
    rw [if_neg (fun z => hw z.1)] at q
    exact e.mpr ⟨h1, q⟩
theorem k_moved (Γ : Ctx) : Keeps (t_moved Γ) 2 5 (sp_moved Γ) := by
  rintro xs M Q E hl ⟨l, a, r, mv, rfl, hm, hl1, hl2, q⟩
  unfold t_moved
  walk_at "pl"
  rcases hm with e | e
  · subst e
    rw [if_pos rfl]
    rw [if_pos rfl] at q
    exact ⟨a, l, rfl, hl1, r, rfl, q⟩
  · subst e
    rw [if_neg (by decide), if_pos rfl]
    rw [if_neg (by decide)] at q
    exact ⟨l, rfl, a, r, rfl, hl2, q⟩
theorem k_is_row (Γ : Ctx) : Keeps (t_is_row Γ) 3 6 (sp_is_row Γ) := by
  rintro xs M Q E hl ⟨r, m, s, rfl, hr, q⟩
  unfold t_is_row
  walk_at "pl"
  cases r with
  | none =>
    unfold rowP
    walk_at "pl"
    exact q
  | some r =>
    obtain ⟨w, mv, t⟩ := r
    obtain ⟨hw, hm, ht⟩ := hr
    unfold rowP
    walk_at "pl"
    simp only [c_is_number]
    walk_at "pl"
    rw [if_neg (by decide), if_neg (by rcases hm with e | e <;> subst e <;> decide), if_neg (by rcases hm with e | e <;> subst e <;> decide)]
    have e1 : (decide (0 ≤ w) && decide (w ≤ m - 1)) = true := by simp; omega
    have e2 : (decide (0 ≤ t) && decide (t ≤ s - 1)) = true := by simp; omega
    rw [if_pos e1, e2]
    exact q
theorem c_is_number' {Γ : Ctx} {v : PV} {lo hi : Int} {M : Mem} {Q : PQ} {E : PXK} (h : known M v) (q : Q (.bl (isNum lo hi v)) M) : sp_is_number Γ [v, .int lo, .int hi] M Q E := ⟨_, _, _, rfl, h, q⟩
theorem c_are_ints {Γ : Ctx} {ms : List Int} {lo hi : Int} {M : Mem} {Q : PQ} {E : PXK} (hz : ms.length < 1000000) (h : ∀ x ∈ ms, lo ≤ x ∧ x ≤ hi) (q : Q (.bl true) M) : sp_are_numbers Γ [tI ms, .int lo, .int hi] M Q E := by
  refine ⟨_, _, _, rfl, (fun h => nomatch h), fun ys e => ?_, ?_⟩
  · cases e
    refine ⟨line_lt (by rw [List.length_map]; omega), fun y hy => ?_⟩
    obtain ⟨x, _, rfl⟩ := List.mem_map.mp hy
    exact fun h => nomatch h
  · have e : areNum lo hi (tI ms) = true := by
      show (ms.map PV.int).all (isNum lo hi) = true
      rw [List.all_map, List.all_eq_true]
      intro x hx
      show (decide (lo ≤ x) && decide (x ≤ hi)) = true
      have := h x hx
      simp; omega
    rw [e]
    exact q
theorem k_Tape_init (Γ : Ctx) : Keeps (t_Tape_init Γ) 4 5 (sp_Tape_init Γ) := by
  rintro xs M Q E hl ⟨p, m, s, rv, rows, rfl, hM, hl1, ht, hp, q⟩
  obtain ⟨m2, m8, s1, s40, hlen, hok⟩ := hM
  unfold t_Tape_init
  walk_at "pl"
  simp only [c_is_number, isi_of ht, len_of hl1, hl1]
  walk_at "pl"
  have e1 : (decide (2 ≤ m) && decide (m ≤ 8)) = true := by simp; omega
  have e2 : (decide (1 ≤ s) && decide (s ≤ 40)) = true := by simp; omega
  rw [e1, e2, if_neg (by decide), if_neg (by decide)]
  refine ⟨.inl ⟨by omega, by omega⟩, ?_⟩
  rw [if_neg (by rw [hlen]; simp), hl1, need_some]
  refine for_inG (fun i σ M' => M' = M ∧ ∃ r, σ = [some (.ptr p), some (.int m), some (.int s), some rv, r]) ⟨rfl, _, rfl⟩ ?_ ?_
  · rintro i x σ M' K hx ⟨rfl, r, rfl⟩ hK
    rw [List.getElem?_map] at hx
    cases hr : rows[i]? with
    | none => rw [hr] at hx; cases hx
    | some r0 =>
      rw [hr] at hx
      cases hx
      unfold b_Tape_init_1
      walk_at "pl"
      refine ⟨r0, m, s, rfl, hok r0 (List.mem_of_getElem? hr), ?_⟩
      walk_at "pl"
      exact hK _ _ hl1 ⟨rfl, _, rfl⟩
  · rintro σ M' ⟨rfl, r, rfl⟩
    walk_at "pl"
    have h1 := lstOf_put (p := p) (o := .obj Γ.Tape (putP (Str.ofString "marks") (.int m) [])) hl1 (fun ys z => by rw [hp] at z; cases z)
    have h2 := lstOf_put (p := p) (o := .obj Γ.Tape (putP (Str.ofString "states") (.int s) (putP (Str.ofString "marks") (.int m) []))) h1 (fun ys z => by rw [put_same] at z; cases z)
    rw [putF_ptr hp]
    refine ⟨(by show 0 < 1000; decide), ?_⟩
    walk_at "pl"
    rw [putF_ptr put_same]
    refine ⟨(by show 1 < 1000; decide), ?_⟩
    walk_at "pl"
    rw [list_of h2, putF_ptr put_same]
    refine ⟨(by show 2 < 1000; decide), ?_⟩
    rw [put_put, put_put]
    exact q
theorem k_Tape_row (Γ : Ctx) : Keeps (t_Tape_row Γ) 3 3 (sp_Tape_row Γ) := by
  rintro xs M Q E hl ⟨m, s, rows, a, b, rfl, hM, ha, hb, q⟩
  unfold t_Tape_row tapeP
  walk_at "pl"
  simp only [c_is_number]
  walk_at "pl"
  have e1 : (decide (0 ≤ a) && decide (a ≤ s - 1)) = true := by simp; omega
  have e2 : (decide (0 ≤ b) && decide (b ≤ m - 1)) = true := by simp; omega
  rw [e1, e2, if_neg (by decide), if_neg (by decide), at_rows hM ha.1 ha.2 hb.1 hb.2, need_some]
  exact ⟨cmul_ok hM ha.1 ha.2, q⟩
theorem k_Tape_table (Γ : Ctx) : Keeps (t_Tape_table Γ) 1 1 (sp_Tape_table Γ) := by
  rintro xs M Q E hl ⟨m, s, rows, rfl, q⟩
  unfold t_Tape_table tapeP
  walk_at "pl"
  exact q
theorem runM_len {m s : Int} {rows : List TRow} (c d : Cf) (h : stepM rows m c = some d) : d.l.length ≤ c.l.length + 1 ∧ d.r.length ≤ c.r.length + 1 := by
  unfold stepM at h
  split at h
  · cases h
  · rename_i w mv t _
    split at h
    · cases h
      constructor
      · show (push w c.l).length ≤ _
        unfold push
        split <;> simp
      · show c.r.tail.length ≤ _
        simp; omega
    · cases h
      constructor
      · show c.l.tail.length ≤ _
        simp; omega
      · show (push w c.r).length ≤ _
        unfold push
        split <;> simp
end My
set_option Elab.async false
set_option linter.all false
set_option maxRecDepth 100000
namespace My
open PySem PL TM PD
local macro_rules | `(tactic| walk_at "hd") => `(tactic| repeat (first | (with_reducible refine w_cons ?_) | ((with_reducible refine' w_var ?_ ?_); rotate_left; exact rfl) | (with_reducible refine w_seq ?_) | (with_reducible refine w_C ?_) | (with_reducible refine w_nil ?_) | (with_reducible refine w_bin ?_) | (with_reducible refine w_tup ?_) | ((with_reducible refine' w_pset ?_ ?_); rotate_left; (intro x; first | with_reducible exact set_h0 | with_reducible exact set_h1 | with_reducible exact set_h2 | with_reducible exact set_h3 | with_reducible exact set_h4 | with_reducible exact set_h5 | with_reducible exact set_h6 | with_reducible exact set_h7 | with_reducible exact set_h8 | with_reducible exact set_h9 | with_reducible exact set_h10 | with_reducible exact set_h11 | with_reducible exact set_h12 | with_reducible exact set_h13 | with_reducible exact set_h14 | with_reducible exact set_h15 | with_reducible exact set_h16 | with_reducible exact set_h17 | with_reducible exact set_h18 | with_reducible exact set_h19 | with_reducible exact set_h20 | with_reducible exact set_h21 | with_reducible exact set_h22 | with_reducible exact set_h23 | with_reducible exact set_h24 | with_reducible exact set_h25)) | (with_reducible refine w_add ?_) | (with_reducible refine w_test ?_) | (with_reducible refine w_kB ?_) | (with_reducible refine w_call ?_) | (with_reducible refine w_ifs ?_) | (with_reducible refine w_next ?_) | ((with_reducible refine' w_gname ?_ ?_); rotate_left; (first | with_reducible exact set_h0 | with_reducible exact set_h1 | with_reducible exact set_h2 | with_reducible exact set_h3 | with_reducible exact set_h4 | with_reducible exact set_h5 | with_reducible exact set_h6 | with_reducible exact set_h7 | with_reducible exact set_h8 | with_reducible exact set_h9 | with_reducible exact set_h10 | with_reducible exact set_h11 | with_reducible exact set_h12 | with_reducible exact set_h13 | with_reducible exact set_h14 | with_reducible exact set_h15 | with_reducible exact set_h16 | with_reducible exact set_h17 | with_reducible exact set_h18 | with_reducible exact set_h19 | with_reducible exact set_h20 | with_reducible exact set_h21 | with_reducible exact set_h22 | with_reducible exact set_h23 | with_reducible exact set_h24 | with_reducible exact set_h25)) | (with_reducible refine w_ret ?_) | (with_reducible refine w_fld ?_) | (with_reducible refine w_ifd ?_) | ((with_reducible refine' w_fldO ?_ ?_); rotate_left; exact rfl) | (with_reducible refine w_gcons ?_) | (with_reducible refine w_callB ?_) | (with_reducible refine w_on1 ?_) | ((with_reducible refine w_mod ?_ ?_); (first | decide | omega)) | (with_reducible refine w_int ?_) | (with_reducible refine w_drop ?_) | (with_reducible refine w_for ?_) | (with_reducible refine w_I0 ?_) | (with_reducible refine w_ifF ?_) | (with_reducible refine w_part ?_) | (with_reducible refine w_partI ?_) | (with_reducible refine w_sl ?_) | (with_reducible refine w_nop ?_) | (with_reducible refine w_ifT ?_) | (with_reducible refine w_R1 ?_) | ((with_reducible refine w_R1I ?_ ?_); (first | decide | omega)) | (with_reducible refine w_gnil ?_) | (with_reducible refine w_ixtup0 ?_) | (with_reducible refine w_ifn ?_) | (with_reducible refine w_asg ?_) | ((with_reducible refine w_gtup ?_ ?_); exact rfl) | (with_reducible refine w_eqInt ?_) | (with_reducible refine w_ixtup1 ?_) | (with_reducible refine w_or ?_) | (with_reducible refine w_not ?_) | (with_reducible refine w_in_non ?_) | (with_reducible refine w_lc ?_) | ((with_reducible refine w_div ?_ ?_); (first | decide | omega)) | (with_reducible refine w_neg ?_) | (with_reducible refine w_negI ?_) | (with_reducible refine w_eqStr ?_) | (with_reducible refine w_slT ?_) | (with_reducible refine w_lentup ?_) | (with_reducible refine w_tupL ?_) | (with_reducible refine w_lstF ?_) | (with_reducible refine w_app ?_) | (with_reducible refine w_tisN ?_) | (with_reducible refine w_meth ?_) | ((with_reducible refine w_objO ?_ ?_); exact rfl) | (with_reducible refine w_lstM ?_) | (with_reducible refine w_ixtup2 ?_) | (with_reducible refine w_retF ?_) | (with_reducible refine w_iL ?_) | (with_reducible refine w_make ?_) | (with_reducible refine w_fldS ?_) | (with_reducible refine w_rg1 ?_) | (with_reducible refine w_dnew ?_) | (with_reducible refine w_gsubD ?_) | (with_reducible refine w_lst ?_) | (with_reducible refine w_ixtup3 ?_) | (with_reducible refine w_lenlst ?_) | (with_reducible refine w_and ?_) | (with_reducible refine w_in_tup ?_) | ((with_reducible refine' w_aug ?_ ?_ ?_); rotate_left 2; exact rfl; (intro x; first | with_reducible exact set_h0 | with_reducible exact set_h1 | with_reducible exact set_h2 | with_reducible exact set_h3 | with_reducible exact set_h4 | with_reducible exact set_h5 | with_reducible exact set_h6 | with_reducible exact set_h7 | with_reducible exact set_h8 | with_reducible exact set_h9 | with_reducible exact set_h10 | with_reducible exact set_h11 | with_reducible exact set_h12 | with_reducible exact set_h13 | with_reducible exact set_h14 | with_reducible exact set_h15 | with_reducible exact set_h16 | with_reducible exact set_h17 | with_reducible exact set_h18 | with_reducible exact set_h19 | with_reducible exact set_h20 | with_reducible exact set_h21 | with_reducible exact set_h22 | with_reducible exact set_h23 | with_reducible exact set_h24 | with_reducible exact set_h25)) | (with_reducible refine w_lc2 ?_) | (with_reducible refine w_lcT ?_) | (with_reducible refine w_on2 ?_) | (with_reducible refine w_neInt ?_) | (with_reducible refine w_slL ?_) | (with_reducible refine w_tnotN ?_) | (with_reducible refine w_iT ?_) | (with_reducible refine w_tupF ?_) | (with_reducible refine w_par ?_) | ((with_reducible refine' w_kpar ?_ ?_ ?_); rotate_left 2; (first | with_reducible exact set_h0 | with_reducible exact set_h1 | with_reducible exact set_h2 | with_reducible exact set_h3 | with_reducible exact set_h4 | with_reducible exact set_h5 | with_reducible exact set_h6 | with_reducible exact set_h7 | with_reducible exact set_h8 | with_reducible exact set_h9 | with_reducible exact set_h10 | with_reducible exact set_h11 | with_reducible exact set_h12 | with_reducible exact set_h13 | with_reducible exact set_h14 | with_reducible exact set_h15 | with_reducible exact set_h16 | with_reducible exact set_h17 | with_reducible exact set_h18 | with_reducible exact set_h19 | with_reducible exact set_h20 | with_reducible exact set_h21 | with_reducible exact set_h22 | with_reducible exact set_h23 | with_reducible exact set_h24 | with_reducible exact set_h25); (first | with_reducible exact set_h0 | with_reducible exact set_h1 | with_reducible exact set_h2 | with_reducible exact set_h3 | with_reducible exact set_h4 | with_reducible exact set_h5 | with_reducible exact set_h6 | with_reducible exact set_h7 | with_reducible exact set_h8 | with_reducible exact set_h9 | with_reducible exact set_h10 | with_reducible exact set_h11 | with_reducible exact set_h12 | with_reducible exact set_h13 | with_reducible exact set_h14 | with_reducible exact set_h15 | with_reducible exact set_h16 | with_reducible exact set_h17 | with_reducible exact set_h18 | with_reducible exact set_h19 | with_reducible exact set_h20 | with_reducible exact set_h21 | with_reducible exact set_h22 | with_reducible exact set_h23 | with_reducible exact set_h24 | with_reducible exact set_h25)) | (with_reducible refine w_rg2 ?_) | (with_reducible refine w_asT ?_) | (with_reducible refine w_kTp ?_) | (with_reducible refine w_pdget2 ?_) | (with_reducible refine w_zT ?_) | (with_reducible refine w_dct ?_) | (with_reducible refine w_listL ?_) | (with_reducible refine w_andV ?_) | (with_reducible refine w_isN ?_) | (with_reducible refine w_cnt ?_) | (with_reducible refine w_retD ?_) | ((with_reducible refine' w_isi_i ?_ ?_); rotate_left; (first | with_reducible exact kit_ib | with_reducible exact kit_ii | with_reducible exact kit_it | with_reducible exact kit_il | with_reducible exact kit_is)) | ((with_reducible refine' w_isi_t ?_ ?_); rotate_left; (first | with_reducible exact kit_tb | with_reducible exact kit_ti | with_reducible exact kit_tt | with_reducible exact kit_tl | with_reducible exact kit_ts)) | (with_reducible refine w_lc2M ?_) | (with_reducible refine w_lcM ?_) | (with_reducible refine w_catN ?_) | (with_reducible refine w_tcnt ?_) | (with_reducible refine w_kTCnt ?_) | (with_reducible refine w_catR ?_) | (with_reducible refine w_tidx ?_) | (with_reducible refine w_pdget1 ?_) | (with_reducible refine w_rv ?_) | (with_reducible refine w_z ?_) | (with_reducible refine w_gsub ?_) | (with_reducible refine w_ixlst0 ?_) | (with_reducible refine w_ixlst1 ?_) | (with_reducible refine w_slS ?_) | (with_reducible refine w_abs ?_) | (with_reducible refine w_listML ?_) | (with_reducible refine w_notB ?_) | (with_reducible refine w_brk ?_) | (with_reducible refine w_fzE ?_) | ((with_reducible refine' w_isi_l ?_ ?_); rotate_left; (first | with_reducible exact kit_lb | with_reducible exact kit_li | with_reducible exact kit_lt | with_reducible exact kit_ll | with_reducible exact kit_ls)) | (with_reducible refine w_join ?_) | (with_reducible refine w_kStr ?_) | (with_reducible refine w_zL ?_) | (with_reducible refine w_tupRg ?_) | ((with_reducible refine w_shr ?_ ?_); (first | decide | omega)) | (with_reducible refine w_retN ?_) | (with_reducible refine w_dnx ?_) | (with_reducible refine w_drt ?_) | (with_reducible refine w_dbk ?_) | (with_reducible refine w_eqBl ?_) | (with_reducible refine w_neBl ?_) | (with_reducible refine w_neStr ?_) | (with_reducible refine w_ixlst2 ?_) | (with_reducible refine w_ixlst3 ?_) | (with_reducible refine w_ixtup4 ?_) | (with_reducible refine w_ixlst4 ?_) | (with_reducible refine w_ixtup5 ?_) | (with_reducible refine w_ixlst5 ?_) | (with_reducible refine w_need ?_) | (with_reducible refine w_lenscr ?_) | (with_reducible refine w_listT ?_) | (with_reducible refine w_listS ?_) | (with_reducible refine w_tupT ?_) | (with_reducible refine w_listMT ?_) | (with_reducible refine w_orV ?_) | (with_reducible refine w_notV ?_) | (with_reducible refine w_if ?_) | (with_reducible refine w_notN ?_) | (with_reducible refine w_in_int ?_) | (with_reducible refine w_in_lst ?_) | (with_reducible refine w_in_ptr ?_) | (with_reducible refine w_in_str ?_) | (with_reducible refine w_in_bl ?_) | (with_reducible refine w_isB ?_) | (with_reducible refine w_lstFs ?_) | (with_reducible refine w_R2 ?_) | (with_reducible refine w_forM ?_) | (with_reducible refine w_lcnil ?_) | (with_reducible refine w_lccons ?_) | (with_reducible refine w_retFD ?_) | (with_reducible refine w_raise ?_) | (with_reducible refine w_raiseF ?_) | (with_reducible refine w_tryF ?_) | (with_reducible refine w_isFp ?_) | (with_reducible refine w_isFx ?_) | ((with_reducible refine' w_xf ?_ ?_); rotate_left; exact rfl) | (with_reducible refine w_try ?_) | (with_reducible refine w_lstRg ?_) | (with_reducible refine w_pop ?_) | (with_reducible refine w_rev ?_) | (with_reducible refine w_revL ?_) | (with_reducible refine w_forE ?_) | ((with_reducible refine' w_isi_b ?_ ?_); rotate_left; (first | with_reducible exact kit_bb | with_reducible exact kit_bi | with_reducible exact kit_bt | with_reducible exact kit_bl | with_reducible exact kit_bs)) | ((with_reducible refine' w_isi_s ?_ ?_); rotate_left; (first | with_reducible exact kit_sb | with_reducible exact kit_si | with_reducible exact kit_st | with_reducible exact kit_sl | with_reducible exact kit_ss)) | ((with_reducible refine' w_isi_n ?_ ?_); rotate_left; (first | with_reducible exact kit_nb | with_reducible exact kit_ni | with_reducible exact kit_nt | with_reducible exact kit_nl | with_reducible exact kit_ns))))
local macro_rules | `(tactic| walk_at "st") => `(tactic| simp only [pstart, List.map_cons, List.map_nil, List.cons_append, List.nil_append, List.length_cons, List.length_nil, List.replicate, Nat.reduceSub, Nat.reduceAdd, Nat.zero_add])
local macro_rules | `(tactic| walk_at "pl") => `(tactic| try simp only [pSeq, pNext, pSet, pRet, pRetN, pIfS, pVar, pC, pTest, pBin, pAnd, pOr, pNot, pAndV, pOrV, pNotV, pIsN, pNotN, pTIsN, pTNotN, pCons, pNil, pTup, pLst, pLstM, pCall, pCallB, pDrop, pAsg, gpName, kB_bl, need_some, need_none, pIf, pSl, pNoPart,
  piL, piT, pFor, pLc, pAug, pFldS, pForM, pMeth, pFld, fldOf_obj, objOf_obj, pApp, gpSub, pRetF, pRetFD, pRetD, dropSlots, pTupRev, pBreak, pCont,
  pstart, List.map_cons, List.map_nil, List.cons_append, List.nil_append, List.length_cons, List.length_nil, List.replicate, List.getElem?_cons_zero, List.getElem?_cons_succ, List.set_cons_zero, List.set_cons_succ, Nat.reduceSub, Nat.reduceAdd, Nat.zero_add, Nat.add_zero, Nat.sub_self,
  Bool.false_eq_true, if_false, if_true, ite_true, ite_false, reduceIte, Bool.not_true, Bool.not_false, Bool.true_eq_false, decide_eq_true_eq, Bool.not_eq_true', List.length_append, true_and, and_true, List.length_map,
  isi_int, isi_bl, isi_str, isi_non, isi_tup, isi_lst, kit_ib, kit_ii, kit_it, kit_il, kit_is, kit_bb, kit_bi, kit_bt, kit_bl, kit_bs, kit_tb, kit_ti, kit_tt, kit_tl, kit_ts, kit_lb, kit_li, kit_lt, kit_ll, kit_ls, kit_sb, kit_si, kit_st, kit_sl, kit_ss, kit_nb, kit_ni, kit_nt, kit_nl, kit_ns,
  PL.ix_tup, PL.ix_lst, ix_scr, at_0, at_1, at_2, at_3, at_4, at_5, len_tup, len_lst, len_scr, eq_int', ne_int', eq_bl', ne_bl', eq_str', ne_str', sl_tup, sl_lst, sl_scr, cutA_map, cutA_from1,
  r_add_int, r_add_str, r_add_tup, r_add_lst, r_mulA_int, r_mulA_tup, r_I0, r_I, r_neg, r_neg_int, r_chain, r_ch1, r_ch2, r_abs, r_int, r_min2, r_max2, r_list_lst, r_list_tup, r_list_scr, r_tup_lst, r_tup_tup, r_listM_lst, r_listM_tup, r_on1, r_on2, r_gtup, r_gcons, r_gnil,
  r_non_non, r_non_int, r_non_tup, r_non_lst, r_non_str, r_non_bl, r_non_ptr, r_non_obj, r_part, r_part_int, r_R1, r_R1_int, r_R2, r_R2_int, r_lstF, r_lstF_scr, r_tupF, cdiv_eq, Int.reduceLT, Int.reduceLE, Int.reduceNeg, Int.reduceAdd, Int.reduceSub, Int.reduceMul, Int.reduceEq, Int.reducePow, Nat.reducePow,
  eq_tI, eq_tI_nil, len_lI, sl_tI_tail, len_tI, tup_tI, add_tI, lk_marks, lk_states, lk_rows, lk_row, lk_table, lk_begin, lk_step, lk_stopped, lk_run])
theorem k_law_take (Γ : Ctx) : Keeps (t_law_take Γ) 2 2 (sp_law_take Γ) := by
  rintro xs M Q E hl ⟨ns, p, k, rfl, hns, ⟨hp, hk⟩, q⟩
  unfold t_law_take
  walk_at "pl"
  rw [ix_ptr hp]
  walk_at "pl"
  by_cases h : k < ns.length
  · have hg : ns[k.toNat]? = some ns[k.toNat] := List.getElem?_eq_getElem (by omega)
    rw [if_pos h, ix_ptr hp]
    walk_at "pl"
    rw [set_ptr hp (by decide) (by show (0 : Int) < 1; decide), ix_ptr put_same]
    walk_at "pl"
    have e1 : k + 1 - 1 = k := by omega
    show oIx (lI ns) (.int (k + 1 - 1)) _ Q
    rw [e1, ix_lI hk hg]
    exact q _ _ (hns.r _ (List.getElem_mem _)) (by omega)
  · rw [if_neg h]
    have := q 0 k ⟨by decide, by decide⟩ hk
    rw [put_self hp] at this
    exact this
theorem k_law_sizes (Γ : Ctx) : Keeps (t_law_sizes Γ) 2 4 (sp_law_sizes Γ) := by
  rintro xs M Q E hl ⟨ns, p, k, rfl, hns, hp, q⟩
  unfold t_law_sizes
  walk_at "pl"
  refine ⟨ns, p, k, rfl, hns, hp, fun a k1 ha hk1 => ?_⟩
  walk_at "pl"
  refine ⟨ns, p, k1, rfl, hns, ⟨put_same, hk1⟩, fun b k2 hb hk2 => ?_⟩
  walk_at "pl"
  rw [put_put]
  by_cases h : a / 3 % 12 = 11
  · rw [if_pos h]
    have hb3 : b % 3 = 0 ∨ b % 3 = 1 ∨ b % 3 = 2 := by omega
    rcases hb3 with e | e | e
    · rw [e]
      walk_at "pl"
      exact q _ _ _ ⟨by omega, by omega⟩ ⟨by decide, by decide⟩ hk2
    · rw [e]
      walk_at "pl"
      exact q _ _ _ ⟨by omega, by omega⟩ ⟨by omega, by omega⟩ hk2
    · rw [e]
      walk_at "pl"
      exact q _ _ _ ⟨by omega, by omega⟩ ⟨by omega, by omega⟩ hk2
  · rw [if_neg h]
    exact q _ _ _ ⟨by omega, by omega⟩ ⟨by omega, by omega⟩ hk2
theorem k_law_machine (Γ : Ctx) : Keeps (t_law_machine Γ) 4 9 (sp_law_machine Γ) := by
  rintro xs M Q E hl ⟨ns, p, k, m, s, rfl, hns, hp, hm, hs, q⟩
  unfold t_law_machine
  walk_at "pl"
  intro z hz
  have np : p ≠ z := fun e => by rw [← e, hp.1] at hz; cases hz
  refine ⟨ns, p, k, rfl, hns, ⟨by rw [put_ne np]; exact hp.1, hp.2⟩, fun a k1 ha hk1 => ?_⟩
  walk_at "pl"
  have ms0 : 0 ≤ m * s := Int.mul_nonneg (by omega) (by omega)
  have ms1 : m * s ≤ 320 := by
    have e1 : m * s ≤ 8 * s := Int.mul_le_mul_of_nonneg_right hm.2 (by omega)
    omega
  refine ⟨.inl ⟨by omega, by omega⟩, ⟨by omega, by omega⟩, ?_⟩
  rw [put_swap (Ne.symm np)]
  have nz : ∀ o, (M.put p o) z = none := fun o => by rw [put_ne (Ne.symm np)]; exact hz
  refine for_rng (fun i σ M' => ∃ rows k' x6 x7 x8, σ = [some (lI ns), some (.ptr p), some (.int m), some (.int s), some (.ptr z), some (.int (a % 4)), x6, x7, x8] ∧ rows.length = i ∧ (∀ r ∈ rows, RowOk m s r) ∧ 0 ≤ k' ∧
    M' = (M.put p (.lst [.int k'])).put z (.lst (rows.map rowP))) ⟨[], k1, _, _, _, rfl, rfl, (fun _ h => nomatch h), hk1, rfl⟩ ?_ ?_
  · rintro i σ M' K hi ⟨rows, k', x6, x7, x8, rfl, hlen, hok, hk', rfl⟩ hK
    unfold b_law_machine_1
    walk_at "pl"
    rw [if_pos (by omega)]
    refine ⟨ns, p, k', rfl, hns, ⟨by rw [put_ne np, put_same], hk'⟩, fun n k2 hn hk2 => ?_⟩
    rw [put_mid np]
    walk_at "pl"
    have hd0 : (0 : Int) ≤ (0 + (i : Int)) / 24 := by omega
    generalize hN : n + 17 * ((0 + (i : Int)) / 24) = N
    have hN0 : 0 ≤ N := by omega
    have hr : rows.length ≤ 1000 := by omega
    have fin : ∀ (r : TRow) (x7 x8 : Option PV), RowOk m s r → (lstOf ((M.put p (.lst [.int k2])).put z (.lst (rows.map rowP))) (.ptr z) ≠ none ∧
        kApp (.ptr z) (rowP r) ((M.put p (.lst [.int k2])).put z (.lst (rows.map rowP))) (fun _ M1 => K [some (lI ns), some (.ptr p), some (.int m), some (.int s), some (.ptr z), some (.int (a % 4)), some (.int (0 + i)), x7, x8] M1)) := fun r x7 x8 h => by
      refine ⟨by rw [lstOf_ptr put_same]; exact Option.some_ne_none _, ?_⟩
      rw [app_ptr put_same (line_lt' (by rw [List.length_map]; omega)), put_over]
      refine hK _ _ ⟨rows ++ [r], k2, _, _, _, rfl, by rw [List.length_append, hlen]; rfl, fun r0 h0 => ?_, hk2, by rw [List.map_append]; rfl⟩
      rcases List.mem_append.mp h0 with h0 | h0
      · exact hok r0 h0
      · rw [List.mem_singleton.mp h0]; exact h
    have w0 : 0 ≤ N % m ∧ N % m < m := ⟨Int.emod_nonneg _ (by omega), Int.emod_lt_of_pos _ (by omega)⟩
    have t0 : 0 ≤ N / 8 % s ∧ N / 8 % s < s := ⟨Int.emod_nonneg _ (by omega), Int.emod_lt_of_pos _ (by omega)⟩
    refine ⟨.inl ⟨by decide, by decide⟩, by omega, ?_⟩
    have h2 : N / 4 % 2 = 0 ∨ N / 4 % 2 = 1 := by omega
    rcases h2 with e | e
    · rw [e]
      walk_at "pl"
      refine ⟨by omega, ?_⟩
      repeat' first
        | exact fin none _ _ trivial
        | exact fin (some (N % m, -1, N / 8 % s)) _ _ ⟨w0, .inr rfl, t0⟩
        | exact fin (some (N % m, 1, N / 8 % s)) _ _ ⟨w0, .inl rfl, t0⟩
        | refine ⟨by omega, by omega, ?_⟩
        | split
    · rw [e]
      walk_at "pl"
      refine ⟨by omega, ?_⟩
      repeat' first
        | exact fin none _ _ trivial
        | exact fin (some (N % m, -1, N / 8 % s)) _ _ ⟨w0, .inr rfl, t0⟩
        | exact fin (some (N % m, 1, N / 8 % s)) _ _ ⟨w0, .inl rfl, t0⟩
        | refine ⟨by omega, by omega, ?_⟩
        | split
  · rintro σ M' ⟨rows, k', x6, x7, x8, rfl, hlen, hok, hk', rfl⟩
    walk_at "pl"
    rw [fz_ptr put_same, put_drop (nz _)]
    refine q rows k' ⟨hm.1, hm.2, hs.1, hs.2, ?_, hok⟩ hk'
    rw [hlen]
    omega
theorem k_law_configuration (Γ : Ctx) : Keeps (t_law_configuration Γ) 5 7 (sp_law_configuration Γ) := by
  rintro xs M Q E hl ⟨ns, p, k, m, s, n, rfl, hns, hp, hm, hs, hn, q⟩
  unfold t_law_configuration
  walk_at "pl"
  refine ⟨ns, p, k, m, n, rfl, hns, hp, hm, hn, fun l k1 hl1 hl2 hk1 => ?_⟩
  walk_at "pl"
  refine ⟨ns, p, k1, m, n, rfl, hns, ⟨put_same, hk1⟩, hm, hn, fun r k2 hr1 hr2 hk2 => ?_⟩
  walk_at "pl"
  rw [put_put]
  refine ⟨ns, p, k2, rfl, hns, ⟨put_same, hk2⟩, fun a k3 ha hk3 => ?_⟩
  walk_at "pl"
  rw [put_put]
  refine ⟨by omega, ?_⟩
  refine ⟨ns, p, k3, rfl, hns, ⟨put_same, hk3⟩, fun b k4 hb hk4 => ?_⟩
  walk_at "pl"
  rw [put_put]
  refine ⟨by omega, ?_⟩
  exact q ⟨a % s, l, b % m, r⟩ k4 ⟨Int.emod_nonneg _ (by omega), Int.emod_lt_of_pos _ (by omega), Int.emod_nonneg _ (by omega), Int.emod_lt_of_pos _ (by omega), hl1, hr1⟩ hl2 hr2 hk4
theorem k_law_side (Γ : Ctx) : Keeps (t_law_side Γ) 4 6 (sp_law_side Γ) := by
  rintro xs M Q E hl ⟨ns, p, k, m, n, rfl, hns, hp, hm, hn, q⟩
  unfold t_law_side
  walk_at "pl"
  refine ⟨ns, p, k, rfl, hns, hp, fun a k1 ha hk1 => ?_⟩
  walk_at "pl"
  have a0 : 0 ≤ a % (n + 1) := Int.emod_nonneg _ (by omega)
  have a1 : a % (n + 1) < n + 1 := Int.emod_lt_of_pos _ (by omega)
  refine ⟨by omega, ⟨by omega, by omega⟩, ?_⟩
  refine for_rng (fun i σ M' => ∃ (ms : List Int) (k' : Int) (x5 : Option PV), σ = [some (lI ns), some (.ptr p), some (.int m), some (.int n), some (tI ms), x5] ∧ ms.length = i ∧ (∀ x ∈ ms, 0 ≤ x ∧ x < m) ∧ 0 ≤ k' ∧
    M' = M.put p (.lst [.int k'])) ⟨[], k1, _, rfl, rfl, (fun _ h => nomatch h), hk1, rfl⟩ ?_ ?_
  · rintro i σ M' K hi ⟨ms, k', x5, rfl, hlen, hok, hk', rfl⟩ hK
    unfold b_law_side_1
    walk_at "pl"
    refine ⟨ns, p, k', rfl, hns, ⟨put_same, hk'⟩, fun b k2 hb hk2 => ?_⟩
    walk_at "pl"
    rw [put_put]
    refine ⟨by omega, ?_⟩
    have e : ∀ R : PQ, oAdd (tI ms) (.tup [.int (b % m)]) (M.put p (.lst [.int k2])) R = (ms.length + 1 ≤ sizeLine ∧ R (tI (ms ++ [b % m])) (M.put p (.lst [.int k2]))) := fun R => add_tI (r := [b % m])
    rw [e]
    refine ⟨line_lt (by omega), hK _ _ ⟨ms ++ [b % m], k2, _, rfl, by rw [List.length_append, hlen]; rfl, fun x hx => ?_, hk2, rfl⟩⟩
    rcases List.mem_append.mp hx with hx | hx
    · exact hok x hx
    · rw [List.mem_singleton.mp hx]
      exact ⟨Int.emod_nonneg _ (by omega), Int.emod_lt_of_pos _ (by omega)⟩
  · rintro σ M' ⟨ms, k', x5, rfl, hlen, hok, hk', rfl⟩
    walk_at "pl"
    refine ⟨ms, rfl, fun x hx => (hok x hx).1, by omega, ?_⟩
    refine q (trimL ms) k' (SideOk.trim hok) ?_ hk'
    have := trimL_len ms
    omega

end My
set_option Elab.async false
set_option linter.all false
set_option maxRecDepth 100000
namespace My
open PySem PL TM PD
local macro_rules | `(tactic| walk_at "hd") => `(tactic| repeat (first | (with_reducible refine w_cons ?_) | ((with_reducible refine' w_var ?_ ?_); rotate_left; exact rfl) | (with_reducible refine w_seq ?_) | (with_reducible refine w_C ?_) | (with_reducible refine w_nil ?_) | (with_reducible refine w_bin ?_) | (with_reducible refine w_tup ?_) | ((with_reducible refine' w_pset ?_ ?_); rotate_left; (intro x; first | with_reducible exact set_h0 | with_reducible exact set_h1 | with_reducible exact set_h2 | with_reducible exact set_h3 | with_reducible exact set_h4 | with_reducible exact set_h5 | with_reducible exact set_h6 | with_reducible exact set_h7 | with_reducible exact set_h8 | with_reducible exact set_h9 | with_reducible exact set_h10 | with_reducible exact set_h11 | with_reducible exact set_h12 | with_reducible exact set_h13 | with_reducible exact set_h14 | with_reducible exact set_h15 | with_reducible exact set_h16 | with_reducible exact set_h17 | with_reducible exact set_h18 | with_reducible exact set_h19 | with_reducible exact set_h20 | with_reducible exact set_h21 | with_reducible exact set_h22 | with_reducible exact set_h23 | with_reducible exact set_h24 | with_reducible exact set_h25)) | (with_reducible refine w_add ?_) | (with_reducible refine w_test ?_) | (with_reducible refine w_kB ?_) | (with_reducible refine w_call ?_) | (with_reducible refine w_ifs ?_) | (with_reducible refine w_next ?_) | ((with_reducible refine' w_gname ?_ ?_); rotate_left; (first | with_reducible exact set_h0 | with_reducible exact set_h1 | with_reducible exact set_h2 | with_reducible exact set_h3 | with_reducible exact set_h4 | with_reducible exact set_h5 | with_reducible exact set_h6 | with_reducible exact set_h7 | with_reducible exact set_h8 | with_reducible exact set_h9 | with_reducible exact set_h10 | with_reducible exact set_h11 | with_reducible exact set_h12 | with_reducible exact set_h13 | with_reducible exact set_h14 | with_reducible exact set_h15 | with_reducible exact set_h16 | with_reducible exact set_h17 | with_reducible exact set_h18 | with_reducible exact set_h19 | with_reducible exact set_h20 | with_reducible exact set_h21 | with_reducible exact set_h22 | with_reducible exact set_h23 | with_reducible exact set_h24 | with_reducible exact set_h25)) | (with_reducible refine w_ret ?_) | (with_reducible refine w_fld ?_) | (with_reducible refine w_ifd ?_) | ((with_reducible refine' w_fldO ?_ ?_); rotate_left; exact rfl) | (with_reducible refine w_gcons ?_) | (with_reducible refine w_callB ?_) | (with_reducible refine w_on1 ?_) | ((with_reducible refine w_mod ?_ ?_); (first | decide | omega)) | (with_reducible refine w_int ?_) | (with_reducible refine w_drop ?_) | (with_reducible refine w_for ?_) | (with_reducible refine w_I0 ?_) | (with_reducible refine w_ifF ?_) | (with_reducible refine w_part ?_) | (with_reducible refine w_partI ?_) | (with_reducible refine w_sl ?_) | (with_reducible refine w_nop ?_) | (with_reducible refine w_ifT ?_) | (with_reducible refine w_R1 ?_) | ((with_reducible refine w_R1I ?_ ?_); (first | decide | omega)) | (with_reducible refine w_gnil ?_) | (with_reducible refine w_ixtup0 ?_) | (with_reducible refine w_ifn ?_) | (with_reducible refine w_asg ?_) | ((with_reducible refine w_gtup ?_ ?_); exact rfl) | (with_reducible refine w_eqInt ?_) | (with_reducible refine w_ixtup1 ?_) | (with_reducible refine w_or ?_) | (with_reducible refine w_not ?_) | (with_reducible refine w_in_non ?_) | (with_reducible refine w_lc ?_) | ((with_reducible refine w_div ?_ ?_); (first | decide | omega)) | (with_reducible refine w_neg ?_) | (with_reducible refine w_negI ?_) | (with_reducible refine w_eqStr ?_) | (with_reducible refine w_slT ?_) | (with_reducible refine w_lentup ?_) | (with_reducible refine w_tupL ?_) | (with_reducible refine w_lstF ?_) | (with_reducible refine w_app ?_) | (with_reducible refine w_tisN ?_) | (with_reducible refine w_meth ?_) | ((with_reducible refine w_objO ?_ ?_); exact rfl) | (with_reducible refine w_lstM ?_) | (with_reducible refine w_ixtup2 ?_) | (with_reducible refine w_retF ?_) | (with_reducible refine w_iL ?_) | (with_reducible refine w_make ?_) | (with_reducible refine w_fldS ?_) | (with_reducible refine w_rg1 ?_) | (with_reducible refine w_dnew ?_) | (with_reducible refine w_gsubD ?_) | (with_reducible refine w_lst ?_) | (with_reducible refine w_ixtup3 ?_) | (with_reducible refine w_lenlst ?_) | (with_reducible refine w_and ?_) | (with_reducible refine w_in_tup ?_) | ((with_reducible refine' w_aug ?_ ?_ ?_); rotate_left 2; exact rfl; (intro x; first | with_reducible exact set_h0 | with_reducible exact set_h1 | with_reducible exact set_h2 | with_reducible exact set_h3 | with_reducible exact set_h4 | with_reducible exact set_h5 | with_reducible exact set_h6 | with_reducible exact set_h7 | with_reducible exact set_h8 | with_reducible exact set_h9 | with_reducible exact set_h10 | with_reducible exact set_h11 | with_reducible exact set_h12 | with_reducible exact set_h13 | with_reducible exact set_h14 | with_reducible exact set_h15 | with_reducible exact set_h16 | with_reducible exact set_h17 | with_reducible exact set_h18 | with_reducible exact set_h19 | with_reducible exact set_h20 | with_reducible exact set_h21 | with_reducible exact set_h22 | with_reducible exact set_h23 | with_reducible exact set_h24 | with_reducible exact set_h25)) | (with_reducible refine w_lc2 ?_) | (with_reducible refine w_lcT ?_) | (with_reducible refine w_on2 ?_) | (with_reducible refine w_neInt ?_) | (with_reducible refine w_slL ?_) | (with_reducible refine w_tnotN ?_) | (with_reducible refine w_iT ?_) | (with_reducible refine w_tupF ?_) | (with_reducible refine w_par ?_) | ((with_reducible refine' w_kpar ?_ ?_ ?_); rotate_left 2; (first | with_reducible exact set_h0 | with_reducible exact set_h1 | with_reducible exact set_h2 | with_reducible exact set_h3 | with_reducible exact set_h4 | with_reducible exact set_h5 | with_reducible exact set_h6 | with_reducible exact set_h7 | with_reducible exact set_h8 | with_reducible exact set_h9 | with_reducible exact set_h10 | with_reducible exact set_h11 | with_reducible exact set_h12 | with_reducible exact set_h13 | with_reducible exact set_h14 | with_reducible exact set_h15 | with_reducible exact set_h16 | with_reducible exact set_h17 | with_reducible exact set_h18 | with_reducible exact set_h19 | with_reducible exact set_h20 | with_reducible exact set_h21 | with_reducible exact set_h22 | with_reducible exact set_h23 | with_reducible exact set_h24 | with_reducible exact set_h25); (first | with_reducible exact set_h0 | with_reducible exact set_h1 | with_reducible exact set_h2 | with_reducible exact set_h3 | with_reducible exact set_h4 | with_reducible exact set_h5 | with_reducible exact set_h6 | with_reducible exact set_h7 | with_reducible exact set_h8 | with_reducible exact set_h9 | with_reducible exact set_h10 | with_reducible exact set_h11 | with_reducible exact set_h12 | with_reducible exact set_h13 | with_reducible exact set_h14 | with_reducible exact set_h15 | with_reducible exact set_h16 | with_reducible exact set_h17 | with_reducible exact set_h18 | with_reducible exact set_h19 | with_reducible exact set_h20 | with_reducible exact set_h21 | with_reducible exact set_h22 | with_reducible exact set_h23 | with_reducible exact set_h24 | with_reducible exact set_h25)) | (with_reducible refine w_rg2 ?_) | (with_reducible refine w_asT ?_) | (with_reducible refine w_kTp ?_) | (with_reducible refine w_pdget2 ?_) | (with_reducible refine w_zT ?_) | (with_reducible refine w_dct ?_) | (with_reducible refine w_listL ?_) | (with_reducible refine w_andV ?_) | (with_reducible refine w_isN ?_) | (with_reducible refine w_cnt ?_) | (with_reducible refine w_retD ?_) | ((with_reducible refine' w_isi_i ?_ ?_); rotate_left; (first | with_reducible exact kit_ib | with_reducible exact kit_ii | with_reducible exact kit_it | with_reducible exact kit_il | with_reducible exact kit_is)) | ((with_reducible refine' w_isi_t ?_ ?_); rotate_left; (first | with_reducible exact kit_tb | with_reducible exact kit_ti | with_reducible exact kit_tt | with_reducible exact kit_tl | with_reducible exact kit_ts)) | (with_reducible refine w_lc2M ?_) | (with_reducible refine w_lcM ?_) | (with_reducible refine w_catN ?_) | (with_reducible refine w_tcnt ?_) | (with_reducible refine w_kTCnt ?_) | (with_reducible refine w_catR ?_) | (with_reducible refine w_tidx ?_) | (with_reducible refine w_pdget1 ?_) | (with_reducible refine w_rv ?_) | (with_reducible refine w_z ?_) | (with_reducible refine w_gsub ?_) | (with_reducible refine w_ixlst0 ?_) | (with_reducible refine w_ixlst1 ?_) | (with_reducible refine w_slS ?_) | (with_reducible refine w_abs ?_) | (with_reducible refine w_listML ?_) | (with_reducible refine w_notB ?_) | (with_reducible refine w_brk ?_) | (with_reducible refine w_fzE ?_) | ((with_reducible refine' w_isi_l ?_ ?_); rotate_left; (first | with_reducible exact kit_lb | with_reducible exact kit_li | with_reducible exact kit_lt | with_reducible exact kit_ll | with_reducible exact kit_ls)) | (with_reducible refine w_join ?_) | (with_reducible refine w_kStr ?_) | (with_reducible refine w_zL ?_) | (with_reducible refine w_tupRg ?_) | ((with_reducible refine w_shr ?_ ?_); (first | decide | omega)) | (with_reducible refine w_retN ?_) | (with_reducible refine w_dnx ?_) | (with_reducible refine w_drt ?_) | (with_reducible refine w_dbk ?_) | (with_reducible refine w_eqBl ?_) | (with_reducible refine w_neBl ?_) | (with_reducible refine w_neStr ?_) | (with_reducible refine w_ixlst2 ?_) | (with_reducible refine w_ixlst3 ?_) | (with_reducible refine w_ixtup4 ?_) | (with_reducible refine w_ixlst4 ?_) | (with_reducible refine w_ixtup5 ?_) | (with_reducible refine w_ixlst5 ?_) | (with_reducible refine w_need ?_) | (with_reducible refine w_lenscr ?_) | (with_reducible refine w_listT ?_) | (with_reducible refine w_listS ?_) | (with_reducible refine w_tupT ?_) | (with_reducible refine w_listMT ?_) | (with_reducible refine w_orV ?_) | (with_reducible refine w_notV ?_) | (with_reducible refine w_if ?_) | (with_reducible refine w_notN ?_) | (with_reducible refine w_in_int ?_) | (with_reducible refine w_in_lst ?_) | (with_reducible refine w_in_ptr ?_) | (with_reducible refine w_in_str ?_) | (with_reducible refine w_in_bl ?_) | (with_reducible refine w_isB ?_) | (with_reducible refine w_lstFs ?_) | (with_reducible refine w_R2 ?_) | (with_reducible refine w_forM ?_) | (with_reducible refine w_lcnil ?_) | (with_reducible refine w_lccons ?_) | (with_reducible refine w_retFD ?_) | (with_reducible refine w_raise ?_) | (with_reducible refine w_raiseF ?_) | (with_reducible refine w_tryF ?_) | (with_reducible refine w_isFp ?_) | (with_reducible refine w_isFx ?_) | ((with_reducible refine' w_xf ?_ ?_); rotate_left; exact rfl) | (with_reducible refine w_try ?_) | (with_reducible refine w_lstRg ?_) | (with_reducible refine w_pop ?_) | (with_reducible refine w_rev ?_) | (with_reducible refine w_revL ?_) | (with_reducible refine w_forE ?_) | ((with_reducible refine' w_isi_b ?_ ?_); rotate_left; (first | with_reducible exact kit_bb | with_reducible exact kit_bi | with_reducible exact kit_bt | with_reducible exact kit_bl | with_reducible exact kit_bs)) | ((with_reducible refine' w_isi_s ?_ ?_); rotate_left; (first | with_reducible exact kit_sb | with_reducible exact kit_si | with_reducible exact kit_st | with_reducible exact kit_sl | with_reducible exact kit_ss)) | ((with_reducible refine' w_isi_n ?_ ?_); rotate_left; (first | with_reducible exact kit_nb | with_reducible exact kit_ni | with_reducible exact kit_nt | with_reducible exact kit_nl | with_reducible exact kit_ns))))
local macro_rules | `(tactic| walk_at "st") => `(tactic| simp only [pstart, List.map_cons, List.map_nil, List.cons_append, List.nil_append, List.length_cons, List.length_nil, List.replicate, Nat.reduceSub, Nat.reduceAdd, Nat.zero_add])
section
variable {M : Mem} {Q : PQ}
local macro_rules | `(tactic| walk_at "pl") => `(tactic| try simp only [pSeq, pNext, pSet, pRet, pRetN, pIfS, pVar, pC, pTest, pBin, pAnd, pOr, pNot, pAndV, pOrV, pNotV, pIsN, pNotN, pTIsN, pTNotN, pCons, pNil, pTup, pLst, pLstM, pCall, pCallB, pDrop, pAsg, gpName, kB_bl, need_some, need_none, pIf, pSl, pNoPart,
  piL, piT, pFor, pLc, pAug, pFldS, pForM, pMeth, pFld, fldOf_obj, objOf_obj, pApp, gpSub, pRetF, pRetFD, pRetD, dropSlots, pTupRev, pBreak, pCont,
  pstart, List.map_cons, List.map_nil, List.cons_append, List.nil_append, List.length_cons, List.length_nil, List.replicate, List.getElem?_cons_zero, List.getElem?_cons_succ, List.set_cons_zero, List.set_cons_succ, Nat.reduceSub, Nat.reduceAdd, Nat.zero_add, Nat.add_zero, Nat.sub_self,
  Bool.false_eq_true, if_false, if_true, ite_true, ite_false, reduceIte, Bool.not_true, Bool.not_false, Bool.true_eq_false, decide_eq_true_eq, Bool.not_eq_true', List.length_append, true_and, and_true, List.length_map,
  isi_int, isi_bl, isi_str, isi_non, isi_tup, isi_lst, kit_ib, kit_ii, kit_it, kit_il, kit_is, kit_bb, kit_bi, kit_bt, kit_bl, kit_bs, kit_tb, kit_ti, kit_tt, kit_tl, kit_ts, kit_lb, kit_li, kit_lt, kit_ll, kit_ls, kit_sb, kit_si, kit_st, kit_sl, kit_ss, kit_nb, kit_ni, kit_nt, kit_nl, kit_ns,
  PL.ix_tup, PL.ix_lst, ix_scr, at_0, at_1, at_2, at_3, at_4, at_5, len_tup, len_lst, len_scr, eq_int', ne_int', eq_bl', ne_bl', eq_str', ne_str', sl_tup, sl_lst, sl_scr, cutA_map, cutA_from1,
  r_add_int, r_add_str, r_add_tup, r_add_lst, r_mulA_int, r_mulA_tup, r_I0, r_I, r_neg, r_neg_int, r_chain, r_ch1, r_ch2, r_abs, r_int, r_min2, r_max2, r_list_lst, r_list_tup, r_list_scr, r_tup_lst, r_tup_tup, r_listM_lst, r_listM_tup, r_on1, r_on2, r_gtup, r_gcons, r_gnil,
  r_non_non, r_non_int, r_non_tup, r_non_lst, r_non_str, r_non_bl, r_non_ptr, r_non_obj, r_part, r_part_int, r_R1, r_R1_int, r_R2, r_R2_int, r_lstF, r_lstF_scr, r_tupF, cdiv_eq, Int.reduceLT, Int.reduceLE, Int.reduceNeg, Int.reduceAdd, Int.reduceSub, Int.reduceMul, Int.reduceEq, Int.reducePow, Nat.reducePow,
  eq_tI, eq_tI_nil, len_lI, tupF_tI, tI_rev, addR_tI, addL_tI, sl_tI_tail, len_tI, tup_tI, add_tI, lk_marks, lk_states, lk_rows, lk_row, lk_table, lk_begin, lk_step, lk_stopped, lk_run])
theorem k_law_trim (Γ : Ctx) : Keeps (t_law_trim Γ) 1 3 (sp_law_trim Γ) := by
  rintro xs M Q E hl ⟨ms, rfl, h0, hz, q⟩
  unfold t_law_trim
  walk_at "pl"
  have hpos : ∀ i : Nat, (0 : Int) ≤ i := fun i => by omega
  refine ⟨⟨by omega, by omega⟩, by rw [rngP_length]; exact line_lt (by omega), ?_⟩
  refine lc_pure (fun x => match x with | .int i => (ms.drop i.toNat).any (fun x => decide (0 < x)) | _ => false) id _ _ (fun x hx R hR => ?_) (fun x hx _ R hR => ?_) ?_
  · obtain ⟨i, hi, rfl⟩ := List.mem_map.mp hx
    walk_at "pl"
    rw [sl_tI_from (by omega)]
    have e : ∀ R2 : PQ, oAdd (.tup [.int 0]) (tI (ms.drop ((0 : Int) + (i : Nat)).toNat)) M R2 = (1 + (ms.drop ((0 : Int) + (i : Nat)).toNat).length ≤ sizeLine ∧ R2 (tI (0 :: ms.drop ((0 : Int) + (i : Nat)).toNat)) M) := fun R2 => add_tI (l := [0])
    rw [e]
    refine ⟨line_lt (by rw [List.length_drop]; omega), ?_⟩
    walk_at "pl"
    rw [maxT_tI]
    intro mx hm1 hm2
    walk_at "pl"
    have e2 : decide (0 < mx) = (ms.drop ((0 : Int) + (i : Nat)).toNat).any (fun x => decide (0 < x)) := by
      cases hb : (ms.drop ((0 : Int) + (i : Nat)).toNat).any (fun x => decide (0 < x)) with
      | true =>
        obtain ⟨y, hy, hy2⟩ := List.any_eq_true.mp hb
        have := hm2 y (List.mem_cons_of_mem _ hy)
        have := of_decide_eq_true hy2
        exact decide_eq_true (by omega)
      | false =>
        refine decide_eq_false (fun z => ?_)
        rcases List.mem_cons.mp hm1 with e | e
        · omega
        · have := List.any_eq_false.mp hb mx e
          exact this (decide_eq_true z)
    rw [e2]
    exact hR
  · obtain ⟨i, hi, rfl⟩ := List.mem_map.mp hx
    walk_at "pl"
    exact hR
  · walk_at "pl"
    have e : ((rngP 0 ms.length).filter (fun x => match x with | .int i => (ms.drop i.toNat).any (fun x => decide (0 < x)) | _ => false)).length = (trimL ms).length := by
      rw [← cntL_eq _ ms rfl h0]
      unfold rngP cntL
      rw [List.filter_map, List.length_map]
      congr 1
      apply List.filter_congr
      intro i _
      show (ms.drop ((0 : Int) + (i : Nat)).toNat).any _ = _
      have : ((0 : Int) + (i : Nat)).toNat = i := by omega
      rw [this]
    have e3 : ((ms.length : Nat) : Int).toNat = ms.length := by omega
    rw [e3, e, sl_tI_to (by omega)]
    have e4 : (((trimL ms).length : Nat) : Int).toNat = (trimL ms).length := by omega
    rw [e4, take_trimL]
    exact q
theorem c_trim {Γ : Ctx} {ms : List Int} {M : Mem} {Q : PQ} {E : PXK} (h : ∀ x ∈ ms, 0 ≤ x) (hz : ms.length < 1000000) (q : Q (tI (trimL ms)) M) : sp_law_trim Γ [tI ms] M Q E := ⟨ms, rfl, h, hz, q⟩
theorem k_law_step (Γ : Ctx) : Keeps (t_law_step Γ) 3 6 (sp_law_step Γ) := by
  rintro xs M Q E hl ⟨m, s, rows, c, rfl, hM, hc, hl1, hl2, q⟩
  obtain ⟨cq, cl, ca, cr⟩ := c
  have hc2 := hc
  obtain ⟨q0, qs, a0, am, hcl, hcr⟩ := hc2
  obtain ⟨_, _, hr, _⟩ := rowAt_mem hM q0 qs a0 am
  unfold t_law_step cfP
  walk_at "pl"
  refine ⟨cmul_ok hM q0 qs, ?_⟩
  rw [at_rows hM q0 qs a0 am, need_some]
  unfold stepM at q
  dsimp only at q hr hl1 hl2 hcl hcr
  cases e : rowAt rows m cq ca with
  | none =>
    rw [e] at q
    unfold rowP
    walk_at "pl"
    exact q
  | some r =>
    obtain ⟨w, mv, t⟩ := r
    rw [e] at q hr
    obtain ⟨hw, hm, ht⟩ := hr
    dsimp only at q
    unfold rowP
    walk_at "pl"
    refine ⟨line_lt (by rw [List.length_reverse, List.length_map]; omega), line_lt (by rw [List.length_append, List.length_reverse, List.length_map, List.length_map]; simp only [List.length_singleton]; omega), ?_⟩
    have e1 : PV.tup ((List.map PV.int cl).reverse ++ [PV.int w] ++ List.map PV.int cr) = tI (cl.reverse ++ w :: cr) := by
      unfold tI
      simp
    rw [e1]
    simp only []
    have hcl0 : ∀ x ∈ cl, 0 ≤ x := fun x hx => (hcl.mm x hx).1
    have hcr0 : ∀ x ∈ cr, 0 ≤ x := fun x hx => (hcr.mm x hx).1
    have hw0 := hw.1
    have rev0 : ∀ l : List Int, (∀ x ∈ l, 0 ≤ x) → ∀ x ∈ l.reverse, 0 ≤ x := fun l h x hx => h x (List.mem_reverse.mp hx)
    rcases hm with rfl | rfl
    · -- right
      rw [if_pos rfl] at q
      rw [if_neg (by omega)]
      walk_at "pl"
      have en : ((cl.length : Nat) : Int) + 1 = ((cl.length + 1 : Nat) : Int) := by omega
      rw [en]
      have tk : ∀ r : List Int, (cl.reverse ++ w :: r).take (cl.length + 1) = cl.reverse ++ [w] := fun r => by
        rw [List.take_append, List.length_reverse, List.take_of_length_le (by rw [List.length_reverse]; omega)]
        simp
      have dr : ∀ r : List Int, (cl.reverse ++ w :: r).drop (cl.length + 1) = r := fun r => by
        rw [List.drop_append, List.length_reverse, List.drop_of_length_le (by rw [List.length_reverse]; omega)]
        simp
      have dr2 : ∀ r : List Int, (cl.reverse ++ w :: r).drop (cl.length + 1 + 1) = r.tail := fun r => by
        rw [← List.drop_drop, dr]
        cases r <;> rfl
      have gt : ∀ (a : Int) (r : List Int), (cl.reverse ++ w :: a :: r)[cl.length + 1]? = some a := fun a r => by
        have := dr (a :: r)
        rw [← List.head?_drop, this]
        rfl
      have hsl : ∀ (R : PQ) (r : List Int) (M : Mem), oSl (tI (cl.reverse ++ w :: r)) none (some ((cl.length + 1 : Nat) : Int)) M R = R (tI (cl.reverse ++ [w])) M := fun R r M => by
        rw [sl_tI_to (by omega), Int.toNat_natCast, tk]
      have hsl2 : ∀ (R : PQ) (r : List Int) (M : Mem), oSl (tI (cl.reverse ++ w :: r)) (some (((cl.length + 1 : Nat) : Int) + 1)) none M R = R (tI r.tail) M := fun R r M => by
        rw [sl_tI_from (by omega), show ((((cl.length + 1 : Nat) : Int) + 1)).toNat = cl.length + 1 + 1 from by omega, dr2]
      have rv : (cl.reverse ++ [w]).reverse = w :: cl := by simp
      have fin : ∀ (R : PQ), R (tI (push w cl)) M → sp_law_trim Γ [tI (w :: cl)] M R E := fun R h => c_trim (fun x hx => by
        rcases List.mem_cons.mp hx with e | e
        · rw [e]; exact hw0
        · exact hcl0 x e) (by simp only [List.length_cons]; omega) (by rw [trim_push hcl]; exact h)
      cases cr with
      | nil =>
        rw [if_pos (by simp only [List.length_reverse, List.length_nil])]
        walk_at "pl"
        refine ⟨line_lt (by simp only [List.length_reverse, List.length_cons, List.length_nil]; omega), ?_⟩
        have e3 : cl.reverse ++ [w] ++ [0] = cl.reverse ++ w :: [0] := by simp
        simp only [List.append_assoc, List.cons_append, List.nil_append]
        rw [hsl]
        walk_at "pl"
        rw [rv]
        refine fin _ ?_
        rw [ix_tI (x := 0) (by omega) (by rw [Int.toNat_natCast]; exact gt 0 []), hsl2]
        exact c_trim (ms := []) (fun x hx => (nomatch hx)) (by decide) q
      | cons a r =>
        rw [if_neg (by simp only [List.length_reverse, List.length_cons]; omega)]
        rw [hsl]
        walk_at "pl"
        rw [rv]
        refine fin _ ?_
        rw [ix_tI (x := a) (by omega) (by rw [Int.toNat_natCast]; exact gt a r), hsl2]
        refine c_trim (fun x hx => hcr0 x (List.mem_cons_of_mem _ hx)) (by simp only [List.length_cons] at hl2; show r.length < _; omega) ?_
        rw [show trimL (a :: r).tail = r from hcr.tail.tr]
        exact q
    · rw [if_neg (by decide)] at q
      have finR : ∀ (R : PQ), R (tI (push w cr)) M → sp_law_trim Γ [tI (w :: cr)] M R E := fun R h => c_trim (fun x hx => by
        rcases List.mem_cons.mp hx with e | e
        · rw [e]; exact hw0
        · exact hcr0 x e) (by simp only [List.length_cons]; omega) (by rw [trim_push hcr]; exact h)
      cases cl with
      | nil =>
        rw [if_pos (by simp only [List.length_nil]; decide)]
        simp only [List.reverse_nil, List.nil_append, List.length_cons, List.length_nil]
        walk_at "pl"
        refine ⟨line_lt (by omega), ?_⟩
        rw [if_neg (by omega), sl_tI_to (by decide)]
        walk_at "pl"
        refine c_trim (ms := []) (fun x hx => (nomatch hx)) (by decide) ?_
        rw [ix_tI (x := 0) (by decide) rfl]
        exact finR _ q
      | cons b l =>
        rw [if_neg (by simp only [List.length_cons]; omega)]
        have en : (((b :: l).length : Nat) : Int) + -1 = ((l.length : Nat) : Int) := by simp only [List.length_cons]; omega
        rw [en]
        walk_at "pl"
        rw [if_neg (by simp only [List.length_reverse, List.length_cons]; omega)]
        have et : (b :: l).reverse ++ w :: cr = l.reverse ++ b :: w :: cr := by simp
        have tk : (l.reverse ++ b :: w :: cr).take l.length = l.reverse := by
          rw [List.take_append, List.length_reverse, List.take_of_length_le (by rw [List.length_reverse]; omega)]
          simp
        have dr : (l.reverse ++ b :: w :: cr).drop l.length = b :: w :: cr := by
          rw [List.drop_append, List.length_reverse, List.drop_of_length_le (by rw [List.length_reverse]; omega)]
          simp
        have gt : (l.reverse ++ b :: w :: cr)[l.length]? = some b := by
          rw [← List.head?_drop, dr]
          rfl
        have dr2 : (l.reverse ++ b :: w :: cr).drop (l.length + 1) = w :: cr := by
          rw [← List.drop_drop, dr]
          rfl
        rw [et, sl_tI_to (by omega), Int.toNat_natCast, tk]
        walk_at "pl"
        rw [List.reverse_reverse]
        have htr : trimL l = l := hcl.tail.tr
        refine c_trim (fun x hx => hcl0 x (List.mem_cons_of_mem _ hx)) (by simp only [List.length_cons] at hl1; omega) ?_
        rw [htr, ix_tI (x := b) (by omega) (by rw [Int.toNat_natCast]; exact gt), sl_tI_from (by omega), show (((l.length : Nat) : Int) + 1).toNat = l.length + 1 from by omega, dr2]
        exact finR _ q

end
end My
set_option Elab.async false
set_option linter.all false
set_option maxRecDepth 100000
namespace My
open PySem PL TM PD
local macro_rules | `(tactic| walk_at "hd") => `(tactic| repeat (first | (with_reducible refine w_cons ?_) | ((with_reducible refine' w_var ?_ ?_); rotate_left; exact rfl) | (with_reducible refine w_seq ?_) | (with_reducible refine w_C ?_) | (with_reducible refine w_nil ?_) | (with_reducible refine w_bin ?_) | (with_reducible refine w_tup ?_) | ((with_reducible refine' w_pset ?_ ?_); rotate_left; (intro x; first | with_reducible exact set_h0 | with_reducible exact set_h1 | with_reducible exact set_h2 | with_reducible exact set_h3 | with_reducible exact set_h4 | with_reducible exact set_h5 | with_reducible exact set_h6 | with_reducible exact set_h7 | with_reducible exact set_h8 | with_reducible exact set_h9 | with_reducible exact set_h10 | with_reducible exact set_h11 | with_reducible exact set_h12 | with_reducible exact set_h13 | with_reducible exact set_h14 | with_reducible exact set_h15 | with_reducible exact set_h16 | with_reducible exact set_h17 | with_reducible exact set_h18 | with_reducible exact set_h19 | with_reducible exact set_h20 | with_reducible exact set_h21 | with_reducible exact set_h22 | with_reducible exact set_h23 | with_reducible exact set_h24 | with_reducible exact set_h25)) | (with_reducible refine w_add ?_) | (with_reducible refine w_test ?_) | (with_reducible refine w_kB ?_) | (with_reducible refine w_call ?_) | (with_reducible refine w_ifs ?_) | (with_reducible refine w_next ?_) | ((with_reducible refine' w_gname ?_ ?_); rotate_left; (first | with_reducible exact set_h0 | with_reducible exact set_h1 | with_reducible exact set_h2 | with_reducible exact set_h3 | with_reducible exact set_h4 | with_reducible exact set_h5 | with_reducible exact set_h6 | with_reducible exact set_h7 | with_reducible exact set_h8 | with_reducible exact set_h9 | with_reducible exact set_h10 | with_reducible exact set_h11 | with_reducible exact set_h12 | with_reducible exact set_h13 | with_reducible exact set_h14 | with_reducible exact set_h15 | with_reducible exact set_h16 | with_reducible exact set_h17 | with_reducible exact set_h18 | with_reducible exact set_h19 | with_reducible exact set_h20 | with_reducible exact set_h21 | with_reducible exact set_h22 | with_reducible exact set_h23 | with_reducible exact set_h24 | with_reducible exact set_h25)) | (with_reducible refine w_ret ?_) | (with_reducible refine w_fld ?_) | (with_reducible refine w_ifd ?_) | ((with_reducible refine' w_fldO ?_ ?_); rotate_left; exact rfl) | (with_reducible refine w_gcons ?_) | (with_reducible refine w_callB ?_) | (with_reducible refine w_on1 ?_) | ((with_reducible refine w_mod ?_ ?_); (first | decide | omega)) | (with_reducible refine w_int ?_) | (with_reducible refine w_drop ?_) | (with_reducible refine w_for ?_) | (with_reducible refine w_I0 ?_) | (with_reducible refine w_ifF ?_) | (with_reducible refine w_part ?_) | (with_reducible refine w_partI ?_) | (with_reducible refine w_sl ?_) | (with_reducible refine w_nop ?_) | (with_reducible refine w_ifT ?_) | (with_reducible refine w_R1 ?_) | ((with_reducible refine w_R1I ?_ ?_); (first | decide | omega)) | (with_reducible refine w_gnil ?_) | (with_reducible refine w_ixtup0 ?_) | (with_reducible refine w_ifn ?_) | (with_reducible refine w_asg ?_) | ((with_reducible refine w_gtup ?_ ?_); exact rfl) | (with_reducible refine w_eqInt ?_) | (with_reducible refine w_ixtup1 ?_) | (with_reducible refine w_or ?_) | (with_reducible refine w_not ?_) | (with_reducible refine w_in_non ?_) | (with_reducible refine w_lc ?_) | ((with_reducible refine w_div ?_ ?_); (first | decide | omega)) | (with_reducible refine w_neg ?_) | (with_reducible refine w_negI ?_) | (with_reducible refine w_eqStr ?_) | (with_reducible refine w_slT ?_) | (with_reducible refine w_lentup ?_) | (with_reducible refine w_tupL ?_) | (with_reducible refine w_lstF ?_) | (with_reducible refine w_app ?_) | (with_reducible refine w_tisN ?_) | (with_reducible refine w_meth ?_) | ((with_reducible refine w_objO ?_ ?_); exact rfl) | (with_reducible refine w_lstM ?_) | (with_reducible refine w_ixtup2 ?_) | (with_reducible refine w_retF ?_) | (with_reducible refine w_iL ?_) | (with_reducible refine w_make ?_) | (with_reducible refine w_fldS ?_) | (with_reducible refine w_rg1 ?_) | (with_reducible refine w_dnew ?_) | (with_reducible refine w_gsubD ?_) | (with_reducible refine w_lst ?_) | (with_reducible refine w_ixtup3 ?_) | (with_reducible refine w_lenlst ?_) | (with_reducible refine w_and ?_) | (with_reducible refine w_in_tup ?_) | ((with_reducible refine' w_aug ?_ ?_ ?_); rotate_left 2; exact rfl; (intro x; first | with_reducible exact set_h0 | with_reducible exact set_h1 | with_reducible exact set_h2 | with_reducible exact set_h3 | with_reducible exact set_h4 | with_reducible exact set_h5 | with_reducible exact set_h6 | with_reducible exact set_h7 | with_reducible exact set_h8 | with_reducible exact set_h9 | with_reducible exact set_h10 | with_reducible exact set_h11 | with_reducible exact set_h12 | with_reducible exact set_h13 | with_reducible exact set_h14 | with_reducible exact set_h15 | with_reducible exact set_h16 | with_reducible exact set_h17 | with_reducible exact set_h18 | with_reducible exact set_h19 | with_reducible exact set_h20 | with_reducible exact set_h21 | with_reducible exact set_h22 | with_reducible exact set_h23 | with_reducible exact set_h24 | with_reducible exact set_h25)) | (with_reducible refine w_lc2 ?_) | (with_reducible refine w_lcT ?_) | (with_reducible refine w_on2 ?_) | (with_reducible refine w_neInt ?_) | (with_reducible refine w_slL ?_) | (with_reducible refine w_tnotN ?_) | (with_reducible refine w_iT ?_) | (with_reducible refine w_tupF ?_) | (with_reducible refine w_par ?_) | ((with_reducible refine' w_kpar ?_ ?_ ?_); rotate_left 2; (first | with_reducible exact set_h0 | with_reducible exact set_h1 | with_reducible exact set_h2 | with_reducible exact set_h3 | with_reducible exact set_h4 | with_reducible exact set_h5 | with_reducible exact set_h6 | with_reducible exact set_h7 | with_reducible exact set_h8 | with_reducible exact set_h9 | with_reducible exact set_h10 | with_reducible exact set_h11 | with_reducible exact set_h12 | with_reducible exact set_h13 | with_reducible exact set_h14 | with_reducible exact set_h15 | with_reducible exact set_h16 | with_reducible exact set_h17 | with_reducible exact set_h18 | with_reducible exact set_h19 | with_reducible exact set_h20 | with_reducible exact set_h21 | with_reducible exact set_h22 | with_reducible exact set_h23 | with_reducible exact set_h24 | with_reducible exact set_h25); (first | with_reducible exact set_h0 | with_reducible exact set_h1 | with_reducible exact set_h2 | with_reducible exact set_h3 | with_reducible exact set_h4 | with_reducible exact set_h5 | with_reducible exact set_h6 | with_reducible exact set_h7 | with_reducible exact set_h8 | with_reducible exact set_h9 | with_reducible exact set_h10 | with_reducible exact set_h11 | with_reducible exact set_h12 | with_reducible exact set_h13 | with_reducible exact set_h14 | with_reducible exact set_h15 | with_reducible exact set_h16 | with_reducible exact set_h17 | with_reducible exact set_h18 | with_reducible exact set_h19 | with_reducible exact set_h20 | with_reducible exact set_h21 | with_reducible exact set_h22 | with_reducible exact set_h23 | with_reducible exact set_h24 | with_reducible exact set_h25)) | (with_reducible refine w_rg2 ?_) | (with_reducible refine w_asT ?_) | (with_reducible refine w_kTp ?_) | (with_reducible refine w_pdget2 ?_) | (with_reducible refine w_zT ?_) | (with_reducible refine w_dct ?_) | (with_reducible refine w_listL ?_) | (with_reducible refine w_andV ?_) | (with_reducible refine w_isN ?_) | (with_reducible refine w_cnt ?_) | (with_reducible refine w_retD ?_) | ((with_reducible refine' w_isi_i ?_ ?_); rotate_left; (first | with_reducible exact kit_ib | with_reducible exact kit_ii | with_reducible exact kit_it | with_reducible exact kit_il | with_reducible exact kit_is)) | ((with_reducible refine' w_isi_t ?_ ?_); rotate_left; (first | with_reducible exact kit_tb | with_reducible exact kit_ti | with_reducible exact kit_tt | with_reducible exact kit_tl | with_reducible exact kit_ts)) | (with_reducible refine w_lc2M ?_) | (with_reducible refine w_lcM ?_) | (with_reducible refine w_catN ?_) | (with_reducible refine w_tcnt ?_) | (with_reducible refine w_kTCnt ?_) | (with_reducible refine w_catR ?_) | (with_reducible refine w_tidx ?_) | (with_reducible refine w_pdget1 ?_) | (with_reducible refine w_rv ?_) | (with_reducible refine w_z ?_) | (with_reducible refine w_gsub ?_) | (with_reducible refine w_ixlst0 ?_) | (with_reducible refine w_ixlst1 ?_) | (with_reducible refine w_slS ?_) | (with_reducible refine w_abs ?_) | (with_reducible refine w_listML ?_) | (with_reducible refine w_notB ?_) | (with_reducible refine w_brk ?_) | (with_reducible refine w_fzE ?_) | ((with_reducible refine' w_isi_l ?_ ?_); rotate_left; (first | with_reducible exact kit_lb | with_reducible exact kit_li | with_reducible exact kit_lt | with_reducible exact kit_ll | with_reducible exact kit_ls)) | (with_reducible refine w_join ?_) | (with_reducible refine w_kStr ?_) | (with_reducible refine w_zL ?_) | (with_reducible refine w_tupRg ?_) | ((with_reducible refine w_shr ?_ ?_); (first | decide | omega)) | (with_reducible refine w_retN ?_) | (with_reducible refine w_dnx ?_) | (with_reducible refine w_drt ?_) | (with_reducible refine w_dbk ?_) | (with_reducible refine w_eqBl ?_) | (with_reducible refine w_neBl ?_) | (with_reducible refine w_neStr ?_) | (with_reducible refine w_ixlst2 ?_) | (with_reducible refine w_ixlst3 ?_) | (with_reducible refine w_ixtup4 ?_) | (with_reducible refine w_ixlst4 ?_) | (with_reducible refine w_ixtup5 ?_) | (with_reducible refine w_ixlst5 ?_) | (with_reducible refine w_need ?_) | (with_reducible refine w_lenscr ?_) | (with_reducible refine w_listT ?_) | (with_reducible refine w_listS ?_) | (with_reducible refine w_tupT ?_) | (with_reducible refine w_listMT ?_) | (with_reducible refine w_orV ?_) | (with_reducible refine w_notV ?_) | (with_reducible refine w_if ?_) | (with_reducible refine w_notN ?_) | (with_reducible refine w_in_int ?_) | (with_reducible refine w_in_lst ?_) | (with_reducible refine w_in_ptr ?_) | (with_reducible refine w_in_str ?_) | (with_reducible refine w_in_bl ?_) | (with_reducible refine w_isB ?_) | (with_reducible refine w_lstFs ?_) | (with_reducible refine w_R2 ?_) | (with_reducible refine w_forM ?_) | (with_reducible refine w_lcnil ?_) | (with_reducible refine w_lccons ?_) | (with_reducible refine w_retFD ?_) | (with_reducible refine w_raise ?_) | (with_reducible refine w_raiseF ?_) | (with_reducible refine w_tryF ?_) | (with_reducible refine w_isFp ?_) | (with_reducible refine w_isFx ?_) | ((with_reducible refine' w_xf ?_ ?_); rotate_left; exact rfl) | (with_reducible refine w_try ?_) | (with_reducible refine w_lstRg ?_) | (with_reducible refine w_pop ?_) | (with_reducible refine w_rev ?_) | (with_reducible refine w_revL ?_) | (with_reducible refine w_forE ?_) | ((with_reducible refine' w_isi_b ?_ ?_); rotate_left; (first | with_reducible exact kit_bb | with_reducible exact kit_bi | with_reducible exact kit_bt | with_reducible exact kit_bl | with_reducible exact kit_bs)) | ((with_reducible refine' w_isi_s ?_ ?_); rotate_left; (first | with_reducible exact kit_sb | with_reducible exact kit_si | with_reducible exact kit_st | with_reducible exact kit_sl | with_reducible exact kit_ss)) | ((with_reducible refine' w_isi_n ?_ ?_); rotate_left; (first | with_reducible exact kit_nb | with_reducible exact kit_ni | with_reducible exact kit_nt | with_reducible exact kit_nl | with_reducible exact kit_ns))))
local macro_rules | `(tactic| walk_at "st") => `(tactic| simp only [pstart, List.map_cons, List.map_nil, List.cons_append, List.nil_append, List.length_cons, List.length_nil, List.replicate, Nat.reduceSub, Nat.reduceAdd, Nat.zero_add])
local macro_rules | `(tactic| walk_at "pl") => `(tactic| try simp only [pSeq, pNext, pSet, pRet, pRetN, pIfS, pVar, pC, pTest, pBin, pAnd, pOr, pNot, pAndV, pOrV, pNotV, pIsN, pNotN, pTIsN, pTNotN, pCons, pNil, pTup, pLst, pLstM, pCall, pCallB, pDrop, pAsg, gpName, kB_bl, need_some, need_none, pIf, pSl, pNoPart,
  piL, piT, pFor, pLc, pAug, pFldS, pForM, pMeth, pFld, fldOf_obj, objOf_obj, pApp, gpSub, pRetF, pRetFD, pRetD, dropSlots, pTupRev, pBreak, pCont,
  pstart, List.map_cons, List.map_nil, List.cons_append, List.nil_append, List.length_cons, List.length_nil, List.replicate, List.getElem?_cons_zero, List.getElem?_cons_succ, List.set_cons_zero, List.set_cons_succ, Nat.reduceSub, Nat.reduceAdd, Nat.zero_add, Nat.add_zero, Nat.sub_self,
  Bool.false_eq_true, if_false, if_true, ite_true, ite_false, reduceIte, Bool.not_true, Bool.not_false, Bool.true_eq_false, decide_eq_true_eq, Bool.not_eq_true', List.length_append, true_and, and_true, List.length_map,
  isi_int, isi_bl, isi_str, isi_non, isi_tup, isi_lst, kit_ib, kit_ii, kit_it, kit_il, kit_is, kit_bb, kit_bi, kit_bt, kit_bl, kit_bs, kit_tb, kit_ti, kit_tt, kit_tl, kit_ts, kit_lb, kit_li, kit_lt, kit_ll, kit_ls, kit_sb, kit_si, kit_st, kit_sl, kit_ss, kit_nb, kit_ni, kit_nt, kit_nl, kit_ns,
  PL.ix_tup, PL.ix_lst, ix_scr, at_0, at_1, at_2, at_3, at_4, at_5, len_tup, len_lst, len_scr, eq_int', ne_int', eq_bl', ne_bl', eq_str', ne_str', sl_tup, sl_lst, sl_scr, cutA_map, cutA_from1,
  r_add_int, r_add_str, r_add_tup, r_add_lst, r_mulA_int, r_mulA_tup, r_I0, r_I, r_neg, r_neg_int, r_chain, r_ch1, r_ch2, r_abs, r_int, r_min2, r_max2, r_list_lst, r_list_tup, r_list_scr, r_tup_lst, r_tup_tup, r_listM_lst, r_listM_tup, r_on1, r_on2, r_gtup, r_gcons, r_gnil,
  r_non_non, r_non_int, r_non_tup, r_non_lst, r_non_str, r_non_bl, r_non_ptr, r_non_obj, r_part, r_part_int, r_R1, r_R1_int, r_R2, r_R2_int, r_lstF, r_lstF_scr, r_tupF, cdiv_eq, Int.reduceLT, Int.reduceLE, Int.reduceNeg, Int.reduceAdd, Int.reduceSub, Int.reduceMul, Int.reduceEq, Int.reducePow, Nat.reducePow,
  eq_tI, eq_tI_nil, len_lI, tupF_tI, tI_rev, addR_tI, addL_tI, sl_tI_tail, len_tI, tup_tI, add_tI, lk_marks, lk_states, lk_rows, lk_row, lk_table, lk_begin, lk_step, lk_stopped, lk_run])
theorem k_law_same (Γ : Ctx) (n : Nat) : Keeps (t_law_same Γ (spSame n)) 2 3 (spSame (n + 1)) := by
  rintro xs M Q E hl ⟨x, rfl, h, q⟩
  unfold t_law_same
  cases x with
  | tup xs =>
    obtain ⟨h1, h2⟩ : xs.length < 1000000 ∧ ∀ x ∈ xs, okD n x := h
    walk_at "pl"
    rw [if_neg (by decide)]
    refine ⟨⟨by omega, by omega⟩, ?_⟩
    rw [Int.toNat_natCast]
    refine for_rng (fun i σ M' => M' = M ∧ ∃ x, σ = [some (.tup xs), some (.tup xs), x]) ⟨rfl, _, rfl⟩ ?_ ?_
    · rintro i σ M' K hi ⟨rfl, x, rfl⟩ hK
      unfold b_law_same_1
      walk_at "pl"
      have hg : L2.atI xs (0 + (i : Int)) = some xs[i] := by
        rw [at_pos _ (by omega), show (0 + (i : Int)).toNat = i from by omega, List.getElem?_eq_getElem hi]
      rw [hg, need_some, need_some]
      refine ⟨_, rfl, h2 _ (List.getElem_mem hi), ?_⟩
      walk_at "pl"
      exact hK _ _ ⟨rfl, _, rfl⟩
    · rintro σ M' ⟨rfl, x, rfl⟩
      walk_at "pl"
      exact q
  | non =>
    walk_at "pl"
    exact q
  | int i =>
    walk_at "pl"
    rw [decide_eq_true trivial]
    exact q
  | str i =>
    walk_at "pl"
    rw [decide_eq_true trivial]
    exact q
  | _ => exact h.elim
/-! data -/
theorem okD_int (n : Nat) (i : Int) : okD (n + 1) (.int i) := trivial
theorem okD_non (n : Nat) : okD (n + 1) .non := trivial
theorem okD_tup {n : Nat} {xs : List PV} (h1 : xs.length < 1000000) (h2 : ∀ x ∈ xs, okD n x) : okD (n + 1) (.tup xs) := ⟨h1, h2⟩
theorem okD_tI {n : Nat} {xs : List Int} (h1 : xs.length ≤ 1000) : okD (n + 2) (tI xs) := ⟨by rw [List.length_map]; omega, fun x hx => by obtain ⟨i, _, rfl⟩ := List.mem_map.mp hx; exact trivial⟩
theorem okD_rowP (n : Nat) : ∀ r : TRow, okD (n + 2) (rowP r)
  | none => trivial
  | some (w, mv, t) => ⟨by simp only [List.length_cons, List.length_nil]; omega, fun x hx => by
      simp only [List.mem_cons, List.not_mem_nil, or_false] at hx
      rcases hx with rfl | rfl | rfl <;> exact trivial⟩
theorem okD_cfP {n : Nat} {c : Cf} (h1 : c.l.length ≤ 1000) (h2 : c.r.length ≤ 1000) : okD (n + 3) (cfP c) := ⟨by simp only [List.length_cons, List.length_nil]; omega, fun x hx => by
  simp only [List.mem_cons, List.not_mem_nil, or_false] at hx
  rcases hx with rfl | rfl | rfl | rfl
  · exact trivial
  · exact okD_tI h1
  · exact trivial
  · exact okD_tI h2⟩
theorem okD_optP {n : Nat} {m s : Int} {rows : List TRow} {c : Cf} (h1 : c.l.length < 1000) (h2 : c.r.length < 1000) : okD (n + 3) (optP (stepM rows m c)) := by
  cases e : stepM rows m c with
  | none => exact trivial
  | some d =>
    have := runM_len (m := m) (s := s) c d e
    exact okD_cfP (by omega) (by omega)
theorem runM_ln {m s : Int} {rows : List TRow} : ∀ (n : Nat) (c : Cf), (runM rows m n c).1.l.length ≤ c.l.length + n ∧ (runM rows m n c).1.r.length ≤ c.r.length + n
  | 0, c => ⟨Nat.le_refl _, Nat.le_refl _⟩
  | n + 1, c => by
    have er : runM rows m (n + 1) c = match stepM rows m c with | none => (c, 0) | some d' => let (e, k) := runM rows m n d'; (e, k + 1) := rfl
    cases e : stepM rows m c with
    | none =>
      rw [e] at er
      rw [er]
      exact ⟨Nat.le_add_right _ _, Nat.le_add_right _ _⟩
    | some d =>
      rw [e] at er
      have h1 := runM_len (m := m) (s := s) c d e
      have h2 := runM_ln (m := m) (s := s) (rows := rows) n d
      rw [er]
      exact ⟨by have := h2.1; show (runM rows m n d).1.l.length ≤ _; omega, by have := h2.2; show (runM rows m n d).1.r.length ≤ _; omega⟩
theorem c_same {Γ : Ctx} {x : PV} {M : Mem} {Q : PQ} {E : PXK} (h : okD 8 x) (q : Q (.bl true) M) : sp_law_same Γ [x, x] M Q E := ⟨x, rfl, h, q⟩
end My
set_option Elab.async false
set_option linter.all false
set_option maxRecDepth 100000
namespace My
open PySem PL TM PD
local macro_rules | `(tactic| walk_at "hd") => `(tactic| repeat (first | (with_reducible refine w_cons ?_) | ((with_reducible refine' w_var ?_ ?_); rotate_left; exact rfl) | (with_reducible refine w_seq ?_) | (with_reducible refine w_C ?_) | (with_reducible refine w_nil ?_) | (with_reducible refine w_bin ?_) | (with_reducible refine w_tup ?_) | ((with_reducible refine' w_pset ?_ ?_); rotate_left; (intro x; first | with_reducible exact set_h0 | with_reducible exact set_h1 | with_reducible exact set_h2 | with_reducible exact set_h3 | with_reducible exact set_h4 | with_reducible exact set_h5 | with_reducible exact set_h6 | with_reducible exact set_h7 | with_reducible exact set_h8 | with_reducible exact set_h9 | with_reducible exact set_h10 | with_reducible exact set_h11 | with_reducible exact set_h12 | with_reducible exact set_h13 | with_reducible exact set_h14 | with_reducible exact set_h15 | with_reducible exact set_h16 | with_reducible exact set_h17 | with_reducible exact set_h18 | with_reducible exact set_h19 | with_reducible exact set_h20 | with_reducible exact set_h21 | with_reducible exact set_h22 | with_reducible exact set_h23 | with_reducible exact set_h24 | with_reducible exact set_h25)) | (with_reducible refine w_add ?_) | (with_reducible refine w_test ?_) | (with_reducible refine w_kB ?_) | (with_reducible refine w_call ?_) | (with_reducible refine w_ifs ?_) | (with_reducible refine w_next ?_) | ((with_reducible refine' w_gname ?_ ?_); rotate_left; (first | with_reducible exact set_h0 | with_reducible exact set_h1 | with_reducible exact set_h2 | with_reducible exact set_h3 | with_reducible exact set_h4 | with_reducible exact set_h5 | with_reducible exact set_h6 | with_reducible exact set_h7 | with_reducible exact set_h8 | with_reducible exact set_h9 | with_reducible exact set_h10 | with_reducible exact set_h11 | with_reducible exact set_h12 | with_reducible exact set_h13 | with_reducible exact set_h14 | with_reducible exact set_h15 | with_reducible exact set_h16 | with_reducible exact set_h17 | with_reducible exact set_h18 | with_reducible exact set_h19 | with_reducible exact set_h20 | with_reducible exact set_h21 | with_reducible exact set_h22 | with_reducible exact set_h23 | with_reducible exact set_h24 | with_reducible exact set_h25)) | (with_reducible refine w_ret ?_) | (with_reducible refine w_fld ?_) | (with_reducible refine w_ifd ?_) | ((with_reducible refine' w_fldO ?_ ?_); rotate_left; exact rfl) | (with_reducible refine w_gcons ?_) | (with_reducible refine w_callB ?_) | (with_reducible refine w_on1 ?_) | ((with_reducible refine w_mod ?_ ?_); (first | decide | omega)) | (with_reducible refine w_int ?_) | (with_reducible refine w_drop ?_) | (with_reducible refine w_for ?_) | (with_reducible refine w_I0 ?_) | (with_reducible refine w_ifF ?_) | (with_reducible refine w_part ?_) | (with_reducible refine w_partI ?_) | (with_reducible refine w_sl ?_) | (with_reducible refine w_nop ?_) | (with_reducible refine w_ifT ?_) | (with_reducible refine w_R1 ?_) | ((with_reducible refine w_R1I ?_ ?_); (first | decide | omega)) | (with_reducible refine w_gnil ?_) | (with_reducible refine w_ixtup0 ?_) | (with_reducible refine w_ifn ?_) | (with_reducible refine w_asg ?_) | ((with_reducible refine w_gtup ?_ ?_); exact rfl) | (with_reducible refine w_eqInt ?_) | (with_reducible refine w_ixtup1 ?_) | (with_reducible refine w_or ?_) | (with_reducible refine w_not ?_) | (with_reducible refine w_in_non ?_) | (with_reducible refine w_lc ?_) | ((with_reducible refine w_div ?_ ?_); (first | decide | omega)) | (with_reducible refine w_neg ?_) | (with_reducible refine w_negI ?_) | (with_reducible refine w_eqStr ?_) | (with_reducible refine w_slT ?_) | (with_reducible refine w_lentup ?_) | (with_reducible refine w_tupL ?_) | (with_reducible refine w_lstF ?_) | (with_reducible refine w_app ?_) | (with_reducible refine w_tisN ?_) | (with_reducible refine w_meth ?_) | ((with_reducible refine w_objO ?_ ?_); exact rfl) | (with_reducible refine w_lstM ?_) | (with_reducible refine w_ixtup2 ?_) | (with_reducible refine w_retF ?_) | (with_reducible refine w_iL ?_) | (with_reducible refine w_make ?_) | (with_reducible refine w_fldS ?_) | (with_reducible refine w_rg1 ?_) | (with_reducible refine w_dnew ?_) | (with_reducible refine w_gsubD ?_) | (with_reducible refine w_lst ?_) | (with_reducible refine w_ixtup3 ?_) | (with_reducible refine w_lenlst ?_) | (with_reducible refine w_and ?_) | (with_reducible refine w_in_tup ?_) | ((with_reducible refine' w_aug ?_ ?_ ?_); rotate_left 2; exact rfl; (intro x; first | with_reducible exact set_h0 | with_reducible exact set_h1 | with_reducible exact set_h2 | with_reducible exact set_h3 | with_reducible exact set_h4 | with_reducible exact set_h5 | with_reducible exact set_h6 | with_reducible exact set_h7 | with_reducible exact set_h8 | with_reducible exact set_h9 | with_reducible exact set_h10 | with_reducible exact set_h11 | with_reducible exact set_h12 | with_reducible exact set_h13 | with_reducible exact set_h14 | with_reducible exact set_h15 | with_reducible exact set_h16 | with_reducible exact set_h17 | with_reducible exact set_h18 | with_reducible exact set_h19 | with_reducible exact set_h20 | with_reducible exact set_h21 | with_reducible exact set_h22 | with_reducible exact set_h23 | with_reducible exact set_h24 | with_reducible exact set_h25)) | (with_reducible refine w_lc2 ?_) | (with_reducible refine w_lcT ?_) | (with_reducible refine w_on2 ?_) | (with_reducible refine w_neInt ?_) | (with_reducible refine w_slL ?_) | (with_reducible refine w_tnotN ?_) | (with_reducible refine w_iT ?_) | (with_reducible refine w_tupF ?_) | (with_reducible refine w_par ?_) | ((with_reducible refine' w_kpar ?_ ?_ ?_); rotate_left 2; (first | with_reducible exact set_h0 | with_reducible exact set_h1 | with_reducible exact set_h2 | with_reducible exact set_h3 | with_reducible exact set_h4 | with_reducible exact set_h5 | with_reducible exact set_h6 | with_reducible exact set_h7 | with_reducible exact set_h8 | with_reducible exact set_h9 | with_reducible exact set_h10 | with_reducible exact set_h11 | with_reducible exact set_h12 | with_reducible exact set_h13 | with_reducible exact set_h14 | with_reducible exact set_h15 | with_reducible exact set_h16 | with_reducible exact set_h17 | with_reducible exact set_h18 | with_reducible exact set_h19 | with_reducible exact set_h20 | with_reducible exact set_h21 | with_reducible exact set_h22 | with_reducible exact set_h23 | with_reducible exact set_h24 | with_reducible exact set_h25); (first | with_reducible exact set_h0 | with_reducible exact set_h1 | with_reducible exact set_h2 | with_reducible exact set_h3 | with_reducible exact set_h4 | with_reducible exact set_h5 | with_reducible exact set_h6 | with_reducible exact set_h7 | with_reducible exact set_h8 | with_reducible exact set_h9 | with_reducible exact set_h10 | with_reducible exact set_h11 | with_reducible exact set_h12 | with_reducible exact set_h13 | with_reducible exact set_h14 | with_reducible exact set_h15 | with_reducible exact set_h16 | with_reducible exact set_h17 | with_reducible exact set_h18 | with_reducible exact set_h19 | with_reducible exact set_h20 | with_reducible exact set_h21 | with_reducible exact set_h22 | with_reducible exact set_h23 | with_reducible exact set_h24 | with_reducible exact set_h25)) | (with_reducible refine w_rg2 ?_) | (with_reducible refine w_asT ?_) | (with_reducible refine w_kTp ?_) | (with_reducible refine w_pdget2 ?_) | (with_reducible refine w_zT ?_) | (with_reducible refine w_dct ?_) | (with_reducible refine w_listL ?_) | (with_reducible refine w_andV ?_) | (with_reducible refine w_isN ?_) | (with_reducible refine w_cnt ?_) | (with_reducible refine w_retD ?_) | ((with_reducible refine' w_isi_i ?_ ?_); rotate_left; (first | with_reducible exact kit_ib | with_reducible exact kit_ii | with_reducible exact kit_it | with_reducible exact kit_il | with_reducible exact kit_is)) | ((with_reducible refine' w_isi_t ?_ ?_); rotate_left; (first | with_reducible exact kit_tb | with_reducible exact kit_ti | with_reducible exact kit_tt | with_reducible exact kit_tl | with_reducible exact kit_ts)) | (with_reducible refine w_lc2M ?_) | (with_reducible refine w_lcM ?_) | (with_reducible refine w_catN ?_) | (with_reducible refine w_tcnt ?_) | (with_reducible refine w_kTCnt ?_) | (with_reducible refine w_catR ?_) | (with_reducible refine w_tidx ?_) | (with_reducible refine w_pdget1 ?_) | (with_reducible refine w_rv ?_) | (with_reducible refine w_z ?_) | (with_reducible refine w_gsub ?_) | (with_reducible refine w_ixlst0 ?_) | (with_reducible refine w_ixlst1 ?_) | (with_reducible refine w_slS ?_) | (with_reducible refine w_abs ?_) | (with_reducible refine w_listML ?_) | (with_reducible refine w_notB ?_) | (with_reducible refine w_brk ?_) | (with_reducible refine w_fzE ?_) | ((with_reducible refine' w_isi_l ?_ ?_); rotate_left; (first | with_reducible exact kit_lb | with_reducible exact kit_li | with_reducible exact kit_lt | with_reducible exact kit_ll | with_reducible exact kit_ls)) | (with_reducible refine w_join ?_) | (with_reducible refine w_kStr ?_) | (with_reducible refine w_zL ?_) | (with_reducible refine w_tupRg ?_) | ((with_reducible refine w_shr ?_ ?_); (first | decide | omega)) | (with_reducible refine w_retN ?_) | (with_reducible refine w_dnx ?_) | (with_reducible refine w_drt ?_) | (with_reducible refine w_dbk ?_) | (with_reducible refine w_eqBl ?_) | (with_reducible refine w_neBl ?_) | (with_reducible refine w_neStr ?_) | (with_reducible refine w_ixlst2 ?_) | (with_reducible refine w_ixlst3 ?_) | (with_reducible refine w_ixtup4 ?_) | (with_reducible refine w_ixlst4 ?_) | (with_reducible refine w_ixtup5 ?_) | (with_reducible refine w_ixlst5 ?_) | (with_reducible refine w_need ?_) | (with_reducible refine w_lenscr ?_) | (with_reducible refine w_listT ?_) | (with_reducible refine w_listS ?_) | (with_reducible refine w_tupT ?_) | (with_reducible refine w_listMT ?_) | (with_reducible refine w_orV ?_) | (with_reducible refine w_notV ?_) | (with_reducible refine w_if ?_) | (with_reducible refine w_notN ?_) | (with_reducible refine w_in_int ?_) | (with_reducible refine w_in_lst ?_) | (with_reducible refine w_in_ptr ?_) | (with_reducible refine w_in_str ?_) | (with_reducible refine w_in_bl ?_) | (with_reducible refine w_isB ?_) | (with_reducible refine w_lstFs ?_) | (with_reducible refine w_R2 ?_) | (with_reducible refine w_forM ?_) | (with_reducible refine w_lcnil ?_) | (with_reducible refine w_lccons ?_) | (with_reducible refine w_retFD ?_) | (with_reducible refine w_raise ?_) | (with_reducible refine w_raiseF ?_) | (with_reducible refine w_tryF ?_) | (with_reducible refine w_isFp ?_) | (with_reducible refine w_isFx ?_) | ((with_reducible refine' w_xf ?_ ?_); rotate_left; exact rfl) | (with_reducible refine w_try ?_) | (with_reducible refine w_lstRg ?_) | (with_reducible refine w_pop ?_) | (with_reducible refine w_rev ?_) | (with_reducible refine w_revL ?_) | (with_reducible refine w_forE ?_) | ((with_reducible refine' w_isi_b ?_ ?_); rotate_left; (first | with_reducible exact kit_bb | with_reducible exact kit_bi | with_reducible exact kit_bt | with_reducible exact kit_bl | with_reducible exact kit_bs)) | ((with_reducible refine' w_isi_s ?_ ?_); rotate_left; (first | with_reducible exact kit_sb | with_reducible exact kit_si | with_reducible exact kit_st | with_reducible exact kit_sl | with_reducible exact kit_ss)) | ((with_reducible refine' w_isi_n ?_ ?_); rotate_left; (first | with_reducible exact kit_nb | with_reducible exact kit_ni | with_reducible exact kit_nt | with_reducible exact kit_nl | with_reducible exact kit_ns))))
local macro_rules | `(tactic| walk_at "st") => `(tactic| simp only [pstart, List.map_cons, List.map_nil, List.cons_append, List.nil_append, List.length_cons, List.length_nil, List.replicate, Nat.reduceSub, Nat.reduceAdd, Nat.zero_add])
local macro_rules | `(tactic| walk_at "pl") => `(tactic| try simp only [pSeq, pNext, pSet, pRet, pRetN, pIfS, pVar, pC, pTest, pBin, pAnd, pOr, pNot, pAndV, pOrV, pNotV, pIsN, pNotN, pTIsN, pTNotN, pCons, pNil, pTup, pLst, pLstM, pCall, pCallB, pDrop, pAsg, gpName, kB_bl, need_some, need_none, pIf, pSl, pNoPart,
  piL, piT, pFor, pLc, pAug, pFldS, pForM, pMeth, pFld, fldOf_obj, objOf_obj, pApp, gpSub, pRetF, pRetFD, pRetD, dropSlots, pTupRev, pBreak, pCont,
  pstart, List.map_cons, List.map_nil, List.cons_append, List.nil_append, List.length_cons, List.length_nil, List.replicate, List.getElem?_cons_zero, List.getElem?_cons_succ, List.set_cons_zero, List.set_cons_succ, Nat.reduceSub, Nat.reduceAdd, Nat.zero_add, Nat.add_zero, Nat.sub_self,
  Bool.false_eq_true, if_false, if_true, ite_true, ite_false, reduceIte, Bool.not_true, Bool.not_false, Bool.true_eq_false, decide_eq_true_eq, Bool.not_eq_true', List.length_append, true_and, and_true, List.length_map,
  isi_int, isi_bl, isi_str, isi_non, isi_tup, isi_lst, kit_ib, kit_ii, kit_it, kit_il, kit_is, kit_bb, kit_bi, kit_bt, kit_bl, kit_bs, kit_tb, kit_ti, kit_tt, kit_tl, kit_ts, kit_lb, kit_li, kit_lt, kit_ll, kit_ls, kit_sb, kit_si, kit_st, kit_sl, kit_ss, kit_nb, kit_ni, kit_nt, kit_nl, kit_ns,
  PL.ix_tup, PL.ix_lst, ix_scr, at_0, at_1, at_2, at_3, at_4, at_5, len_tup, len_lst, len_scr, eq_int', ne_int', eq_bl', ne_bl', eq_str', ne_str', sl_tup, sl_lst, sl_scr, cutA_map, cutA_from1,
  r_add_int, r_add_str, r_add_tup, r_add_lst, r_mulA_int, r_mulA_tup, r_I0, r_I, r_neg, r_neg_int, r_chain, r_ch1, r_ch2, r_abs, r_int, r_min2, r_max2, r_list_lst, r_list_tup, r_list_scr, r_tup_lst, r_tup_tup, r_listM_lst, r_listM_tup, r_on1, r_on2, r_gtup, r_gcons, r_gnil,
  r_non_non, r_non_int, r_non_tup, r_non_lst, r_non_str, r_non_bl, r_non_ptr, r_non_obj, r_part, r_part_int, r_R1, r_R1_int, r_R2, r_R2_int, r_lstF, r_lstF_scr, r_tupF, cdiv_eq, Int.reduceLT, Int.reduceLE, Int.reduceNeg, Int.reduceAdd, Int.reduceSub, Int.reduceMul, Int.reduceEq, Int.reducePow, Nat.reducePow,
  eq_tI, eq_tI_nil, len_lI, tupF_tI, tI_rev, addR_tI, addL_tI, sl_tI_tail, len_tI, tup_tI, add_tI, lk_marks, lk_states, lk_rows, lk_row, lk_table, lk_begin, lk_step, lk_stopped, lk_run])
theorem k_law_numbers (Γ : Ctx) : Keeps (t_law_numbers Γ) 2 7 (sp_law_numbers Γ) := by
  rintro xs M Q E hl ⟨zs, many, rfl, hz, hm, q⟩
  unfold t_law_numbers
  walk_at "pl"
  intro p hp
  walk_at "pl"
  refine ⟨⟨by omega, by omega⟩, ?_⟩
  rw [Int.toNat_natCast]
  refine for_rng (fun i σ M' => ∃ (ns : List Int) (x3 x4 x5 x6 : Option PV), σ = [some (.scr (zs.map .int)), some (.int many), some (.ptr p), x3, x4, x5, x6] ∧ (∀ n ∈ ns, 0 ≤ n ∧ n < 1000) ∧ ns.length ≤ 1000 + 5 * i ∧
    M' = M.put p (.lst (ns.map .int))) ⟨[], _, _, _, _, rfl, fun _ h => (nomatch h), by simp, rfl⟩ ?_ ?_
  · rintro i σ M' K hi ⟨ns, x3, x4, x5, x6, rfl, hns, hln, rfl⟩ hK
    unfold b_law_numbers_1
    walk_at "pl"
    have hg : L2.atI (zs.map PV.int) (0 + (i : Int)) = some (.int zs[i]) := by
      rw [at_pos _ (by omega), show (0 + (i : Int)).toNat = i from by omega, List.getElem?_map, List.getElem?_eq_getElem hi]
      rfl
    rw [hg]
    walk_at "pl"
    have hc0 : 0 ≤ (if zs[i] < 0 then -zs[i] else zs[i]) := by split <;> omega
    generalize (if zs[i] < 0 then -zs[i] else zs[i]) = cell at hc0 ⊢
    have ht : (10 : Int) ^ Int.toNat 18 = 1000000000000000000 := by decide
    refine ⟨⟨by decide, by decide, by decide⟩, ?_⟩
    rw [ht]
    walk_at "pl"
    have app : ∀ (ns : List Int) (n : Int) (R : PQ), (∀ n ∈ ns, 0 ≤ n ∧ n < 1000) → ns.length ≤ 2000 → (0 ≤ n ∧ n < 1000) →
        (∀ ns2 : List Int, (∀ n ∈ ns2, 0 ≤ n ∧ n < 1000) → ns2.length = ns.length + 1 → R .non (M.put p (.lst (ns2.map .int)))) →
        lstOf (M.put p (.lst (ns.map .int))) (.ptr p) ≠ none ∧ kApp (.ptr p) (.int n) (M.put p (.lst (ns.map .int))) R := fun ns n R h1 h2 h3 k => by
      refine ⟨by rw [lstOf_ptr put_same]; exact Option.some_ne_none _, ?_⟩
      rw [app_ptr put_same (line_lt' (by rw [List.length_map]; omega)), put_put]
      have := k (ns ++ [n]) (fun x hx => by
        rcases List.mem_append.mp hx with e | e
        · exact h1 x e
        · rw [List.mem_singleton.mp e]; exact h3) (by rw [List.length_append]; rfl)
      rw [List.map_append] at this
      exact this
    split
    · refine for_rng (fun j σ M' => ∃ (ns : List Int) (cell : Int) (x5 x6 : Option PV), σ = [some (.scr (zs.map .int)), some (.int many), some (.ptr p), some (.int (0 + (i : Nat))), some (.int cell), x5, x6] ∧ 0 ≤ cell ∧ (∀ n ∈ ns, 0 ≤ n ∧ n < 1000) ∧ ns.length ≤ 1000 + 5 * i ∧
        M' = M.put p (.lst (ns.map .int))) ⟨ns, cell, _, _, rfl, hc0, hns, hln, rfl⟩ ?_ ?_
      · rintro j σ M' K2 hj ⟨ns, cell, x5, x6, rfl, hc0, hns, hln, rfl⟩ hK2
        unfold b_law_numbers_2
        walk_at "pl"
        have go : ∀ x5, K2 [some (.scr (zs.map .int)), some (.int many), some (.ptr p), some (.int (0 + (i : Nat))), some (.int cell), x5, x6] (M.put p (.lst (ns.map .int))) := fun x5 => hK2 _ _ ⟨ns, cell, _, _, rfl, hc0, hns, hln, rfl⟩
        split
        · rw [PL.len_ptr put_same]
          walk_at "pl"
          split
          · rename_i h1 h2
            exact app ns _ _ hns (by omega) ⟨by omega, by omega⟩ (fun ns2 h3 h4 => hK2 _ _ ⟨ns2, cell / 1000, _, _, rfl, by omega, h3, by omega, rfl⟩)
          · exact go _
        · exact go _
      · rintro σ M' ⟨ns, cell, x5, x6, rfl, hc0, hns, hln, rfl⟩
        exact hK _ _ ⟨ns, _, _, _, _, rfl, hns, by omega, rfl⟩
    · refine for_rng (fun j σ M' => ∃ (ns : List Int) (x5 x6 : Option PV), σ = [some (.scr (zs.map .int)), some (.int many), some (.ptr p), some (.int (0 + (i : Nat))), some (.int cell), x5, x6] ∧ (∀ n ∈ ns, 0 ≤ n ∧ n < 1000) ∧ ns.length ≤ 1000 + 5 * i + j ∧
        M' = M.put p (.lst (ns.map .int))) ⟨ns, _, _, rfl, hns, hln, rfl⟩ ?_ ?_
      · rintro j σ M' K2 hj ⟨ns, x5, x6, rfl, hns, hln, rfl⟩ hK2
        unfold b_law_numbers_3
        walk_at "pl"
        have hi3 : i < 63 := by omega
        have hj3 : j < 5 := hj
        refine ⟨.inr ⟨by decide, by decide⟩, .inr ⟨by decide, by decide⟩, .inr ⟨by decide, by decide⟩, .inl ⟨by omega, by omega⟩, ?_⟩
        exact app ns _ _ hns (by omega) ⟨by omega, by omega⟩ (fun ns2 h3 h4 => hK2 _ _ ⟨ns2, _, _, rfl, h3, by omega, rfl⟩)
      · rintro σ M' ⟨ns, x5, x6, rfl, hns, hln, rfl⟩
        exact hK _ _ ⟨ns, _, _, _, _, rfl, hns, (by have : Int.toNat 5 = 5 := rfl; omega), rfl⟩
  · rintro σ M' ⟨ns, x3, x4, x5, x6, rfl, hns, hln, rfl⟩
    walk_at "pl"
    rw [sl_ptr put_same, put_drop hp, cutA_map, cutA_to _ hm.1]
    exact q _ ⟨fun n hn => hns n (List.mem_of_mem_take hn), by rw [List.length_take]; omega⟩
/-- what one making leaves -/
def madeP (Γ : Ctx) : Int × Int × List TRow × Cf × Nat → PV := fun (m, s, rows, c, n) => .tup [tapeP Γ m s rows, .tup [.int m, .int s], .lst (rows.map rowP), cfP c, .int (n : Nat)]
def MadeOk : Int × Int × List TRow × Cf × Nat → Prop := fun (m, s, rows, c, n) => Mach m s rows ∧ CfOk m s c ∧ c.l.length ≤ 6 ∧ c.r.length ≤ 6 ∧ n ≤ 60
end My
set_option Elab.async false
set_option linter.all false
set_option maxRecDepth 100000
namespace My
open PySem PL TM PD
local macro_rules | `(tactic| walk_at "hd") => `(tactic| repeat (first | (with_reducible refine w_cons ?_) | ((with_reducible refine' w_var ?_ ?_); rotate_left; exact rfl) | (with_reducible refine w_seq ?_) | (with_reducible refine w_C ?_) | (with_reducible refine w_nil ?_) | (with_reducible refine w_bin ?_) | (with_reducible refine w_tup ?_) | ((with_reducible refine' w_pset ?_ ?_); rotate_left; (intro x; first | with_reducible exact set_h0 | with_reducible exact set_h1 | with_reducible exact set_h2 | with_reducible exact set_h3 | with_reducible exact set_h4 | with_reducible exact set_h5 | with_reducible exact set_h6 | with_reducible exact set_h7 | with_reducible exact set_h8 | with_reducible exact set_h9 | with_reducible exact set_h10 | with_reducible exact set_h11 | with_reducible exact set_h12 | with_reducible exact set_h13 | with_reducible exact set_h14 | with_reducible exact set_h15 | with_reducible exact set_h16 | with_reducible exact set_h17 | with_reducible exact set_h18 | with_reducible exact set_h19 | with_reducible exact set_h20 | with_reducible exact set_h21 | with_reducible exact set_h22 | with_reducible exact set_h23 | with_reducible exact set_h24 | with_reducible exact set_h25)) | (with_reducible refine w_add ?_) | (with_reducible refine w_test ?_) | (with_reducible refine w_kB ?_) | (with_reducible refine w_call ?_) | (with_reducible refine w_ifs ?_) | (with_reducible refine w_next ?_) | ((with_reducible refine' w_gname ?_ ?_); rotate_left; (first | with_reducible exact set_h0 | with_reducible exact set_h1 | with_reducible exact set_h2 | with_reducible exact set_h3 | with_reducible exact set_h4 | with_reducible exact set_h5 | with_reducible exact set_h6 | with_reducible exact set_h7 | with_reducible exact set_h8 | with_reducible exact set_h9 | with_reducible exact set_h10 | with_reducible exact set_h11 | with_reducible exact set_h12 | with_reducible exact set_h13 | with_reducible exact set_h14 | with_reducible exact set_h15 | with_reducible exact set_h16 | with_reducible exact set_h17 | with_reducible exact set_h18 | with_reducible exact set_h19 | with_reducible exact set_h20 | with_reducible exact set_h21 | with_reducible exact set_h22 | with_reducible exact set_h23 | with_reducible exact set_h24 | with_reducible exact set_h25)) | (with_reducible refine w_ret ?_) | (with_reducible refine w_fld ?_) | (with_reducible refine w_ifd ?_) | ((with_reducible refine' w_fldO ?_ ?_); rotate_left; exact rfl) | (with_reducible refine w_gcons ?_) | (with_reducible refine w_callB ?_) | (with_reducible refine w_on1 ?_) | ((with_reducible refine w_mod ?_ ?_); (first | decide | omega)) | (with_reducible refine w_int ?_) | (with_reducible refine w_drop ?_) | (with_reducible refine w_for ?_) | (with_reducible refine w_I0 ?_) | (with_reducible refine w_ifF ?_) | (with_reducible refine w_part ?_) | (with_reducible refine w_partI ?_) | (with_reducible refine w_sl ?_) | (with_reducible refine w_nop ?_) | (with_reducible refine w_ifT ?_) | (with_reducible refine w_R1 ?_) | ((with_reducible refine w_R1I ?_ ?_); (first | decide | omega)) | (with_reducible refine w_gnil ?_) | (with_reducible refine w_ixtup0 ?_) | (with_reducible refine w_ifn ?_) | (with_reducible refine w_asg ?_) | ((with_reducible refine w_gtup ?_ ?_); exact rfl) | (with_reducible refine w_eqInt ?_) | (with_reducible refine w_ixtup1 ?_) | (with_reducible refine w_or ?_) | (with_reducible refine w_not ?_) | (with_reducible refine w_in_non ?_) | (with_reducible refine w_lc ?_) | ((with_reducible refine w_div ?_ ?_); (first | decide | omega)) | (with_reducible refine w_neg ?_) | (with_reducible refine w_negI ?_) | (with_reducible refine w_eqStr ?_) | (with_reducible refine w_slT ?_) | (with_reducible refine w_lentup ?_) | (with_reducible refine w_tupL ?_) | (with_reducible refine w_lstF ?_) | (with_reducible refine w_app ?_) | (with_reducible refine w_tisN ?_) | (with_reducible refine w_meth ?_) | ((with_reducible refine w_objO ?_ ?_); exact rfl) | (with_reducible refine w_lstM ?_) | (with_reducible refine w_ixtup2 ?_) | (with_reducible refine w_retF ?_) | (with_reducible refine w_iL ?_) | (with_reducible refine w_make ?_) | (with_reducible refine w_fldS ?_) | (with_reducible refine w_rg1 ?_) | (with_reducible refine w_dnew ?_) | (with_reducible refine w_gsubD ?_) | (with_reducible refine w_lst ?_) | (with_reducible refine w_ixtup3 ?_) | (with_reducible refine w_lenlst ?_) | (with_reducible refine w_and ?_) | (with_reducible refine w_in_tup ?_) | ((with_reducible refine' w_aug ?_ ?_ ?_); rotate_left 2; exact rfl; (intro x; first | with_reducible exact set_h0 | with_reducible exact set_h1 | with_reducible exact set_h2 | with_reducible exact set_h3 | with_reducible exact set_h4 | with_reducible exact set_h5 | with_reducible exact set_h6 | with_reducible exact set_h7 | with_reducible exact set_h8 | with_reducible exact set_h9 | with_reducible exact set_h10 | with_reducible exact set_h11 | with_reducible exact set_h12 | with_reducible exact set_h13 | with_reducible exact set_h14 | with_reducible exact set_h15 | with_reducible exact set_h16 | with_reducible exact set_h17 | with_reducible exact set_h18 | with_reducible exact set_h19 | with_reducible exact set_h20 | with_reducible exact set_h21 | with_reducible exact set_h22 | with_reducible exact set_h23 | with_reducible exact set_h24 | with_reducible exact set_h25)) | (with_reducible refine w_lc2 ?_) | (with_reducible refine w_lcT ?_) | (with_reducible refine w_on2 ?_) | (with_reducible refine w_neInt ?_) | (with_reducible refine w_slL ?_) | (with_reducible refine w_tnotN ?_) | (with_reducible refine w_iT ?_) | (with_reducible refine w_tupF ?_) | (with_reducible refine w_par ?_) | ((with_reducible refine' w_kpar ?_ ?_ ?_); rotate_left 2; (first | with_reducible exact set_h0 | with_reducible exact set_h1 | with_reducible exact set_h2 | with_reducible exact set_h3 | with_reducible exact set_h4 | with_reducible exact set_h5 | with_reducible exact set_h6 | with_reducible exact set_h7 | with_reducible exact set_h8 | with_reducible exact set_h9 | with_reducible exact set_h10 | with_reducible exact set_h11 | with_reducible exact set_h12 | with_reducible exact set_h13 | with_reducible exact set_h14 | with_reducible exact set_h15 | with_reducible exact set_h16 | with_reducible exact set_h17 | with_reducible exact set_h18 | with_reducible exact set_h19 | with_reducible exact set_h20 | with_reducible exact set_h21 | with_reducible exact set_h22 | with_reducible exact set_h23 | with_reducible exact set_h24 | with_reducible exact set_h25); (first | with_reducible exact set_h0 | with_reducible exact set_h1 | with_reducible exact set_h2 | with_reducible exact set_h3 | with_reducible exact set_h4 | with_reducible exact set_h5 | with_reducible exact set_h6 | with_reducible exact set_h7 | with_reducible exact set_h8 | with_reducible exact set_h9 | with_reducible exact set_h10 | with_reducible exact set_h11 | with_reducible exact set_h12 | with_reducible exact set_h13 | with_reducible exact set_h14 | with_reducible exact set_h15 | with_reducible exact set_h16 | with_reducible exact set_h17 | with_reducible exact set_h18 | with_reducible exact set_h19 | with_reducible exact set_h20 | with_reducible exact set_h21 | with_reducible exact set_h22 | with_reducible exact set_h23 | with_reducible exact set_h24 | with_reducible exact set_h25)) | (with_reducible refine w_rg2 ?_) | (with_reducible refine w_asT ?_) | (with_reducible refine w_kTp ?_) | (with_reducible refine w_pdget2 ?_) | (with_reducible refine w_zT ?_) | (with_reducible refine w_dct ?_) | (with_reducible refine w_listL ?_) | (with_reducible refine w_andV ?_) | (with_reducible refine w_isN ?_) | (with_reducible refine w_cnt ?_) | (with_reducible refine w_retD ?_) | ((with_reducible refine' w_isi_i ?_ ?_); rotate_left; (first | with_reducible exact kit_ib | with_reducible exact kit_ii | with_reducible exact kit_it | with_reducible exact kit_il | with_reducible exact kit_is)) | ((with_reducible refine' w_isi_t ?_ ?_); rotate_left; (first | with_reducible exact kit_tb | with_reducible exact kit_ti | with_reducible exact kit_tt | with_reducible exact kit_tl | with_reducible exact kit_ts)) | (with_reducible refine w_lc2M ?_) | (with_reducible refine w_lcM ?_) | (with_reducible refine w_catN ?_) | (with_reducible refine w_tcnt ?_) | (with_reducible refine w_kTCnt ?_) | (with_reducible refine w_catR ?_) | (with_reducible refine w_tidx ?_) | (with_reducible refine w_pdget1 ?_) | (with_reducible refine w_rv ?_) | (with_reducible refine w_z ?_) | (with_reducible refine w_gsub ?_) | (with_reducible refine w_ixlst0 ?_) | (with_reducible refine w_ixlst1 ?_) | (with_reducible refine w_slS ?_) | (with_reducible refine w_abs ?_) | (with_reducible refine w_listML ?_) | (with_reducible refine w_notB ?_) | (with_reducible refine w_brk ?_) | (with_reducible refine w_fzE ?_) | ((with_reducible refine' w_isi_l ?_ ?_); rotate_left; (first | with_reducible exact kit_lb | with_reducible exact kit_li | with_reducible exact kit_lt | with_reducible exact kit_ll | with_reducible exact kit_ls)) | (with_reducible refine w_join ?_) | (with_reducible refine w_kStr ?_) | (with_reducible refine w_zL ?_) | (with_reducible refine w_tupRg ?_) | ((with_reducible refine w_shr ?_ ?_); (first | decide | omega)) | (with_reducible refine w_retN ?_) | (with_reducible refine w_dnx ?_) | (with_reducible refine w_drt ?_) | (with_reducible refine w_dbk ?_) | (with_reducible refine w_eqBl ?_) | (with_reducible refine w_neBl ?_) | (with_reducible refine w_neStr ?_) | (with_reducible refine w_ixlst2 ?_) | (with_reducible refine w_ixlst3 ?_) | (with_reducible refine w_ixtup4 ?_) | (with_reducible refine w_ixlst4 ?_) | (with_reducible refine w_ixtup5 ?_) | (with_reducible refine w_ixlst5 ?_) | (with_reducible refine w_need ?_) | (with_reducible refine w_lenscr ?_) | (with_reducible refine w_listT ?_) | (with_reducible refine w_listS ?_) | (with_reducible refine w_tupT ?_) | (with_reducible refine w_listMT ?_) | (with_reducible refine w_orV ?_) | (with_reducible refine w_notV ?_) | (with_reducible refine w_if ?_) | (with_reducible refine w_notN ?_) | (with_reducible refine w_in_int ?_) | (with_reducible refine w_in_lst ?_) | (with_reducible refine w_in_ptr ?_) | (with_reducible refine w_in_str ?_) | (with_reducible refine w_in_bl ?_) | (with_reducible refine w_isB ?_) | (with_reducible refine w_lstFs ?_) | (with_reducible refine w_R2 ?_) | (with_reducible refine w_forM ?_) | (with_reducible refine w_lcnil ?_) | (with_reducible refine w_lccons ?_) | (with_reducible refine w_retFD ?_) | (with_reducible refine w_raise ?_) | (with_reducible refine w_raiseF ?_) | (with_reducible refine w_tryF ?_) | (with_reducible refine w_isFp ?_) | (with_reducible refine w_isFx ?_) | ((with_reducible refine' w_xf ?_ ?_); rotate_left; exact rfl) | (with_reducible refine w_try ?_) | (with_reducible refine w_lstRg ?_) | (with_reducible refine w_pop ?_) | (with_reducible refine w_rev ?_) | (with_reducible refine w_revL ?_) | (with_reducible refine w_forE ?_) | ((with_reducible refine' w_isi_b ?_ ?_); rotate_left; (first | with_reducible exact kit_bb | with_reducible exact kit_bi | with_reducible exact kit_bt | with_reducible exact kit_bl | with_reducible exact kit_bs)) | ((with_reducible refine' w_isi_s ?_ ?_); rotate_left; (first | with_reducible exact kit_sb | with_reducible exact kit_si | with_reducible exact kit_st | with_reducible exact kit_sl | with_reducible exact kit_ss)) | ((with_reducible refine' w_isi_n ?_ ?_); rotate_left; (first | with_reducible exact kit_nb | with_reducible exact kit_ni | with_reducible exact kit_nt | with_reducible exact kit_nl | with_reducible exact kit_ns))))
local macro_rules | `(tactic| walk_at "st") => `(tactic| simp only [pstart, List.map_cons, List.map_nil, List.cons_append, List.nil_append, List.length_cons, List.length_nil, List.replicate, Nat.reduceSub, Nat.reduceAdd, Nat.zero_add])
/-! where a machine forgets -/
theorem k_meet (Γ : Ctx) : Keeps (t_meet Γ) 2 2 (sp_meet Γ) := by
  rintro xs M Q E hl ⟨m, s, a, b, rfl, ha, hb, q⟩
  walk_at "st"
  unfold t_meet
  cases a with
  | none =>
    rw [show rowP none = PV.non from rfl]
    walk_at "hd"
    exact q
  | some a =>
    obtain ⟨w, v, t⟩ := a
    cases b with
    | none =>
      rw [show rowP (some (w, v, t)) = PV.tup [.int w, .int v, .int t] from rfl, show rowP none = PV.non from rfl]
      walk_at "hd"
      exact q
    | some b =>
      obtain ⟨w', v', t'⟩ := b
      rw [show rowP (some (w, v, t)) = PV.tup [.int w, .int v, .int t] from rfl, show rowP (some (w', v', t')) = PV.tup [.int w', .int v', .int t'] from rfl]
      walk_at "hd"
      have q' : Q (.bl (decide (t = t') && (!decide (v = v') || decide (w = w')))) M := q
      by_cases ht : t = t'
      · rw [decide_eq_true ht, Bool.true_and] at q'
        rw [if_pos ht]
        walk_at "hd"
        by_cases hv : v = v'
        · rw [decide_eq_true hv] at q'
          rw [if_pos hv]
          walk_at "hd"
          exact q'
        · rw [decide_eq_false hv] at q'
          rw [if_neg hv]
          exact q'
      · rw [decide_eq_false ht] at q'
        rw [if_neg ht]
        walk_at "hd"
        exact q'
theorem lst_nn {p : Addr} {xs : List PV} {M : Mem} : lstOf (M.put p (.lst xs)) (.ptr p) ≠ none := by
  rw [lstOf_ptr put_same]
  exact Option.some_ne_none _
theorem w_appG {p : Addr} {xs : List PV} {x : PV} {M : Mem} {Q : PQ} (hl : xs.length < 1000000) (h : Q .non (M.put p (.lst (xs ++ [x])))) : kApp (.ptr p) x (M.put p (.lst xs)) Q := by
  rw [app_ptr put_same (line_lt' (by omega)), put_put]
  exact h
theorem pl_flat (m : Nat) (hm : 0 < m) : ∀ s : Nat, ((List.range s).map fun (q : Nat) => (List.range m).map fun (a : Nat) => PV.tup [.int ((0 : Int) + (q : Int)), .int ((0 : Int) + (a : Int))]).flatten = (List.range (s * m)).map (plP (m : Int))
  | 0 => by rw [Nat.zero_mul]; rfl
  | s + 1 => by
    rw [List.range_succ, List.map_append, List.flatten_append, pl_flat m hm s, Nat.succ_mul, List.range_add, List.map_append]
    congr 1
    rw [List.map_singleton, List.flatten_singleton, List.map_map]
    refine List.map_congr_left fun a ha => ?_
    have ha := List.mem_range.mp ha
    have e1 : ((s * m + a : Nat) : Int) / (m : Int) = (s : Int) := by
      rw [← Int.natCast_ediv, Nat.mul_comm, Nat.mul_add_div hm, Nat.div_eq_of_lt ha, Nat.add_zero]
    have e2 : ((s * m + a : Nat) : Int) % (m : Int) = (a : Int) := by
      rw [← Int.natCast_emod, Nat.mul_comm, Nat.mul_add_mod, Nat.mod_eq_of_lt ha]
    show PV.tup [.int (0 + (s : Int)), .int (0 + (a : Int))] = .tup [.int (((s * m + a : Nat) : Int) / (m : Int)), .int (((s * m + a : Nat) : Int) % (m : Int))]
    rw [e1, e2, Int.zero_add, Int.zero_add]
def prP (m : Int) (p : Nat × Nat) : PV := .tup [plP m p.1, plP m p.2]
def clI (rows : List TRow) (i : Nat) : List (Nat × Nat) := ((List.range i).map (clN rows)).flatten
def clJ (rows : List TRow) (i j : Nat) : List (Nat × Nat) := ((List.range j).filter fun j => meetT (rowN rows i) (rowN rows (i + 1 + j))).map fun j => (i, i + 1 + j)
theorem clI_succ (rows : List TRow) (i : Nat) : clI rows (i + 1) = clI rows i ++ clJ rows i (rows.length - (i + 1)) := by
  unfold clI
  rw [List.range_succ, List.map_append, List.flatten_append, List.map_singleton, List.flatten_singleton]
  rfl
theorem clJ_succ (rows : List TRow) (i j : Nat) : clJ rows i (j + 1) = clJ rows i j ++ if meetT (rowN rows i) (rowN rows (i + 1 + j)) = true then [(i, i + 1 + j)] else [] := by
  unfold clJ
  rw [List.range_succ, List.filter_append, List.map_append]
  congr 1
  by_cases h : meetT (rowN rows i) (rowN rows (i + 1 + j)) = true
  · rw [if_pos h]; simp [h]
  · rw [if_neg h]; simp [h]
theorem clJ_len (rows : List TRow) (i j : Nat) : (clJ rows i j).length ≤ j := by
  unfold clJ
  rw [List.length_map]
  exact Nat.le_trans (List.length_filter_le _ _) (by rw [List.length_range]; exact Nat.le_refl _)
theorem clI_len (rows : List TRow) : ∀ i : Nat, (clI rows i).length ≤ i * rows.length
  | 0 => Nat.zero_le _
  | i + 1 => by
    rw [clI_succ, List.length_append, Nat.succ_mul]
    have := clI_len rows i
    have := clJ_len rows i (rows.length - (i + 1))
    omega
theorem clL_eq (rows : List TRow) : clL rows = clI rows rows.length := rfl
theorem rowN_at {rows : List TRow} {i : Nat} (h : i < rows.length) : L2.atI (rows.map rowP) (i : Int) = some (rowP (rowN rows i)) := by
  rw [at_pos _ (by omega), Int.toNat_natCast, List.getElem?_map]
  unfold rowN
  rw [List.getElem?_eq_getElem h]
  rfl
theorem rowN_ok {m s : Int} {rows : List TRow} {i : Nat} (hm : Mach m s rows) (h : i < rows.length) : RowOk m s (rowN rows i) := by
  unfold rowN
  rw [List.getElem?_eq_getElem h]
  exact hm.ok _ (List.getElem_mem h)
theorem n320 {m s : Int} {rows : List TRow} (hm : Mach m s rows) : rows.length ≤ 320 := by
  have h1 := hm.m8; have h2 := hm.s40; have h3 := hm.len; have h4 := hm.m2; have h5 := hm.s1
  have : m * s ≤ 8 * 40 := Int.mul_le_mul h1 h2 (by omega) (by omega)
  omega
theorem plA {m : Int} {n i : Nat} (h : i < n) : L2.atI ((List.range n).map (plP m)) (i : Int) = some (plP m i) := by
  rw [at_pos _ (by omega), Int.toNat_natCast, List.getElem?_map, List.getElem?_range h]
  rfl
theorem k_clashes (Γ : Ctx) : Keeps (t_clashes Γ) 1 8 (sp_clashes Γ) := by
  rintro xs M Q E hl ⟨m, s, rows, rfl, hm, q⟩
  obtain ⟨m, rfl⟩ := Int.eq_ofNat_of_zero_le (a := m) (by have := hm.m2; omega)
  obtain ⟨s, rfl⟩ := Int.eq_ofNat_of_zero_le (a := s) (by have := hm.s1; omega)
  have m2 := hm.m2
  have m8 := hm.m8
  have s40 := hm.s40
  have n3 := n320 hm
  have hln : rows.length = s * m := by have := hm.len; rw [Int.mul_comm] at this; exact_mod_cast this
  walk_at "st"
  unfold t_clashes tapeP tapeF
  walk_at "hd"
  refine ⟨m, s, rows, rfl, fun p hp => ?_⟩
  walk_at "hd"
  rw [Int.toNat_natCast]
  unfold rngP
  refine lcO_map (fun k : Nat => PV.int ((0 : Int) + (k : Int))) (fun j : Nat => PV.int ((0 : Int) + (j : Int))) (fun _ => List.range m) (fun k j => PV.tup [.int ((0 : Int) + (k : Int)), .int ((0 : Int) + (j : Int))]) _ [] (line_lt ?_) (fun k hk R hR => ?_) (fun k hk j hj R hR => ?_) ?_
  · rw [pl_flat m (by omega), List.length_map, List.length_range, ← hln]
    simp
    omega
  · walk_at "hd"
    rw [Int.toNat_natCast]
    exact hR
  · walk_at "hd"
    exact hR
  rw [pl_flat m (by omega), List.nil_append, ← hln]
  walk_at "hd"
  intro f hf
  have nfp : f ≠ p := fun z => by rw [z, put_same] at hf; cases hf
  have hf' : M f = none := by rw [put_ne nfp] at hf; exact hf
  walk_at "hd"
  refine w_lenP (by rw [put_ne (Ne.symm nfp), put_same]) ?_
  walk_at "hd"
  rw [List.length_map]
  walk_at "hd"
  rw [Int.toNat_natCast]
  refine for_rng (fun i σ M' => ∃ x4 x5, σ = [some (.obj Γ.Tape [(Str.ofString "marks", .int (m : Int)), (Str.ofString "states", .int (s : Int)), (Str.ofString "_rows", .lst (rows.map rowP))]), some (.ptr p), some (.lst ((List.range rows.length).map (plP (m : Int)))), some (.ptr f), x4, x5, none, none] ∧ M' = (M.put p (.lst (rows.map rowP))).put f (.lst ((clI rows i).map (prP m)))) ⟨_, _, rfl, rfl⟩ ?_ ?_
  · rintro i σ M' K hi ⟨x4, x5, rfl, rfl⟩ hK
    have hci := clI_len rows i
    have hmul : i * rows.length ≤ 320 * 320 := Nat.mul_le_mul (by omega) n3
    unfold b_clashes_1
    walk_at "hd"
    refine w_lenP (by rw [put_ne (Ne.symm nfp), put_same]) ?_
    walk_at "hd"
    rw [List.length_map, Int.zero_add]
    refine ⟨⟨by omega, by omega, by omega, by omega⟩, ?_⟩
    rw [show (((rows.length : Nat) : Int) - ((i : Int) + 1)).toNat = rows.length - (i + 1) by omega]
    refine for_rng (fun j σ M' => ∃ x5, σ = [some (.obj Γ.Tape [(Str.ofString "marks", .int (m : Int)), (Str.ofString "states", .int (s : Int)), (Str.ofString "_rows", .lst (rows.map rowP))]), some (.ptr p), some (.lst ((List.range rows.length).map (plP (m : Int)))), some (.ptr f), some (.int (i : Int)), x5, none, none] ∧ M' = (M.put p (.lst (rows.map rowP))).put f (.lst ((clI rows i ++ clJ rows i j).map (prP m)))) ⟨_, rfl, by rw [show clJ rows i 0 = [] from rfl, List.append_nil]⟩ ?_ ?_
    · rintro j σ M' K hj ⟨x5, rfl, rfl⟩ hK
      have hcj := clJ_len rows i j
      have sn := clJ_succ rows i j
      have hij : i + 1 + j < rows.length := by omega
      have eij : (i : Int) + 1 + (j : Int) = ((i + 1 + j : Nat) : Int) := by omega
      rw [eij]
      unfold b_clashes_2
      walk_at "hd"
      refine w_ixP (by rw [put_ne (Ne.symm nfp), put_same]) (rowN_at hi) ?_
      walk_at "hd"
      refine w_ixP (by rw [put_ne (Ne.symm nfp), put_same]) (rowN_at hij) ?_
      walk_at "hd"
      refine ⟨m, s, _, _, rfl, rowN_ok hm hi, rowN_ok hm hij, ?_⟩
      walk_at "hd"
      by_cases h : meetT (rowN rows i) (rowN rows (i + 1 + j)) = true
      · rw [if_pos h] at sn ⊢
        walk_at "hd"
        refine ⟨lst_nn, ?_⟩
        walk_at "hd"
        refine w_ixL (plA hi) ?_
        walk_at "hd"
        refine w_ixL (plA hij) ?_
        walk_at "hd"
        refine w_appG (by rw [List.length_map, List.length_append]; omega) ?_
        walk_at "hd"
        exact hK _ _ ⟨_, rfl, by rw [sn, ← List.append_assoc, List.map_append (l₂ := [_])]; rfl⟩
      · rw [if_neg h] at sn ⊢
        walk_at "hd"
        exact hK _ _ ⟨_, rfl, by rw [sn, List.append_nil]⟩
    · rintro σ M' ⟨x5, rfl, rfl⟩
      exact hK _ _ ⟨_, _, rfl, by rw [clI_succ]⟩
  · rintro σ M' ⟨x4, x5, rfl, rfl⟩
    walk_at "hd"
    refine w_fzP put_same ?_
    rw [put_drop hf]
    exact q _ (Ext.put hp)
theorem k_forgets (Γ : Ctx) : Keeps (t_forgets Γ) 1 1 (sp_forgets Γ) := by
  rintro xs M Q E hl ⟨m, s, rows, rfl, hm, q⟩
  walk_at "st"
  unfold t_forgets
  walk_at "hd"
  refine ⟨m, s, rows, rfl, hm, fun M' he => ?_⟩
  walk_at "hd"
  have := q M' he
  rw [show (clV m rows).length = (clL rows).length from List.length_map _]
  exact (by simpa using this)
theorem k_law_clashes (Γ : Ctx) : Keeps (t_law_clashes Γ) 2 7 (sp_law_clashes Γ) := by
  rintro xs M Q E hl ⟨m, s, rows, rfl, hm, q⟩
  have m2 := hm.m2
  have m8 := hm.m8
  have n3 := n320 hm
  walk_at "st"
  unfold t_law_clashes
  walk_at "hd"
  intro f hf
  walk_at "hd"
  rw [List.length_map]
  walk_at "hd"
  rw [Int.toNat_natCast]
  refine for_rng (fun i σ M' => ∃ x3 x4 x5 x6, σ = [some (.lst (rows.map rowP)), some (.tup [.int m, .int s]), some (.ptr f), x3, x4, x5, x6] ∧ M' = M.put f (.lst ((clI rows i).map (prP m)))) ⟨_, _, _, _, rfl, rfl⟩ ?_ ?_
  · rintro i σ M' K hi ⟨x3, x4, x5, x6, rfl, rfl⟩ hK
    have hci := clI_len rows i
    have hmul : i * rows.length ≤ 320 * 320 := Nat.mul_le_mul (by omega) n3
    unfold b_law_clashes_1
    walk_at "hd"
    rw [List.length_map, Int.zero_add]
    refine ⟨⟨by omega, by omega, by omega, by omega⟩, ?_⟩
    rw [show (((rows.length : Nat) : Int) - ((i : Int) + 1)).toNat = rows.length - (i + 1) by omega]
    refine for_rng (fun j σ M' => ∃ x4 x5 x6, σ = [some (.lst (rows.map rowP)), some (.tup [.int m, .int s]), some (.ptr f), some (.int (i : Int)), x4, x5, x6] ∧ M' = M.put f (.lst ((clI rows i ++ clJ rows i j).map (prP m)))) ⟨_, _, _, rfl, by rw [show clJ rows i 0 = [] from rfl, List.append_nil]⟩ ?_ ?_
    · rintro j σ M' K hj ⟨x4, x5, x6, rfl, rfl⟩ hK
      have hcj := clJ_len rows i j
      have sn := clJ_succ rows i j
      have hij : i + 1 + j < rows.length := by omega
      have eij : (i : Int) + 1 + (j : Int) = ((i + 1 + j : Nat) : Int) := by omega
      rw [eij]
      unfold b_law_clashes_2
      walk_at "hd"
      refine w_ixL (rowN_at hi) ?_
      walk_at "hd"
      refine w_ixL (rowN_at hij) ?_
      cases ea : rowN rows i with
      | none =>
        rw [ea] at sn
        rw [show rowP none = PV.non from rfl]
        walk_at "hd"
        exact hK _ _ ⟨_, _, _, rfl, by rw [sn]; simp [meetT]⟩
      | some a =>
        obtain ⟨w, v, t⟩ := a
        rw [show rowP (some (w, v, t)) = PV.tup [.int w, .int v, .int t] from rfl]
        cases eb : rowN rows (i + 1 + j) with
        | none =>
          rw [ea, eb] at sn
          rw [show rowP none = PV.non from rfl]
          walk_at "hd"
          exact hK _ _ ⟨_, _, _, rfl, by rw [sn]; simp [meetT]⟩
        | some b =>
          obtain ⟨w', v', t'⟩ := b
          rw [ea, eb] at sn
          rw [show rowP (some (w', v', t')) = PV.tup [.int w', .int v', .int t'] from rfl]
          walk_at "hd"
          by_cases ht : t = t'
          · rw [if_pos ht]
            walk_at "hd"
            by_cases hv : v = v'
            · rw [if_pos hv]
              walk_at "hd"
              by_cases hw : w = w'
              · rw [if_pos hw]
                walk_at "hd"
                rw [if_pos (show meetT (some (w, v, t)) (some (w', v', t')) = true by unfold meetT; simp [ht, hw])] at sn
                refine ⟨lst_nn, ?_⟩
                walk_at "hd"
                refine w_appG (by rw [List.length_map, List.length_append]; omega) ?_
                walk_at "hd"
                exact hK _ _ ⟨_, _, _, rfl, by rw [sn, ← List.append_assoc, List.map_append (l₂ := [_])]; rfl⟩
              · rw [if_neg hw]
                walk_at "hd"
                rw [if_neg (show ¬ meetT (some (w, v, t)) (some (w', v', t')) = true by unfold meetT; simp [hv, hw]), List.append_nil] at sn
                exact hK _ _ ⟨_, _, _, rfl, by rw [sn]⟩
            · rw [if_neg hv]
              walk_at "hd"
              rw [if_pos (show meetT (some (w, v, t)) (some (w', v', t')) = true by unfold meetT; simp [ht, hv])] at sn
              refine ⟨lst_nn, ?_⟩
              walk_at "hd"
              refine w_appG (by rw [List.length_map, List.length_append]; omega) ?_
              walk_at "hd"
              exact hK _ _ ⟨_, _, _, rfl, by rw [sn, ← List.append_assoc, List.map_append (l₂ := [_])]; rfl⟩
          · rw [if_neg ht]
            walk_at "hd"
            rw [if_neg (show ¬ meetT (some (w, v, t)) (some (w', v', t')) = true by unfold meetT; simp [ht]), List.append_nil] at sn
            exact hK _ _ ⟨_, _, _, rfl, by rw [sn]⟩
    · rintro σ M' ⟨x4, x5, x6, rfl, rfl⟩
      exact hK _ _ ⟨_, _, _, _, rfl, by rw [clI_succ]⟩
  · rintro σ M' ⟨x3, x4, x5, x6, rfl, rfl⟩
    walk_at "hd"
    refine w_fzP put_same ?_
    rw [put_drop hf]
    exact q
/-! what leads to a configuration -/
theorem push_hd {l : List Int} (h : trimL l = l) : push (hd l) l.tail = l := by
  cases l with
  | nil => rfl
  | cons a r =>
    show (if a = 0 ∧ r = [] then [] else a :: r) = a :: r
    by_cases e : a = 0 ∧ r = []
    · obtain ⟨rfl, rfl⟩ := e
      exact absurd h (by decide)
    · rw [if_neg e]
theorem hd_push (a : Int) (r : List Int) : hd (push a r) = a := by
  unfold push
  by_cases e : a = 0 ∧ r = []
  · rw [if_pos e, e.1]; rfl
  · rw [if_neg e]; rfl
theorem tail_push (a : Int) (r : List Int) : (push a r).tail = r := by
  unfold push
  by_cases e : a = 0 ∧ r = []
  · rw [if_pos e, e.2]; rfl
  · rw [if_neg e]; rfl
theorem push_len (a : Int) (r : List Int) : (push a r).length ≤ r.length + 1 := by
  unfold push
  split
  · exact Nat.zero_le _
  · exact Nat.le_refl _
theorem k_of (m : Int) (k : Nat) : ((k : Int) / m) * m + (k : Int) % m = (k : Int) := by
  rw [Int.mul_comm]
  exact Int.mul_ediv_add_emod _ _
theorem rowAt_k (rows : List TRow) (m : Int) (k : Nat) : rowAt rows m ((k : Int) / m) ((k : Int) % m) = rowN rows k := by
  unfold rowAt rowN
  rw [k_of, Int.toNat_natCast]
theorem k_bounds {m s : Int} {rows : List TRow} {k : Nat} (hm : Mach m s rows) (h : k < rows.length) : (0 ≤ (k : Int) / m ∧ (k : Int) / m < s) ∧ (0 ≤ (k : Int) % m ∧ (k : Int) % m < m) := by
  have h2 := hm.m2
  have hl := hm.len
  have hk : (k : Int) < s * m := by rw [Int.mul_comm]; omega
  exact ⟨⟨Int.ediv_nonneg (by omega) (by omega), Int.ediv_lt_of_lt_mul (by omega) hk⟩, Int.emod_nonneg _ (by omega), Int.emod_lt_of_pos _ (by omega)⟩
theorem bk_step {m s : Int} {rows : List TRow} {c d : Cf} {k : Nat} (hm : Mach m s rows) (hc : CfOk m s c) (h : k < rows.length) (e : bkC m k c (rowN rows k) = some d) : stepM rows m d = some c ∧ CfOk m s d ∧ d.l.length ≤ c.l.length + 1 ∧ d.r.length ≤ c.r.length + 1 := by
  obtain ⟨hk1, hk2⟩ := k_bounds hm h
  have ro := rowN_ok hm h
  have hr := rowAt_k rows m k
  obtain ⟨cq, cl, ca, cr⟩ := c
  obtain ⟨q0, qs, a0, am, hcl, hcr⟩ := hc
  dsimp only at q0 qs a0 am hcl hcr
  cases ea : rowN rows k with
  | none => rw [ea] at e; cases e
  | some x =>
    obtain ⟨w, v, t⟩ := x
    rw [ea] at e ro hr
    obtain ⟨hw, hv, ht⟩ := ro
    unfold bkC at e
    dsimp only at e
    have m2 := hm.m2
    by_cases h1 : t = cq
    · rw [if_pos h1] at e
      by_cases h2 : v = 1
      · rw [if_pos h2] at e
        by_cases h3 : hd cl = w
        · rw [if_pos h3] at e
          cases e
          unfold stepM
          dsimp only
          rw [hr]
          dsimp only
          rw [if_pos h2, ← h3, push_hd hcl.tr, hd_push, tail_push, h1]
          exact ⟨rfl, ⟨hk1.1, hk1.2, hk2.1, hk2.2, hcl.tail, hcr.push ⟨a0, am⟩⟩, by rw [List.length_tail]; omega, push_len _ _⟩
        · rw [if_neg h3] at e; cases e
      · rw [if_neg h2] at e
        by_cases h3 : hd cr = w
        · rw [if_pos h3] at e
          cases e
          unfold stepM
          dsimp only
          rw [hr]
          dsimp only
          rw [if_neg h2, ← h3, push_hd hcr.tr, hd_push, tail_push, h1]
          exact ⟨rfl, ⟨hk1.1, hk1.2, hk2.1, hk2.2, hcl.push ⟨a0, am⟩, hcr.tail⟩, push_len _ _, by rw [List.length_tail]; omega⟩
        · rw [if_neg h3] at e; cases e
    · rw [if_neg h1] at e; cases e
theorem bk_meet {m s m1 : Int} {c : Cf} {i j : Nat} {a b : TRow} (ra : RowOk m s a) (rb : RowOk m s b) (ha : (bkC m1 i c a).isSome = true) (hb : (bkC m1 j c b).isSome = true) : meetT a b = true := by
  cases a with
  | none => cases ha
  | some x =>
    cases b with
    | none => cases hb
    | some y =>
      obtain ⟨w, v, t⟩ := x
      obtain ⟨w', v', t'⟩ := y
      unfold bkC at ha hb
      dsimp only at ha hb
      by_cases h1 : t = c.q
      · by_cases h2 : t' = c.q
        · rw [if_pos h1] at ha
          rw [if_pos h2] at hb
          show (decide (t = t') && (!decide (v = v') || decide (w = w'))) = true
          rw [decide_eq_true (h1.trans h2.symm), Bool.true_and]
          by_cases h3 : v = v'
          · subst h3
            have : w = w' := by
              by_cases h4 : v = 1
              · rw [if_pos h4] at ha hb
                by_cases h5 : hd c.l = w
                · by_cases h6 : hd c.l = w'
                  · exact h5.symm.trans h6
                  · rw [if_neg h6] at hb; cases hb
                · rw [if_neg h5] at ha; cases ha
              · rw [if_neg h4] at ha hb
                by_cases h5 : hd c.r = w
                · by_cases h6 : hd c.r = w'
                  · exact h5.symm.trans h6
                  · rw [if_neg h6] at hb; cases hb
                · rw [if_neg h5] at ha; cases ha
            rw [decide_eq_true this, Bool.or_true]
          · rw [decide_eq_false h3]; rfl
        · rw [if_neg h2] at hb; cases hb
      · rw [if_neg h1] at ha; cases ha
theorem fm1 {α : Type} (f : Nat → Option α) : ∀ n : Nat, 0 < ((List.range n).filterMap f).length → ∃ i, i < n ∧ (f i).isSome = true
  | 0, h => absurd h (Nat.not_lt_zero _)
  | n + 1, h => by
    rw [List.range_succ, List.filterMap_append, List.length_append] at h
    by_cases e : (f n).isSome = true
    · exact ⟨n, by omega, e⟩
    · have : f n = none := by cases hh : f n with | none => rfl | some x => rw [hh] at e; exact absurd rfl e
      rw [show ([n] : List Nat).filterMap f = [] by simp [this]] at h
      obtain ⟨i, h1, h2⟩ := fm1 f n h
      exact ⟨i, by omega, h2⟩
theorem fm2 {α : Type} (f : Nat → Option α) : ∀ n : Nat, 1 < ((List.range n).filterMap f).length → ∃ i j, i < j ∧ j < n ∧ (f i).isSome = true ∧ (f j).isSome = true
  | 0, h => absurd h (Nat.not_lt_zero _)
  | n + 1, h => by
    rw [List.range_succ, List.filterMap_append, List.length_append] at h
    by_cases e : (f n).isSome = true
    · have : (([n] : List Nat).filterMap f).length ≤ 1 := List.length_filterMap_le _ _
      obtain ⟨i, h1, h2⟩ := fm1 f n (by omega)
      exact ⟨i, n, h1, by omega, h2, e⟩
    · have : f n = none := by cases hh : f n with | none => rfl | some x => rw [hh] at e; exact absurd rfl e
      rw [show ([n] : List Nat).filterMap f = [] by simp [this]] at h
      obtain ⟨i, j, h1, h2, h3⟩ := fm2 f n h
      exact ⟨i, j, h1, by omega, h3⟩
theorem fm2' {α : Type} (f : Nat → Option α) {i j n : Nat} (h1 : i < j) (h2 : j < n) (hi : (f i).isSome = true) (hj : (f j).isSome = true) : 2 ≤ ((List.range n).filterMap f).length := by
  have s1 : List.Sublist [i] (List.range j) := List.singleton_sublist.mpr (List.mem_range.mpr h1)
  have s2 : List.Sublist ([i] ++ [j]) (List.range j ++ [j]) := List.Sublist.append s1 (List.Sublist.refl _)
  rw [← List.range_succ] at s2
  have s3 : List.Sublist ([i] ++ [j]) (List.range n) := s2.trans (List.range_sublist.mpr (by omega))
  have s4 := (s3.filterMap f).length_le
  obtain ⟨x, ex⟩ := Option.isSome_iff_exists.mp hi
  obtain ⟨y, ey⟩ := Option.isSome_iff_exists.mp hj
  rw [show ([i] ++ [j]).filterMap f = [x, y] by simp [ex, ey]] at s4
  exact s4
theorem mem_clN {rows : List TRow} {i j : Nat} (h1 : i < j) (h2 : j < rows.length) (h : meetT (rowN rows i) (rowN rows j) = true) : (i, j) ∈ clL rows := by
  unfold clL
  refine List.mem_flatten.mpr ⟨clN rows i, List.mem_map.mpr ⟨i, List.mem_range.mpr (by omega), rfl⟩, ?_⟩
  unfold clN
  refine List.mem_map.mpr ⟨j - (i + 1), List.mem_filter.mpr ⟨List.mem_range.mpr (by omega), ?_⟩, ?_⟩
  · rw [show i + 1 + (j - (i + 1)) = j by omega]; exact h
  · rw [show i + 1 + (j - (i + 1)) = j by omega]
theorem of_clL {rows : List TRow} {p : Nat × Nat} (h : p ∈ clL rows) : p.1 < p.2 ∧ p.2 < rows.length ∧ meetT (rowN rows p.1) (rowN rows p.2) = true := by
  unfold clL at h
  obtain ⟨l, h1, h2⟩ := List.mem_flatten.mp h
  obtain ⟨i, h3, rfl⟩ := List.mem_map.mp h1
  unfold clN at h2
  obtain ⟨j, h4, rfl⟩ := List.mem_map.mp h2
  obtain ⟨h5, h6⟩ := List.mem_filter.mp h4
  have h7 := List.mem_range.mp h5
  exact ⟨by show i < i + 1 + j; omega, by show i + 1 + j < _; omega, h6⟩
theorem hd_trim1 (x : Int) : hd (trimL [x]) = x := by
  by_cases h : x = 0
  · subst h; rfl
  · rw [show ([x] : List Int) = [] ++ [x] from rfl, trimL_snoc [] h]; rfl
theorem tw_bk {m s m1 : Int} {a b : TRow} (ra : RowOk m s a) (rb : RowOk m s b) (h : meetT a b = true) (i j : Nat) : (bkC m1 i (twC a b) a).isSome = true ∧ (bkC m1 j (twC a b) b).isSome = true := by
  cases a with
  | none => cases h
  | some x =>
    cases b with
    | none => obtain ⟨w, v, t⟩ := x; cases h
    | some y =>
      obtain ⟨w, v, t⟩ := x
      obtain ⟨w', v', t'⟩ := y
      unfold meetT at h
      dsimp only at h
      obtain ⟨h1, h2⟩ := Bool.and_eq_true_iff.mp h
      have h1 := of_decide_eq_true h1
      subst h1
      have hv := ra.2.1
      have hv' := rb.2.1
      unfold bkC twC
      rcases hv with rfl | rfl <;> rcases hv' with rfl | rfl
      · have : w = w' := by simpa using h2
        subst this
        simp [hd_trim1]
      · simp [hd_trim1]
      · simp [hd_trim1]
      · have : w = w' := by simpa using h2
        subst this
        simp [hd_trim1]
theorem tw_ok {m s : Int} {rows : List TRow} {i j : Nat} (hm : Mach m s rows) (hi : i < rows.length) (hj : j < rows.length) (h : meetT (rowN rows i) (rowN rows j) = true) : CfOk m s (twC (rowN rows i) (rowN rows j)) ∧ (twC (rowN rows i) (rowN rows j)).l.length ≤ 1 ∧ (twC (rowN rows i) (rowN rows j)).r.length ≤ 1 := by
  have ra := rowN_ok hm hi
  have rb := rowN_ok hm hj
  have m2 := hm.m2
  have s1 := hm.s1
  generalize rowN rows i = a at h ra ⊢
  generalize rowN rows j = b at h rb ⊢
  cases a with
  | none => cases h
  | some x =>
    cases b with
    | none => obtain ⟨w, v, t⟩ := x; cases h
    | some y =>
      obtain ⟨w, v, t⟩ := x
      obtain ⟨w', v', t'⟩ := y
      obtain ⟨hw, hv, ht⟩ := ra
      obtain ⟨hw', hv', _⟩ := rb
      unfold twC
      dsimp only
      refine ⟨⟨ht.1, ht.2, Int.le_refl _, by show (0 : Int) < m; omega, SideOk.trim ?_, SideOk.trim ?_⟩, trimL_len _, trimL_len _⟩
      · intro x hx
        have hx := List.mem_singleton.mp hx
        subst hx
        repeat' split
        all_goals omega
      · intro x hx
        have hx := List.mem_singleton.mp hx
        subst hx
        repeat' split
        all_goals omega
/-! the list of them, in order -/
def cfD (c : Cf) : PyData := .tuple [.int c.q, .tuple (c.l.map .int), .int c.a, .tuple (c.r.map .int)]
theorem toDs_ints : ∀ xs : List Int, toDs (xs.map PV.int) = some (xs.map PyData.int)
  | [] => rfl
  | x :: xs => by
    show (match toD (PV.int x), toDs (xs.map PV.int) with | some d, some ds => some (d :: ds) | _, _ => none) = _
    rw [toDs_ints xs]
    rfl
theorem toD_cf (c : Cf) : toD (cfP c) = some (cfD c) := by
  have h1 : toD (tI c.l) = some (.tuple (c.l.map .int)) := by show (toDs (c.l.map PV.int)).map PyData.tuple = _; rw [toDs_ints]; rfl
  have h2 : toD (tI c.r) = some (.tuple (c.r.map .int)) := by show (toDs (c.r.map PV.int)).map PyData.tuple = _; rw [toDs_ints]; rfl
  show (toDs [.int c.q, tI c.l, .int c.a, tI c.r]).map PyData.tuple = _
  simp only [toDs, h1, h2]
  rfl
theorem toDs_cf : ∀ cs : List Cf, toDs (cs.map cfP) = some (cs.map cfD)
  | [] => rfl
  | c :: cs => by
    show (match toD (cfP c), toDs (cs.map cfP) with | some d, some ds => some (d :: ds) | _, _ => none) = _
    rw [toDs_cf cs, toD_cf]
    rfl
theorem bkS_eq (m : Int) (rows : List TRow) (c : Cf) : bkS m rows c = (bkL m rows c).mergeSort (PySem.W.dataLe false cfD) := by
  unfold bkS
  rw [show (fun d => (toD (cfP d)).getD .none) = cfD from funext fun d => by rw [toD_cf]; rfl]
theorem sort_cf (cs : List Cf) : sortZ (cs.map cfP) (cs.map cfD) = (cs.mergeSort (PySem.W.dataLe false cfD)).map cfP := by
  unfold sortZ
  rw [List.zip_map', ← PySem.W.sort_maps (r := PySem.W.dataLe false cfD) (s := PySem.W.dataLe false Prod.snd) (fun d : Cf => (cfP d, cfD d)) (fun _ _ _ _ => rfl), List.map_map]
  rfl
theorem alike_ints : ∀ xs ys : List Int, PySem.W.alikeAll (xs.map PyData.int) (ys.map PyData.int) = true
  | [], _ => by simp [PySem.W.alikeAll]
  | x :: xs, [] => by simp [PySem.W.alikeAll]
  | x :: xs, y :: ys => by simp [PySem.W.alikeAll, PySem.W.alike, alike_ints xs ys]
theorem alike_cf (c d : Cf) : PySem.W.alike (cfD c) (cfD d) = true := by
  simp [cfD, PySem.W.alikeAll, PySem.W.alike, alike_ints]
theorem depth_ints : ∀ xs : List Int, PyData.depthAll (xs.map PyData.int) = 0
  | [] => rfl
  | x :: xs => by
    show max (PyData.depth (.int x)) (PyData.depthAll (xs.map PyData.int)) = 0
    rw [depth_ints xs]
    rfl
theorem cfD_depth (c : Cf) : (cfD c).depth ≤ 60 := by
  simp [cfD, PyData.depth, PyData.depthAll, depth_ints]
theorem w_sortC {f : Addr} {cs : List Cf} {M : Mem} {Q : PQ} (e : M f = some (.lst (cs.map cfP))) (h : Q (.lst ((cs.mergeSort (PySem.W.dataLe false cfD)).map cfP)) M) : kSortD (.ptr f) M Q := by
  refine w_sortD (xs := cs.map cfP) (ds := cs.map cfD) (lstOf_ptr e) (toDs_cf cs) ?_ (Or.inl ?_) ?_ (by rw [sort_cf]; exact h)
  · intro d hd d' hd'
    obtain ⟨c, _, rfl⟩ := List.mem_map.mp hd
    obtain ⟨c', _, rfl⟩ := List.mem_map.mp hd'
    exact alike_cf c c'
  · intro d hd
    obtain ⟨c, _, rfl⟩ := List.mem_map.mp hd
    exact ⟨_, _, rfl⟩
  · intro d hd
    obtain ⟨c, _, rfl⟩ := List.mem_map.mp hd
    exact cfD_depth c
def bkI (m : Int) (rows : List TRow) (c : Cf) (n : Nat) : List Cf := (List.range n).filterMap fun k => bkC m k c (rowN rows k)
theorem bkI_succ (m : Int) (rows : List TRow) (c : Cf) (n : Nat) : bkI m rows c (n + 1) = bkI m rows c n ++ (match bkC m n c (rowN rows n) with | some d => [d] | none => []) := by
  unfold bkI
  rw [List.range_succ, List.filterMap_append]
  congr 1
  cases h : bkC m n c (rowN rows n) with
  | none => simp [h]
  | some d => simp [h]
theorem bkI_len (m : Int) (rows : List TRow) (c : Cf) (n : Nat) : (bkI m rows c n).length ≤ n := by
  unfold bkI
  exact Nat.le_trans (List.length_filterMap_le _ _) (by rw [List.length_range]; exact Nat.le_refl _)
theorem k_before (Γ : Ctx) : Keeps (t_before Γ) 2 9 (sp_before Γ) := by
  rintro xs M Q E hl ⟨m, s, rows, c, rfl, hm, hc, hl1, hl2, q⟩
  obtain ⟨m, rfl⟩ := Int.eq_ofNat_of_zero_le (a := m) (by have := hm.m2; omega)
  obtain ⟨s, rfl⟩ := Int.eq_ofNat_of_zero_le (a := s) (by have := hm.s1; omega)
  have m2 := hm.m2
  have m8 := hm.m8
  have s40 := hm.s40
  have n3 := n320 hm
  have hln : rows.length = s * m := by have := hm.len; rw [Int.mul_comm] at this; exact_mod_cast this
  walk_at "st"
  unfold t_before tapeP tapeF cfP
  walk_at "hd"
  intro f hf
  walk_at "hd"
  rw [Int.toNat_natCast]
  refine for_rng (fun i σ M' => ∃ x3 x4 x5 x6 x7 x8, σ = [some (.obj Γ.Tape [(Str.ofString "marks", .int (m : Int)), (Str.ofString "states", .int (s : Int)), (Str.ofString "_rows", .lst (rows.map rowP))]), some (.tup [.int c.q, tI c.l, .int c.a, tI c.r]), some (.ptr f), x3, x4, x5, x6, x7, x8] ∧ M' = M.put f (.lst ((bkI m rows c (i * m)).map cfP))) ⟨_, _, _, _, _, _, rfl, by rw [Nat.zero_mul]; rfl⟩ ?_ ?_
  · rintro i σ M' K hi ⟨x3, x4, x5, x6, x7, x8, rfl, rfl⟩ hK
    have hmul : (i + 1) * m ≤ s * m := Nat.mul_le_mul_right m (by omega)
    rw [Nat.succ_mul] at hmul
    unfold b_before_1
    walk_at "hd"
    rw [Int.toNat_natCast, Int.zero_add]
    refine for_rng (fun j σ M' => ∃ x4 x5 x6 x7 x8, σ = [some (.obj Γ.Tape [(Str.ofString "marks", .int (m : Int)), (Str.ofString "states", .int (s : Int)), (Str.ofString "_rows", .lst (rows.map rowP))]), some (.tup [.int c.q, tI c.l, .int c.a, tI c.r]), some (.ptr f), some (.int (i : Int)), x4, x5, x6, x7, x8] ∧ M' = M.put f (.lst ((bkI m rows c (i * m + j)).map cfP))) ⟨_, _, _, _, _, rfl, rfl⟩ ?_ ?_
    · rintro j σ M' K hj ⟨x4, x5, x6, x7, x8, rfl, rfl⟩ hK
      have hb := bkI_len m rows c (i * m + j)
      have hk : i * m + j < rows.length := by omega
      have sn := bkI_succ m rows c (i * m + j)
      rw [Nat.add_assoc] at sn
      have e1 : ((i * m + j : Nat) : Int) / (m : Int) = (i : Int) := by
        rw [← Int.natCast_ediv, Nat.mul_comm, Nat.mul_add_div (by omega), Nat.div_eq_of_lt hj, Nat.add_zero]
      have e2 : ((i * m + j : Nat) : Int) % (m : Int) = (j : Int) := by
        rw [← Int.natCast_emod, Nat.mul_comm, Nat.mul_add_mod, Nat.mod_eq_of_lt hj]
      have er : rowAt rows m (i : Int) (j : Int) = rowN rows (i * m + j) := by rw [← rowAt_k rows m (i * m + j), e1, e2]
      have ro := rowN_ok hm hk
      unfold bkC at sn
      rw [e1, e2] at sn
      rw [Int.zero_add]
      unfold b_before_2
      walk_at "hd"
      refine ⟨m, s, rows, _, _, rfl, hm, by omega, by omega, ?_⟩
      rw [er]
      cases ea : rowN rows (i * m + j) with
      | none =>
        rw [ea] at sn
        rw [show rowP none = PV.non from rfl]
        walk_at "hd"
        exact hK _ _ ⟨_, _, _, _, _, rfl, by rw [sn, List.append_nil]⟩
      | some x =>
        obtain ⟨w, v, t⟩ := x
        rw [ea] at sn ro
        obtain ⟨hw, hv, ht⟩ := ro
        dsimp only at sn
        rw [show rowP (some (w, v, t)) = PV.tup [.int w, .int v, .int t] from rfl]
        walk_at "hd"
        by_cases h1 : t = c.q
        · rw [if_pos h1] at sn
          rw [if_pos h1]
          walk_at "hd"
          refine ⟨c.l, c.a, c.r, -v, rfl, by omega, by omega, by omega, ?_⟩
          rcases hv with rfl | rfl
          · rw [if_neg (by decide)]
            rw [if_pos rfl] at sn
            walk_at "hd"
            by_cases h3 : hd c.l = w
            · rw [if_pos h3] at sn ⊢
              walk_at "hd"
              refine ⟨lst_nn, ?_⟩
              walk_at "hd"
              refine w_appG (by rw [List.length_map]; omega) ?_
              walk_at "hd"
              exact hK _ _ ⟨_, _, _, _, _, rfl, by rw [sn, List.map_append (l₂ := [_])]; rfl⟩
            · rw [if_neg h3] at sn ⊢
              walk_at "hd"
              exact hK _ _ ⟨_, _, _, _, _, rfl, by rw [sn, List.append_nil]⟩
          · rw [if_pos (by decide)]
            rw [if_neg (by decide)] at sn
            walk_at "hd"
            by_cases h3 : hd c.r = w
            · rw [if_pos h3] at sn ⊢
              walk_at "hd"
              refine ⟨lst_nn, ?_⟩
              walk_at "hd"
              refine w_appG (by rw [List.length_map]; omega) ?_
              walk_at "hd"
              exact hK _ _ ⟨_, _, _, _, _, rfl, by rw [sn, List.map_append (l₂ := [_])]; rfl⟩
            · rw [if_neg h3] at sn ⊢
              walk_at "hd"
              exact hK _ _ ⟨_, _, _, _, _, rfl, by rw [sn, List.append_nil]⟩
        · rw [if_neg h1] at sn
          rw [if_neg h1]
          walk_at "hd"
          exact hK _ _ ⟨_, _, _, _, _, rfl, by rw [sn, List.append_nil]⟩
    · rintro σ M' ⟨x4, x5, x6, x7, x8, rfl, rfl⟩
      exact hK _ _ ⟨_, _, _, _, _, _, rfl, by rw [Nat.succ_mul]⟩
  · rintro σ M' ⟨x3, x4, x5, x6, x7, x8, rfl, rfl⟩
    walk_at "hd"
    refine w_sortC put_same ?_
    rw [← hln]
    rw [bkS_eq] at q
    walk_at "hd"
    show Q _ ((M.put f (MO.lst ((bkI (m : Int) rows c rows.length).map cfP))).drop f)
    rw [put_drop hf]
    exact q
def restBf (Γ : Ctx) : PTS := (pIfS (pTest (pBin oEq (pBin oIx (pVar 5) (pVar 6)) (pBin oIx (pBin oIx (pVar 0) (pVar 4)) (pC (.int 0))))) (pSeq (pSet 5 (pBin oAdd (pBin oAdd (pSl (pVar 5) pNoPart (pPart (pVar 6))) (pTup (pCons (pBin oMod (pVar 4) (pBin oIx (pVar 1) (pC (.int 0)))) pNil))) (pSl (pVar 5) (pPart (pBin oAdd (pVar 6) (pC (.int 1)))) pNoPart))) (pDrop (pApp (pVar 3) (pTup (pCons (pBin oDiv (pVar 4) (pBin oIx (pVar 1) (pC (.int 0)))) (pCons (pCall (sp_law_trim Γ) (pCons (pTupRev (pSl (pVar 5) pNoPart (pPart (pVar 6)))) pNil)) (pCons (pBin oIx (pVar 5) (pVar 6)) (pCons (pCall (sp_law_trim Γ) (pCons (pSl (pVar 5) (pPart (pBin oAdd (pVar 6) (pC (.int 1)))) pNoPart) pNil)) pNil)))))))) pNext)
theorem restBf_eq (Γ : Ctx) : (pIfS (pTest (pBin oEq (pBin oIx (pVar 5) (pVar 6)) (pBin oIx (pBin oIx (pVar 0) (pVar 4)) (pC (.int 0))))) (pSeq (pSet 5 (pBin oAdd (pBin oAdd (pSl (pVar 5) pNoPart (pPart (pVar 6))) (pTup (pCons (pBin oMod (pVar 4) (pBin oIx (pVar 1) (pC (.int 0)))) pNil))) (pSl (pVar 5) (pPart (pBin oAdd (pVar 6) (pC (.int 1)))) pNoPart))) (pDrop (pApp (pVar 3) (pTup (pCons (pBin oDiv (pVar 4) (pBin oIx (pVar 1) (pC (.int 0)))) (pCons (pCall (sp_law_trim Γ) (pCons (pTupRev (pSl (pVar 5) pNoPart (pPart (pVar 6)))) pNil)) (pCons (pBin oIx (pVar 5) (pVar 6)) (pCons (pCall (sp_law_trim Γ) (pCons (pSl (pVar 5) (pPart (pBin oAdd (pVar 6) (pC (.int 1)))) pNoPart) pNil)) pNil)))))))) pNext) = restBf Γ := rfl
/-- the end of the body, where the tape stands as A, x, B -/
theorem k_restBf (Γ : Ctx) {m s : Int} {rows : List TRow} {c : Cf} {k : Nat} {w v t : Int} {A B : List Int} {x : Int} {M : Mem} {dn db dc : PNx} {dr : PQ} {de : PXK} {cs : List Cf} (hm : Mach m s rows) (hk : k < rows.length) (e : rowN rows k = some (w, v, t))
    (hA : ∀ y ∈ A, 0 ≤ y) (hB : ∀ y ∈ B, 0 ≤ y) (lA : A.length < 5000) (lB : B.length < 5000) (lc : cs.length < 1000) {f : Addr}
    (h1 : x = w → dn [some (.lst (rows.map rowP)), some (.tup [.int m, .int s]), some (cfP c), some (.ptr f), some (.int (k : Int)), some (tI (A.reverse ++ ((k : Int) % m) :: B)), some (.int (A.length : Nat))] (M.put f (.lst ((cs ++ [Cf.mk ((k : Int) / m) (trimL A) ((k : Int) % m) (trimL B)]).map cfP))))
    (h2 : x ≠ w → dn [some (.lst (rows.map rowP)), some (.tup [.int m, .int s]), some (cfP c), some (.ptr f), some (.int (k : Int)), some (tI (A.reverse ++ x :: B)), some (.int (A.length : Nat))] (M.put f (.lst (cs.map cfP)))) :
    restBf Γ (PEnds.mk dn dr de db dc) [some (.lst (rows.map rowP)), some (.tup [.int m, .int s]), some (cfP c), some (.ptr f), some (.int (k : Int)), some (tI (A.reverse ++ x :: B)), some (.int (A.length : Nat))] (M.put f (.lst (cs.map cfP))) := by
  have m2 := hm.m2
  have m8 := hm.m8
  have kb := k_bounds hm hk
  have n3 := n320 hm
  have hrow := rowN_at hk
  rw [e] at hrow
  have gt : ∀ y : Int, (A.reverse ++ y :: B)[A.length]? = some y := fun y => by
    rw [List.getElem?_append_right (by rw [List.length_reverse]; exact Nat.le_refl _), List.length_reverse, Nat.sub_self]; rfl
  have tk : ∀ y : Int, (A.reverse ++ y :: B).take A.length = A.reverse := fun y => by
    rw [List.take_append, List.length_reverse, List.take_of_length_le (by rw [List.length_reverse]; exact Nat.le_refl _), Nat.sub_self]; simp
  have dr' : ∀ y : Int, (A.reverse ++ y :: B).drop (A.length + 1) = B := fun y => by
    rw [List.drop_append, List.length_reverse, List.drop_of_length_le (by rw [List.length_reverse]; omega), Nat.add_sub_cancel_left]; rfl
  unfold restBf
  walk_at "hd"
  rw [ix_tI (x := x) (by omega) (by rw [Int.toNat_natCast]; exact gt x)]
  walk_at "hd"
  refine w_ixL hrow ?_
  rw [show rowP (some (w, v, t)) = PV.tup [.int w, .int v, .int t] from rfl]
  walk_at "hd"
  by_cases hx : x = w
  · rw [if_pos hx]
    have h1 := h1 hx
    walk_at "hd"
    rw [sl_tI_to (by omega), Int.toNat_natCast, tk]
    walk_at "hd"
    rw [show PV.tup [PV.int ((k : Int) % m)] = tI [(k : Int) % m] from rfl, add_tI]
    refine ⟨line_lt (by rw [List.length_reverse]; simp only [List.length_singleton]; omega), ?_⟩
    walk_at "hd"
    rw [sl_tI_from (by omega), show (((A.length : Nat) : Int) + 1).toNat = A.length + 1 from by omega, dr']
    walk_at "hd"
    rw [add_tI]
    refine ⟨line_lt (by rw [List.length_append, List.length_reverse]; simp only [List.length_singleton]; omega), ?_⟩
    rw [show A.reverse ++ [(k : Int) % m] ++ B = A.reverse ++ ((k : Int) % m) :: B by simp]
    walk_at "hd"
    refine ⟨lst_nn, ?_⟩
    walk_at "hd"
    unfold pTupRev
    walk_at "hd"
    rw [sl_tI_to (by omega), Int.toNat_natCast, tk, tupF_tI, need_some, tI_rev, List.reverse_reverse]
    walk_at "hd"
    refine c_trim hA (by omega) ?_
    walk_at "hd"
    rw [ix_tI (x := (k : Int) % m) (by omega) (by rw [Int.toNat_natCast]; exact gt _)]
    walk_at "hd"
    rw [sl_tI_from (by omega), show (((A.length : Nat) : Int) + 1).toNat = A.length + 1 from by omega, dr']
    walk_at "hd"
    refine c_trim hB (by omega) ?_
    walk_at "hd"
    refine w_appG (by rw [List.length_map]; omega) ?_
    walk_at "hd"
    rw [List.map_append] at h1
    exact h1
  · rw [if_neg hx]
    walk_at "hd"
    exact h2 hx
theorem k_law_before (Γ : Ctx) : Keeps (t_law_before Γ) 3 7 (sp_law_before Γ) := by
  rintro xs M Q E hl ⟨m, s, rows, c, rfl, hm, hc, hl1, hl2, q⟩
  have m2 := hm.m2
  have m8 := hm.m8
  have n3 := n320 hm
  obtain ⟨cq, cl, ca, cr⟩ := c
  have hc' := hc
  obtain ⟨q0, qs, a0, am, hcl, hcr⟩ := hc'
  dsimp only at q0 qs a0 am hcl hcr hl1 hl2
  have hcl0 : ∀ x ∈ cl, 0 ≤ x := fun x hx => (hcl.mm x hx).1
  have hcr0 : ∀ x ∈ cr, 0 ≤ x := fun x hx => (hcr.mm x hx).1
  walk_at "st"
  unfold t_law_before
  walk_at "hd"
  intro f hf
  walk_at "hd"
  rw [List.length_map]
  walk_at "hd"
  rw [Int.toNat_natCast]
  refine for_rng (fun i σ M' => ∃ x4 x5 x6, σ = [some (.lst (rows.map rowP)), some (.tup [.int m, .int s]), some (cfP ⟨cq, cl, ca, cr⟩), some (.ptr f), x4, x5, x6] ∧ M' = M.put f (.lst ((bkI m rows ⟨cq, cl, ca, cr⟩ i).map cfP))) ⟨_, _, _, rfl, rfl⟩ ?_ ?_
  · rintro i σ M' K hi ⟨x4, x5, x6, rfl, rfl⟩ hK
    have hb := bkI_len m rows ⟨cq, cl, ca, cr⟩ i
    have sn := bkI_succ m rows ⟨cq, cl, ca, cr⟩ i
    have ro := rowN_ok hm hi
    have hrow := rowN_at hi
    rw [Int.zero_add]
    unfold b_law_before_1
    rw [restBf_eq]
    walk_at "hd"
    refine w_ixL hrow ?_
    cases e : rowN rows i with
    | none =>
      rw [e] at sn
      rw [show rowP none = PV.non from rfl]
      walk_at "hd"
      exact hK _ _ ⟨_, _, _, rfl, by rw [sn]; simp [bkC]⟩
    | some y =>
      obtain ⟨w, v, t⟩ := y
      rw [e] at sn ro hrow
      obtain ⟨hw, hv, ht⟩ := ro
      rw [show rowP (some (w, v, t)) = PV.tup [.int w, .int v, .int t] from rfl]
      walk_at "hd"
      refine w_ixL hrow ?_
      rw [show rowP (some (w, v, t)) = PV.tup [.int w, .int v, .int t] from rfl]
      unfold bkC at sn
      dsimp only at sn
      have ecf : cfP ⟨cq, cl, ca, cr⟩ = .tup [.int cq, tI cl, .int ca, tI cr] := rfl
      have fin : ∀ {A B : List Int} {x : Int}, (∀ y ∈ A, 0 ≤ y) → (∀ y ∈ B, 0 ≤ y) → A.length < 5000 → B.length < 5000 → bkI m rows ⟨cq, cl, ca, cr⟩ (i + 1) = bkI m rows ⟨cq, cl, ca, cr⟩ i ++ (match (if x = w then some (Cf.mk ((i : Int) / m) (trimL A) ((i : Int) % m) (trimL B)) else none) with | some d => [d] | none => []) → ∀ {db dc : PNx} {dr : PQ} {de : PXK},
          restBf Γ (PEnds.mk K dr de db dc) [some (.lst (rows.map rowP)), some (.tup [.int m, .int s]), some (cfP ⟨cq, cl, ca, cr⟩), some (.ptr f), some (.int (i : Int)), some (tI (A.reverse ++ x :: B)), some (.int (A.length : Nat))] (M.put f (.lst ((bkI m rows ⟨cq, cl, ca, cr⟩ i).map cfP))) := by
        intro A B x hA hB lA lB sn2 db dc dr de
        refine k_restBf Γ hm hi e hA hB lA lB (by omega) (fun hx => hK _ _ ⟨_, _, _, rfl, ?_⟩) (fun hx => hK _ _ ⟨_, _, _, rfl, ?_⟩)
        · rw [sn2, if_pos hx]
        · rw [sn2, if_neg hx, List.append_nil]
      rw [ecf]
      walk_at "hd"
      by_cases h1 : t = cq
      · rw [if_pos h1] at sn ⊢
        walk_at "hd"
        unfold pTupRev
        walk_at "hd"
        rw [tupF_tI, need_some, tI_rev]
        walk_at "hd"
        rw [show PV.tup [PV.int ca] = tI [ca] from rfl, add_tI]
        refine ⟨line_lt (by rw [List.length_reverse]; simp only [List.length_singleton]; omega), ?_⟩
        walk_at "hd"
        rw [add_tI]
        refine ⟨line_lt (by rw [List.length_append, List.length_reverse]; simp only [List.length_singleton]; omega), ?_⟩
        rw [show cl.reverse ++ [ca] ++ cr = cl.reverse ++ ca :: cr by simp]
        walk_at "hd"
        rw [len_tI]
        walk_at "hd"
        refine w_ixL hrow ?_
        rw [show rowP (some (w, v, t)) = PV.tup [.int w, .int v, .int t] from rfl]
        walk_at "hd"
        rcases hv with rfl | rfl
        · rw [if_pos rfl] at sn
          cases cl with
          | nil =>
            rw [if_pos (by simp)]
            walk_at "hd"
            rw [show PV.tup [PV.int 0] = tI [0] from rfl, add_tI]
            refine ⟨line_lt (by simp only [List.length_singleton, List.reverse_nil, List.nil_append, List.length_cons]; omega), ?_⟩
            walk_at "hd"
            rw [len_tI]
            walk_at "hd"
            rw [if_neg (by simp only [List.length_append, List.length_cons, List.length_nil, List.reverse_nil]; omega)]
            walk_at "hd"
            exact fin (A := []) (x := 0) (B := ca :: cr) (fun _ h => nomatch h) (fun y hy => by rcases List.mem_cons.mp hy with e | e; exact e ▸ a0; exact hcr0 y e) (by decide) (by simp only [List.length_cons]; omega) (by rw [sn, trim_push hcr]; rfl)
          | cons b l =>
            rw [if_neg (by simp only [List.length_cons]; omega)]
            walk_at "hd"
            rw [len_tI]
            walk_at "hd"
            rw [if_neg (by simp only [List.length_append, List.length_reverse, List.length_cons]; omega)]
            rw [show (((b :: l).length : Nat) : Int) - 1 = ((l.length : Nat) : Int) by simp only [List.length_cons]; omega, show (b :: l).reverse ++ ca :: cr = l.reverse ++ b :: ca :: cr by simp]
            walk_at "hd"
            exact fin (A := l) (x := b) (B := ca :: cr) (fun y hy => hcl0 y (List.mem_cons_of_mem _ hy)) (fun y hy => by rcases List.mem_cons.mp hy with e | e; exact e ▸ a0; exact hcr0 y e) (by simp only [List.length_cons] at hl1; omega) (by simp only [List.length_cons]; omega) (by rw [sn, trim_push hcr, show trimL l = l from hcl.tail.tr]; rfl)
        · rw [if_neg (by decide)] at sn
          rw [if_neg (by omega)]
          walk_at "hd"
          rw [len_tI]
          walk_at "hd"
          have hA : ∀ y ∈ ca :: cl, 0 ≤ y := fun y hy => by rcases List.mem_cons.mp hy with e | e; exact e ▸ a0; exact hcl0 y e
          cases cr with
          | nil =>
            rw [if_pos (by simp only [List.length_append, List.length_reverse, List.length_cons, List.length_nil]; omega)]
            walk_at "hd"
            rw [show PV.tup [PV.int 0] = tI [0] from rfl, add_tI]
            refine ⟨line_lt (by simp only [List.length_append, List.length_reverse, List.length_cons, List.length_nil]; omega), ?_⟩
            rw [show ((cl.length : Nat) : Int) - -1 = (((ca :: cl).length : Nat) : Int) by simp only [List.length_cons]; omega, show cl.reverse ++ [ca] ++ [0] = (ca :: cl).reverse ++ 0 :: [] by simp]
            walk_at "hd"
            exact fin (A := ca :: cl) (x := 0) (B := []) hA (fun _ h => nomatch h) (by simp only [List.length_cons]; omega) (by decide) (by rw [sn, trim_push hcl]; rfl)
          | cons b r =>
            rw [if_neg (by simp only [List.length_append, List.length_reverse, List.length_cons]; omega)]
            rw [show ((cl.length : Nat) : Int) - -1 = (((ca :: cl).length : Nat) : Int) by simp only [List.length_cons]; omega, show cl.reverse ++ ca :: b :: r = (ca :: cl).reverse ++ b :: r by simp]
            walk_at "hd"
            exact fin (A := ca :: cl) (x := b) (B := r) hA (fun y hy => hcr0 y (List.mem_cons_of_mem _ hy)) (by simp only [List.length_cons]; omega) (by simp only [List.length_cons] at hl2; omega) (by rw [sn, trim_push hcl, show trimL r = r from hcr.tail.tr]; rfl)
      · rw [if_neg h1] at sn ⊢
        walk_at "hd"
        exact hK _ _ ⟨_, _, _, rfl, by rw [sn, List.append_nil]⟩
  · rintro σ M' ⟨x4, x5, x6, rfl, rfl⟩
    walk_at "hd"
    refine w_sortC put_same ?_
    rw [bkS_eq] at q
    show Q _ ((M.put f (MO.lst ((bkI m rows ⟨cq, cl, ca, cr⟩ rows.length).map cfP))).drop f)
    rw [put_drop hf]
    exact q
theorem k_law_two (Γ : Ctx) : Keeps (t_law_two Γ) 3 6 (sp_law_two Γ) := by
  rintro xs M Q E hl ⟨m, s, rows, i, j, rfl, hm, hi, hj, hmt, q⟩
  have m2 := hm.m2
  have m8 := hm.m8
  have s40 := hm.s40
  have ri := rowN_ok hm hi
  have rj := rowN_ok hm hj
  have bi := k_bounds hm hi
  have bj := k_bounds hm hj
  have ai := at_rows hm bi.1.1 bi.1.2 bi.2.1 bi.2.2
  have aj := at_rows hm bj.1.1 bj.1.2 bj.2.1 bj.2.2
  rw [rowAt_k] at ai aj
  walk_at "st"
  unfold t_law_two plP
  cases ea : rowN rows i with
  | none => rw [ea] at hmt; cases hmt
  | some x =>
    cases eb : rowN rows j with
    | none => rw [ea, eb] at hmt; obtain ⟨w, v, t⟩ := x; cases hmt
    | some y =>
      obtain ⟨w, v, t⟩ := x
      obtain ⟨w', v', t'⟩ := y
      rw [ea] at ri ai q
      rw [eb] at rj aj q
      rw [show rowP (some (w, v, t)) = PV.tup [.int w, .int v, .int t] from rfl] at ai
      rw [show rowP (some (w', v', t')) = PV.tup [.int w', .int v', .int t'] from rfl] at aj
      obtain ⟨hw, hv, ht⟩ := ri
      obtain ⟨hw', hv', ht'⟩ := rj
      walk_at "hd"
      refine ⟨cmul_ok hm bi.1.1 bi.1.2, ?_⟩
      walk_at "hd"
      refine w_ixL ai ?_
      walk_at "hd"
      refine ⟨cmul_ok hm bj.1.1 bj.1.2, ?_⟩
      walk_at "hd"
      refine w_ixL aj ?_
      walk_at "hd"
      intro p hp
      walk_at "hd"
      have fin : ∀ (l : List PV) (x : PV), Q x M → Q x (dropSlots [some (.lst (rows.map rowP)), some (.tup [.int m, .int s]), some (.tup [.tup [.int ((i : Int) / m), .int ((i : Int) % m)], .tup [.int ((j : Int) / m), .int ((j : Int) % m)]]), some (.tup [.int w, .int v, .int t]), some (.tup [.int w', .int v', .int t']), some (.ptr p)] [5] (M.put p (.lst l))) := fun l x h => by
        show Q x ((M.put p (.lst l)).drop p)
        rw [put_drop hp]
        exact h
      rcases hv with rfl | rfl
      · rcases hv' with rfl | rfl
        · rw [set_ptr put_same (by decide) (by first | decide | (rw [List.length_set]; decide)), put_put]
          walk_at "hd"
          rw [set_ptr put_same (by decide) (by first | decide | (rw [List.length_set]; decide)), put_put]
          walk_at "hd"
          refine w_ixP (x := .int (w')) put_same rfl ?_
          walk_at "hd"
          refine c_trim (ms := [w']) (fun x hx => by rw [List.mem_singleton.mp hx]; omega) (by show 1 < 1000000; decide) ?_
          walk_at "hd"
          refine w_ixP (x := .int (0)) put_same rfl ?_
          walk_at "hd"
          refine c_trim (ms := [0]) (fun x hx => by rw [List.mem_singleton.mp hx]; omega) (by show 1 < 1000000; decide) ?_
          walk_at "hd"
          have q' := q
          simp [twC, cfP] at q'
          exact fin _ _ q'
        · rw [set_ptr put_same (by decide) (by first | decide | (rw [List.length_set]; decide)), put_put]
          walk_at "hd"
          rw [set_ptr put_same (by decide) (by first | decide | (rw [List.length_set]; decide)), put_put]
          walk_at "hd"
          refine w_ixP (x := .int (w)) put_same rfl ?_
          walk_at "hd"
          refine c_trim (ms := [w]) (fun x hx => by rw [List.mem_singleton.mp hx]; omega) (by show 1 < 1000000; decide) ?_
          walk_at "hd"
          refine w_ixP (x := .int (w')) put_same rfl ?_
          walk_at "hd"
          refine c_trim (ms := [w']) (fun x hx => by rw [List.mem_singleton.mp hx]; omega) (by show 1 < 1000000; decide) ?_
          walk_at "hd"
          have q' := q
          simp [twC, cfP] at q'
          exact fin _ _ q'
      · rcases hv' with rfl | rfl
        · rw [set_ptr put_same (by decide) (by first | decide | (rw [List.length_set]; decide)), put_put]
          walk_at "hd"
          rw [set_ptr put_same (by decide) (by first | decide | (rw [List.length_set]; decide)), put_put]
          walk_at "hd"
          refine w_ixP (x := .int (w')) put_same rfl ?_
          walk_at "hd"
          refine c_trim (ms := [w']) (fun x hx => by rw [List.mem_singleton.mp hx]; omega) (by show 1 < 1000000; decide) ?_
          walk_at "hd"
          refine w_ixP (x := .int (w)) put_same rfl ?_
          walk_at "hd"
          refine c_trim (ms := [w]) (fun x hx => by rw [List.mem_singleton.mp hx]; omega) (by show 1 < 1000000; decide) ?_
          walk_at "hd"
          have q' := q
          simp [twC, cfP] at q'
          exact fin _ _ q'
        · rw [set_ptr put_same (by decide) (by first | decide | (rw [List.length_set]; decide)), put_put]
          walk_at "hd"
          rw [set_ptr put_same (by decide) (by first | decide | (rw [List.length_set]; decide)), put_put]
          walk_at "hd"
          refine w_ixP (x := .int (0)) put_same rfl ?_
          walk_at "hd"
          refine c_trim (ms := [0]) (fun x hx => by rw [List.mem_singleton.mp hx]; omega) (by show 1 < 1000000; decide) ?_
          walk_at "hd"
          refine w_ixP (x := .int (w')) put_same rfl ?_
          walk_at "hd"
          refine c_trim (ms := [w']) (fun x hx => by rw [List.mem_singleton.mp hx]; omega) (by show 1 < 1000000; decide) ?_
          walk_at "hd"
          have q' := q
          simp [twC, cfP] at q'
          exact fin _ _ q'

end My
set_option Elab.async false
set_option linter.all false
set_option maxRecDepth 100000
namespace My
open PySem PL TM PD
local macro_rules | `(tactic| walk_at "hd") => `(tactic| repeat (first | (with_reducible refine w_cons ?_) | ((with_reducible refine' w_var ?_ ?_); rotate_left; exact rfl) | (with_reducible refine w_seq ?_) | (with_reducible refine w_C ?_) | (with_reducible refine w_nil ?_) | (with_reducible refine w_bin ?_) | (with_reducible refine w_tup ?_) | ((with_reducible refine' w_pset ?_ ?_); rotate_left; (intro x; first | with_reducible exact set_h0 | with_reducible exact set_h1 | with_reducible exact set_h2 | with_reducible exact set_h3 | with_reducible exact set_h4 | with_reducible exact set_h5 | with_reducible exact set_h6 | with_reducible exact set_h7 | with_reducible exact set_h8 | with_reducible exact set_h9 | with_reducible exact set_h10 | with_reducible exact set_h11 | with_reducible exact set_h12 | with_reducible exact set_h13 | with_reducible exact set_h14 | with_reducible exact set_h15 | with_reducible exact set_h16 | with_reducible exact set_h17 | with_reducible exact set_h18 | with_reducible exact set_h19 | with_reducible exact set_h20 | with_reducible exact set_h21 | with_reducible exact set_h22 | with_reducible exact set_h23 | with_reducible exact set_h24 | with_reducible exact set_h25)) | (with_reducible refine w_add ?_) | (with_reducible refine w_test ?_) | (with_reducible refine w_kB ?_) | (with_reducible refine w_call ?_) | (with_reducible refine w_ifs ?_) | (with_reducible refine w_next ?_) | ((with_reducible refine' w_gname ?_ ?_); rotate_left; (first | with_reducible exact set_h0 | with_reducible exact set_h1 | with_reducible exact set_h2 | with_reducible exact set_h3 | with_reducible exact set_h4 | with_reducible exact set_h5 | with_reducible exact set_h6 | with_reducible exact set_h7 | with_reducible exact set_h8 | with_reducible exact set_h9 | with_reducible exact set_h10 | with_reducible exact set_h11 | with_reducible exact set_h12 | with_reducible exact set_h13 | with_reducible exact set_h14 | with_reducible exact set_h15 | with_reducible exact set_h16 | with_reducible exact set_h17 | with_reducible exact set_h18 | with_reducible exact set_h19 | with_reducible exact set_h20 | with_reducible exact set_h21 | with_reducible exact set_h22 | with_reducible exact set_h23 | with_reducible exact set_h24 | with_reducible exact set_h25)) | (with_reducible refine w_ret ?_) | (with_reducible refine w_fld ?_) | (with_reducible refine w_ifd ?_) | ((with_reducible refine' w_fldO ?_ ?_); rotate_left; exact rfl) | (with_reducible refine w_gcons ?_) | (with_reducible refine w_callB ?_) | (with_reducible refine w_on1 ?_) | ((with_reducible refine w_mod ?_ ?_); (first | decide | omega)) | (with_reducible refine w_int ?_) | (with_reducible refine w_drop ?_) | (with_reducible refine w_for ?_) | (with_reducible refine w_I0 ?_) | (with_reducible refine w_ifF ?_) | (with_reducible refine w_part ?_) | (with_reducible refine w_partI ?_) | (with_reducible refine w_sl ?_) | (with_reducible refine w_nop ?_) | (with_reducible refine w_ifT ?_) | (with_reducible refine w_R1 ?_) | ((with_reducible refine w_R1I ?_ ?_); (first | decide | omega)) | (with_reducible refine w_gnil ?_) | (with_reducible refine w_ixtup0 ?_) | (with_reducible refine w_ifn ?_) | (with_reducible refine w_asg ?_) | ((with_reducible refine w_gtup ?_ ?_); exact rfl) | (with_reducible refine w_eqInt ?_) | (with_reducible refine w_ixtup1 ?_) | (with_reducible refine w_or ?_) | (with_reducible refine w_not ?_) | (with_reducible refine w_in_non ?_) | (with_reducible refine w_lc ?_) | ((with_reducible refine w_div ?_ ?_); (first | decide | omega)) | (with_reducible refine w_neg ?_) | (with_reducible refine w_negI ?_) | (with_reducible refine w_eqStr ?_) | (with_reducible refine w_slT ?_) | (with_reducible refine w_lentup ?_) | (with_reducible refine w_tupL ?_) | (with_reducible refine w_lstF ?_) | (with_reducible refine w_app ?_) | (with_reducible refine w_tisN ?_) | (with_reducible refine w_meth ?_) | ((with_reducible refine w_objO ?_ ?_); exact rfl) | (with_reducible refine w_lstM ?_) | (with_reducible refine w_ixtup2 ?_) | (with_reducible refine w_retF ?_) | (with_reducible refine w_iL ?_) | (with_reducible refine w_make ?_) | (with_reducible refine w_fldS ?_) | (with_reducible refine w_rg1 ?_) | (with_reducible refine w_dnew ?_) | (with_reducible refine w_gsubD ?_) | (with_reducible refine w_lst ?_) | (with_reducible refine w_ixtup3 ?_) | (with_reducible refine w_lenlst ?_) | (with_reducible refine w_and ?_) | (with_reducible refine w_in_tup ?_) | ((with_reducible refine' w_aug ?_ ?_ ?_); rotate_left 2; exact rfl; (intro x; first | with_reducible exact set_h0 | with_reducible exact set_h1 | with_reducible exact set_h2 | with_reducible exact set_h3 | with_reducible exact set_h4 | with_reducible exact set_h5 | with_reducible exact set_h6 | with_reducible exact set_h7 | with_reducible exact set_h8 | with_reducible exact set_h9 | with_reducible exact set_h10 | with_reducible exact set_h11 | with_reducible exact set_h12 | with_reducible exact set_h13 | with_reducible exact set_h14 | with_reducible exact set_h15 | with_reducible exact set_h16 | with_reducible exact set_h17 | with_reducible exact set_h18 | with_reducible exact set_h19 | with_reducible exact set_h20 | with_reducible exact set_h21 | with_reducible exact set_h22 | with_reducible exact set_h23 | with_reducible exact set_h24 | with_reducible exact set_h25)) | (with_reducible refine w_lc2 ?_) | (with_reducible refine w_lcT ?_) | (with_reducible refine w_on2 ?_) | (with_reducible refine w_neInt ?_) | (with_reducible refine w_slL ?_) | (with_reducible refine w_tnotN ?_) | (with_reducible refine w_iT ?_) | (with_reducible refine w_tupF ?_) | (with_reducible refine w_par ?_) | ((with_reducible refine' w_kpar ?_ ?_ ?_); rotate_left 2; (first | with_reducible exact set_h0 | with_reducible exact set_h1 | with_reducible exact set_h2 | with_reducible exact set_h3 | with_reducible exact set_h4 | with_reducible exact set_h5 | with_reducible exact set_h6 | with_reducible exact set_h7 | with_reducible exact set_h8 | with_reducible exact set_h9 | with_reducible exact set_h10 | with_reducible exact set_h11 | with_reducible exact set_h12 | with_reducible exact set_h13 | with_reducible exact set_h14 | with_reducible exact set_h15 | with_reducible exact set_h16 | with_reducible exact set_h17 | with_reducible exact set_h18 | with_reducible exact set_h19 | with_reducible exact set_h20 | with_reducible exact set_h21 | with_reducible exact set_h22 | with_reducible exact set_h23 | with_reducible exact set_h24 | with_reducible exact set_h25); (first | with_reducible exact set_h0 | with_reducible exact set_h1 | with_reducible exact set_h2 | with_reducible exact set_h3 | with_reducible exact set_h4 | with_reducible exact set_h5 | with_reducible exact set_h6 | with_reducible exact set_h7 | with_reducible exact set_h8 | with_reducible exact set_h9 | with_reducible exact set_h10 | with_reducible exact set_h11 | with_reducible exact set_h12 | with_reducible exact set_h13 | with_reducible exact set_h14 | with_reducible exact set_h15 | with_reducible exact set_h16 | with_reducible exact set_h17 | with_reducible exact set_h18 | with_reducible exact set_h19 | with_reducible exact set_h20 | with_reducible exact set_h21 | with_reducible exact set_h22 | with_reducible exact set_h23 | with_reducible exact set_h24 | with_reducible exact set_h25)) | (with_reducible refine w_rg2 ?_) | (with_reducible refine w_asT ?_) | (with_reducible refine w_kTp ?_) | (with_reducible refine w_pdget2 ?_) | (with_reducible refine w_zT ?_) | (with_reducible refine w_dct ?_) | (with_reducible refine w_listL ?_) | (with_reducible refine w_andV ?_) | (with_reducible refine w_isN ?_) | (with_reducible refine w_cnt ?_) | (with_reducible refine w_retD ?_) | ((with_reducible refine' w_isi_i ?_ ?_); rotate_left; (first | with_reducible exact kit_ib | with_reducible exact kit_ii | with_reducible exact kit_it | with_reducible exact kit_il | with_reducible exact kit_is)) | ((with_reducible refine' w_isi_t ?_ ?_); rotate_left; (first | with_reducible exact kit_tb | with_reducible exact kit_ti | with_reducible exact kit_tt | with_reducible exact kit_tl | with_reducible exact kit_ts)) | (with_reducible refine w_lc2M ?_) | (with_reducible refine w_lcM ?_) | (with_reducible refine w_catN ?_) | (with_reducible refine w_tcnt ?_) | (with_reducible refine w_kTCnt ?_) | (with_reducible refine w_catR ?_) | (with_reducible refine w_tidx ?_) | (with_reducible refine w_pdget1 ?_) | (with_reducible refine w_rv ?_) | (with_reducible refine w_z ?_) | (with_reducible refine w_gsub ?_) | (with_reducible refine w_ixlst0 ?_) | (with_reducible refine w_ixlst1 ?_) | (with_reducible refine w_slS ?_) | (with_reducible refine w_abs ?_) | (with_reducible refine w_listML ?_) | (with_reducible refine w_notB ?_) | (with_reducible refine w_brk ?_) | (with_reducible refine w_fzE ?_) | ((with_reducible refine' w_isi_l ?_ ?_); rotate_left; (first | with_reducible exact kit_lb | with_reducible exact kit_li | with_reducible exact kit_lt | with_reducible exact kit_ll | with_reducible exact kit_ls)) | (with_reducible refine w_join ?_) | (with_reducible refine w_kStr ?_) | (with_reducible refine w_zL ?_) | (with_reducible refine w_tupRg ?_) | ((with_reducible refine w_shr ?_ ?_); (first | decide | omega)) | (with_reducible refine w_retN ?_) | (with_reducible refine w_dnx ?_) | (with_reducible refine w_drt ?_) | (with_reducible refine w_dbk ?_) | (with_reducible refine w_eqBl ?_) | (with_reducible refine w_neBl ?_) | (with_reducible refine w_neStr ?_) | (with_reducible refine w_ixlst2 ?_) | (with_reducible refine w_ixlst3 ?_) | (with_reducible refine w_ixtup4 ?_) | (with_reducible refine w_ixlst4 ?_) | (with_reducible refine w_ixtup5 ?_) | (with_reducible refine w_ixlst5 ?_) | (with_reducible refine w_need ?_) | (with_reducible refine w_lenscr ?_) | (with_reducible refine w_listT ?_) | (with_reducible refine w_listS ?_) | (with_reducible refine w_tupT ?_) | (with_reducible refine w_listMT ?_) | (with_reducible refine w_orV ?_) | (with_reducible refine w_notV ?_) | (with_reducible refine w_if ?_) | (with_reducible refine w_notN ?_) | (with_reducible refine w_in_int ?_) | (with_reducible refine w_in_lst ?_) | (with_reducible refine w_in_ptr ?_) | (with_reducible refine w_in_str ?_) | (with_reducible refine w_in_bl ?_) | (with_reducible refine w_isB ?_) | (with_reducible refine w_lstFs ?_) | (with_reducible refine w_R2 ?_) | (with_reducible refine w_forM ?_) | (with_reducible refine w_lcnil ?_) | (with_reducible refine w_lccons ?_) | (with_reducible refine w_retFD ?_) | (with_reducible refine w_raise ?_) | (with_reducible refine w_raiseF ?_) | (with_reducible refine w_tryF ?_) | (with_reducible refine w_isFp ?_) | (with_reducible refine w_isFx ?_) | ((with_reducible refine' w_xf ?_ ?_); rotate_left; exact rfl) | (with_reducible refine w_try ?_) | (with_reducible refine w_lstRg ?_) | (with_reducible refine w_pop ?_) | (with_reducible refine w_rev ?_) | (with_reducible refine w_revL ?_) | (with_reducible refine w_forE ?_) | ((with_reducible refine' w_isi_b ?_ ?_); rotate_left; (first | with_reducible exact kit_bb | with_reducible exact kit_bi | with_reducible exact kit_bt | with_reducible exact kit_bl | with_reducible exact kit_bs)) | ((with_reducible refine' w_isi_s ?_ ?_); rotate_left; (first | with_reducible exact kit_sb | with_reducible exact kit_si | with_reducible exact kit_st | with_reducible exact kit_sl | with_reducible exact kit_ss)) | ((with_reducible refine' w_isi_n ?_ ?_); rotate_left; (first | with_reducible exact kit_nb | with_reducible exact kit_ni | with_reducible exact kit_nt | with_reducible exact kit_nl | with_reducible exact kit_ns))))
local macro_rules | `(tactic| walk_at "st") => `(tactic| simp only [pstart, List.map_cons, List.map_nil, List.cons_append, List.nil_append, List.length_cons, List.length_nil, List.replicate, Nat.reduceSub, Nat.reduceAdd, Nat.zero_add])
theorem okD_pl (n : Nat) (m : Int) (k : Nat) : okD (n + 2) (plP m k) := ⟨by show 2 < 1000000; decide, fun x hx => by
  rcases List.mem_cons.mp hx with rfl | hx
  · trivial
  · rw [List.mem_singleton.mp hx]; trivial⟩
theorem okD_cl {m s : Int} {rows : List TRow} (hm : Mach m s rows) : okD 8 (.tup (clV m rows)) := by
  have h1 := clI_len rows rows.length
  have h2 := n320 hm
  have h3 : rows.length * rows.length ≤ 320 * 320 := Nat.mul_le_mul h2 h2
  refine ⟨by unfold clV; rw [List.length_map, clL_eq]; omega, fun x hx => ?_⟩
  obtain ⟨p, _, rfl⟩ := List.mem_map.mp hx
  exact ⟨by show 2 < 1000000; decide, fun x hx => by
    rcases List.mem_cons.mp hx with rfl | hx
    · exact okD_pl 4 m p.1
    · rw [List.mem_singleton.mp hx]; exact okD_pl 4 m p.2⟩
set_option maxHeartbeats 2000000 in
theorem k_law (Γ : Ctx) : Keeps (t_law Γ) 1 13 (sp_law Γ) := by
  rintro xs M Q E hl ⟨zs, rfl, hz, q⟩
  walk_at "st"
  unfold t_law
  walk_at "hd"
  refine ⟨zs, 60, rfl, hz, ⟨by decide, by decide⟩, fun ns hns => ?_⟩
  walk_at "hd"
  unfold r_law_1
  walk_at "hd"
  intro p hp
  unfold r_law_2
  walk_at "hd"
  refine ⟨ns, p, 0, rfl, hns, ⟨put_same, by decide⟩, fun m s k1 hm hs hk1 => ?_⟩
  rw [put_put]
  walk_at "hd"
  unfold r_law_3
  walk_at "hd"
  refine ⟨ns, p, k1, m, s, rfl, hns, ⟨put_same, hk1⟩, hm, hs, fun rows k2 hM hk2 => ?_⟩
  rw [put_put]
  walk_at "hd"
  unfold r_law_4
  walk_at "hd"
  intro y hy
  have yp : y ≠ p := fun e => by rw [e, put_same] at hy; cases hy
  refine ⟨y, m, s, .lst (rows.map rowP), rows, rfl, hM, rfl, rfl, put_same, ?_⟩
  rw [put_put]
  refine ⟨rfl, ?_⟩
  simp only [put_same, true_and]
  rw [put_drop hy]
  unfold r_law_5
  walk_at "hd"
  refine ⟨ns, p, k2, m, s, 4, rfl, hns, ⟨put_same, hk2⟩, by omega, hs.1, ⟨by decide, by decide⟩, fun c k3 hc hc1 hc2 hk3 => ?_⟩
  rw [put_put]
  walk_at "hd"
  unfold r_law_6
  walk_at "hd"
  refine ⟨m, s, rows, rfl, hM, ?_⟩
  walk_at "hd"
  unfold r_law_7
  walk_at "hd"
  refine ⟨m, s, rows, rfl, hM, fun M1 e1 => ?_⟩
  walk_at "hd"
  unfold r_law_8
  walk_at "hd"
  refine c_same (okD_cl hM) ?_
  walk_at "hd"
  unfold r_law_9
  walk_at "hd"
  refine ⟨m, s, rows, rfl, hM, fun M2 e2 => ?_⟩
  walk_at "hd"
  refine ⟨m, s, rows, rfl, hM, fun M3 e3 => ?_⟩
  walk_at "hd"
  rw [if_pos (show decide (0 < (clL rows).length) = decide (0 < (((clV m rows).length : Nat) : Int)) from decide_eq_decide.mpr (by rw [show (clV m rows).length = (clL rows).length from List.length_map _]; omega))]
  walk_at "hd"
  unfold r_law_10
  walk_at "hd"
  intro r hr
  have ep : M3 p = some (.lst [.int k3]) := by rw [((e1.trans e2).trans e3) p (by rw [put_same]; exact Option.some_ne_none _), put_same]
  have rp : r ≠ p := fun e => by rw [e, ep] at hr; cases hr
  have rest : ∀ (L : List Cf) (M4 : Mem), (∀ d ∈ L, CfOk m s d ∧ d.l.length ≤ 4 ∧ d.r.length ≤ 4) → (∀ d, L[1]? = some d → 2 ≤ (bkL m rows d).length) → L.length ≤ 2 → M4 r = some (.lst (L.map cfP)) → ∀ {db dc : PNx},
      r_law_12 Γ (PEnds.mk (fun x M' => Q PV.non M') Q E db dc) [some (.scr (zs.map .int)), some (lI ns), some (.ptr p), some (.tup [.int m, .int s]),
        some (.lst (rows.map rowP)), some (.obj Γ.Tape (tapeF m s rows)), some (cfP c), some (.lst (clV m rows)), some (.lst (clV m rows)), some (.ptr r), none, none, none] M4 := by
    intro L M4 hL h1 hn hr4 db dc
    unfold r_law_12
    walk_at "hd"
    refine w_lenP hr4 ?_
    rw [List.length_map]
    walk_at "hd"
    rw [Int.toNat_natCast]
    refine for_rng (fun k σ M' => ∃ x10 x11 x12, σ = [some (.scr (zs.map .int)), some (lI ns), some (.ptr p), some (.tup [.int m, .int s]),
        some (.lst (rows.map rowP)), some (.obj Γ.Tape (tapeF m s rows)), some (cfP c), some (.lst (clV m rows)), some (.lst (clV m rows)), some (.ptr r), x10, x11, x12] ∧ M' r = some (.lst (L.map cfP))) ⟨_, _, _, rfl, hr4⟩ ?_ ?_
    · rintro k σ M' K hk ⟨x10, x11, x12, rfl, hr'⟩ hK
      rw [Int.zero_add]
      obtain ⟨d, ed⟩ : ∃ d, L[k]? = some d := ⟨_, List.getElem?_eq_getElem hk⟩
      obtain ⟨hd, hd1, hd2⟩ := hL d (List.mem_of_getElem? ed)
      have at_ : L2.atI (L.map cfP) (k : Int) = some (cfP d) := by
        rw [at_pos _ (by omega), Int.toNat_natCast, List.getElem?_map, ed]; rfl
      have hbl : (bkS m rows d).length = (bkL m rows d).length := by rw [bkS_eq, List.length_mergeSort]
      have hbn : (bkL m rows d).length ≤ 320 := Nat.le_trans (bkI_len m rows d rows.length) (n320 hM)
      have hmem : ∀ x ∈ bkS m rows d, stepM rows m x = some d ∧ CfOk m s x ∧ x.l.length ≤ 5 ∧ x.r.length ≤ 5 := fun x hx => by
        rw [bkS_eq] at hx
        have hx := List.mem_mergeSort.mp hx
        unfold bkL at hx
        obtain ⟨i, hi, e⟩ := List.mem_filterMap.mp hx
        have := bk_step hM hd (List.mem_range.mp hi) e
        exact ⟨this.1, this.2.1, by omega, by omega⟩
      have okS : okD 8 (.tup ((bkS m rows d).map cfP)) := ⟨by rw [List.length_map]; omega, fun x hx => by
        obtain ⟨y, hy, rfl⟩ := List.mem_map.mp hx
        have := hmem y hy
        exact okD_cfP (n := 4) (by omega) (by omega)⟩
      unfold b_law_1
      walk_at "hd"
      refine w_ixP hr' at_ ?_
      walk_at "hd"
      refine ⟨m, s, rows, d, rfl, hM, hd, by omega, by omega, ?_⟩
      walk_at "hd"
      refine w_ixP hr' at_ ?_
      walk_at "hd"
      refine ⟨m, s, rows, d, rfl, hM, hd, by omega, by omega, ?_⟩
      walk_at "hd"
      refine c_same okS ?_
      walk_at "hd"
      rw [List.length_map, hbl]
      have hcl : 1 < (bkL m rows d).length → 0 < (clV m rows).length := fun h => by
        obtain ⟨i, j, h1, h2, h3, h4⟩ := fm2 (fun k => bkC m k d (rowN rows k)) rows.length h
        have mt := bk_meet (rowN_ok hM (by omega)) (rowN_ok hM h2) h3 h4
        rw [show (clV m rows).length = (clL rows).length from List.length_map _]
        exact List.length_pos_of_mem (mem_clN h1 h2 mt)
      by_cases hb1 : 1 < (bkL m rows d).length
      all_goals first
        | (rw [if_pos (show (1 : Int) < (((bkL m rows d).length : Nat) : Int) by omega)]
           walk_at "hd"
           rw [if_neg (show ¬ (((clV m rows).length : Nat) : Int) = 0 from fun z => by have := hcl hb1; omega)])
        | rw [if_neg (show ¬ (1 : Int) < (((bkL m rows d).length : Nat) : Int) by omega)]
      all_goals walk_at "hd"
      all_goals
        by_cases hk1 : (k : Int) = 1
        all_goals first
          | (rw [if_pos hk1]
             walk_at "hd"
             rw [List.length_map, hbl, if_neg (show ¬ (((bkL m rows d).length : Nat) : Int) < 2 from fun z => by
               have : k = 1 := by omega
               subst this
               have := h1 d ed
               omega)])
          | rw [if_neg hk1]
        all_goals walk_at "hd"
        all_goals
          refine for_in (fun _ σ M2 => M2 = M' ∧ ∃ x12, σ = [some (.scr (zs.map .int)), some (lI ns), some (.ptr p), some (.tup [.int m, .int s]),
            some (.lst (rows.map rowP)), some (.obj Γ.Tape (tapeF m s rows)), some (cfP c), some (.lst (clV m rows)), some (.lst (clV m rows)), some (.ptr r), some (.int (k : Int)), some (.lst ((bkS m rows d).map cfP)), x12]) ⟨rfl, _, rfl⟩ ?_ ?_
          · rintro j x σ M2 K2 hx ⟨rfl, x12, rfl⟩ hK2
            rw [List.getElem?_map] at hx
            obtain ⟨y, hy, rfl⟩ := Option.map_eq_some_iff.mp hx
            obtain ⟨g1, g2, g3, g4⟩ := hmem y (List.mem_of_getElem? hy)
            unfold b_law_2
            walk_at "hd"
            refine ⟨m, s, rows, y, rfl, hM, g2, by omega, by omega, ?_⟩
            rw [g1]
            walk_at "hd"
            refine w_ixP hr' at_ ?_
            walk_at "hd"
            refine c_same (okD_cfP (n := 5) (by omega) (by omega)) ?_
            walk_at "hd"
            exact hK2 _ _ ⟨rfl, _, rfl⟩
          · rintro σ M2 ⟨rfl, x12, rfl⟩
            exact hK _ _ ⟨_, _, _, rfl, hr'⟩
    · rintro σ M' ⟨x10, x11, x12, rfl, hr'⟩
      unfold r_law_13
      walk_at "hd"
      exact q _
  unfold r_law_11
  walk_at "hd"
  by_cases hc0 : 0 < (clL rows).length
  · rw [if_pos (show 0 < (((clV m rows).length : Nat) : Int) from by rw [show (clV m rows).length = (clL rows).length from List.length_map _]; omega)]
    walk_at "hd"
    refine ⟨lst_nn, ?_⟩
    walk_at "hd"
    refine ⟨ns, p, k3, rfl, hns, ⟨by rw [put_ne (Ne.symm rp), ep], hk3⟩, fun n k4 hn hk4 => ?_⟩
    have hcn := clI_len rows rows.length
    have hc3 : rows.length * rows.length ≤ 320 * 320 := Nat.mul_le_mul (n320 hM) (n320 hM)
    have hcn : (clL rows).length ≤ rows.length * rows.length := hcn
    walk_at "hd"
    rw [show (clV m rows).length = (clL rows).length from List.length_map _]
    obtain ⟨j, hj⟩ : ∃ j : Nat, (j : Int) = n % (((clL rows).length : Nat) : Int) := ⟨(n % (((clL rows).length : Nat) : Int)).toNat, by
      have := Int.emod_nonneg n (show (((clL rows).length : Nat) : Int) ≠ 0 by omega)
      omega⟩
    have hjl : j < (clL rows).length := by
      have := Int.emod_lt_of_pos n (show (0 : Int) < (((clL rows).length : Nat) : Int) by omega)
      omega
    walk_at "hd"
    rw [← hj]
    obtain ⟨pr, epr⟩ : ∃ pr, (clL rows)[j]? = some pr := ⟨_, List.getElem?_eq_getElem hjl⟩
    obtain ⟨g1, g2, g3⟩ := of_clL (List.mem_of_getElem? epr)
    have tw := tw_ok hM (by omega : pr.1 < rows.length) g2 g3
    have twb := tw_bk (m1 := m) (rowN_ok hM (by omega : pr.1 < rows.length)) (rowN_ok hM g2) g3 pr.1 pr.2
    refine w_ixL (x := .tup [plP m pr.1, plP m pr.2]) (by
      rw [at_pos _ (by omega), Int.toNat_natCast]
      unfold clV
      rw [List.getElem?_map, epr]; rfl) ?_
    walk_at "hd"
    refine ⟨m, s, rows, pr.1, pr.2, rfl, hM, by omega, g2, g3, ?_⟩
    show kApp _ _ _ _
    rw [app_ptr (xs := [cfP c]) (by rw [put_ne rp, put_same]) (line_lt' (by simp))]
    walk_at "hd"
    refine rest [c, twC (rowN rows pr.1) (rowN rows pr.2)] _ (fun d h => ?_) (fun d h => ?_) (by simp) put_same
    · rcases List.mem_cons.mp h with rfl | h
      · exact ⟨hc, by omega, by omega⟩
      · rw [List.mem_singleton.mp h]; exact ⟨tw.1, by omega, by omega⟩
    · cases h
      exact fm2' (fun k => bkC m k _ (rowN rows k)) g1 g2 twb.1 twb.2
  · rw [if_neg (show ¬ 0 < (((clV m rows).length : Nat) : Int) from by rw [show (clV m rows).length = (clL rows).length from List.length_map _]; omega)]
    walk_at "hd"
    exact rest [c] _ (fun d h => by rw [List.mem_singleton.mp h]; exact ⟨hc, by omega, by omega⟩) (fun d h => nomatch h) (by simp) put_same

end My
set_option Elab.async false
set_option linter.all false
set_option maxRecDepth 100000
namespace My
open PySem PySem.Spec PyProof.Rows L2 PL
set_option maxHeartbeats 2000000
open TM
theorem base_law_same {xs : List PV} {M : Mem} {Q : PQ} {E : PXK} (h : spSame 0 xs M Q E) : False := by
  obtain ⟨_, _, h, _⟩ := h
  exact h
theorem rall_ints {K : PySem.W.Frag} {F : Hp} : ∀ ns : List Int, RAll K F (ns.map PV.int) (ns.map V.int)
  | [] => .nil
  | n :: r => .cons (.int n) (rall_ints r)
theorem top_law {K : PySem.W.Frag} {H : Hp} {a : Addr} {ns : List Int} (hl : ns.length ≤ 63) (hS : SqL K H a (ns.map V.int)) : lift K 1 sp_top [V.ref a] H (fun v _ => v = V.bl true) fun _ _ _ => False := by
  refine lift_of rfl (F := H) (M := fun _ => none) (xs := [.scr (ns.map .int)]) (Qp := fun x _ => x = .bl true) (Ep := fun _ _ _ => False) ⟨fun _ _ e => e, fun _ h => absurd rfl h, fun _ _ h => nomatch h⟩ (.cons (.scr hS (rall_ints ns)) .nil) ⟨ns, rfl, hl, fun _ => rfl⟩ ?_ ?_
  · rintro v H' ⟨F', M', x, _, r, rfl⟩
    cases r
    rfl
  · rintro cls d H' ⟨_, _, _, _, _, _, _, z⟩
    exact z
theorem top_cx {P : Program} {w : World} {H : Hp} {s s' : Shared} {e : Value} (z : L2.CX P w [] H s (fun _ _ _ => False) e s') : False := by
  obtain ⟨_, _, _, _, _, _, _, _, _, _, _, _, z⟩ := z
  exact z
section
variable {P : Program} {w : World} {K : PySem.W.Frag} {mg : Str → Option Value} {base : Heap} {Γ : Ctx}
theorem ok_law_numbers {f : Addr} {fd : FuncData} (F : Fun K (PySem.Str.ofString "_law_numbers") "_law_numbers" s_law_numbers f fd) (T : Txt K mg Γ)  : FnOk P w K mg base (L2.CX P w) 1 f fd ["script", "many"] (lift K 2 (sp_law_numbers Γ)) :=
  Fn.ok F sc_law_numbers rfl fun cdv A outer s H E hr => ⟨_, d_law_numbers T  hr, k_law_numbers Γ⟩
theorem ok_law_take {f : Addr} {fd : FuncData} (F : Fun K (PySem.Str.ofString "_law_take") "_law_take" s_law_take f fd) (T : Txt K mg Γ)  : FnOk P w K mg base (L2.CX P w) 1 f fd ["numbers", "place"] (lift K 2 (sp_law_take Γ)) :=
  Fn.ok F sc_law_take rfl fun cdv A outer s H E hr => ⟨_, d_law_take T  hr, k_law_take Γ⟩
theorem ok_law_sizes {f : Addr} {fd : FuncData} (F : Fun K (PySem.Str.ofString "_law_sizes") "_law_sizes" s_law_sizes f fd) (T : Txt K mg Γ) (G_law_take : GFn P w K mg base (PySem.Str.ofString "_law_take") 1 ["numbers", "place"] (sp_law_take Γ)) : FnOk P w K mg base (L2.CX P w) 2 f fd ["numbers", "place"] (lift K 2 (sp_law_sizes Γ)) :=
  Fn.ok F sc_law_sizes rfl fun cdv A outer s H E hr => ⟨_, d_law_sizes T G_law_take hr, k_law_sizes Γ⟩
theorem ok_law_machine {f : Addr} {fd : FuncData} (F : Fun K (PySem.Str.ofString "_law_machine") "_law_machine" s_law_machine f fd) (T : Txt K mg Γ) (G_law_take : GFn P w K mg base (PySem.Str.ofString "_law_take") 1 ["numbers", "place"] (sp_law_take Γ)) : FnOk P w K mg base (L2.CX P w) 2 f fd ["numbers", "place", "marks", "states"] (lift K 4 (sp_law_machine Γ)) :=
  Fn.ok F sc_law_machine rfl fun cdv A outer s H E hr => ⟨_, d_law_machine T G_law_take hr, k_law_machine Γ⟩
theorem ok_is_whole {f : Addr} {fd : FuncData} (F : Fun K (PySem.Str.ofString "is_whole") "is_whole" s_is_whole f fd) (T : Txt K mg Γ)  : FnOk P w K mg base (L2.CX P w) 1 f fd ["value"] (lift K 1 (sp_is_whole Γ)) :=
  Fn.ok F sc_is_whole rfl fun cdv A outer s H E hr => ⟨_, d_is_whole T  hr, k_is_whole Γ⟩
theorem ok_is_number {f : Addr} {fd : FuncData} (F : Fun K (PySem.Str.ofString "is_number") "is_number" s_is_number f fd) (T : Txt K mg Γ) (G_is_whole : GFn P w K mg base (PySem.Str.ofString "is_whole") 1 ["value"] (sp_is_whole Γ)) : FnOk P w K mg base (L2.CX P w) 2 f fd ["value", "low", "high"] (lift K 3 (sp_is_number Γ)) :=
  Fn.ok F sc_is_number rfl fun cdv A outer s H E hr => ⟨_, d_is_number T G_is_whole hr, k_is_number Γ⟩
theorem ok_is_row {f : Addr} {fd : FuncData} (F : Fun K (PySem.Str.ofString "is_row") "is_row" s_is_row f fd) (T : Txt K mg Γ) (G_is_number : GFn P w K mg base (PySem.Str.ofString "is_number") 2 ["value", "low", "high"] (sp_is_number Γ)) : FnOk P w K mg base (L2.CX P w) 3 f fd ["row", "marks", "states"] (lift K 3 (sp_is_row Γ)) :=
  Fn.ok F sc_is_row rfl fun cdv A outer s H E hr => ⟨_, d_is_row T G_is_number hr, k_is_row Γ⟩
theorem ok_Tape_init {f : Addr} {fd : FuncData} (F : Fun K (PySem.Str.ofString "__init__") "Tape.__init__" s_Tape_init f fd) (T : Txt K mg Γ) (G_is_number : GFn P w K mg base (PySem.Str.ofString "is_number") 2 ["value", "low", "high"] (sp_is_number Γ)) (G_is_row : GFn P w K mg base (PySem.Str.ofString "is_row") 3 ["row", "marks", "states"] (sp_is_row Γ)) : FnOk P w K mg base (L2.CX P w) 4 f fd ["self", "marks", "states", "rows"] (lift K 4 (sp_Tape_init Γ)) :=
  Fn.ok F sc_Tape_init rfl fun cdv A outer s H E hr => ⟨_, d_Tape_init T G_is_number G_is_row hr, k_Tape_init Γ⟩
theorem ok_law_trim {f : Addr} {fd : FuncData} (F : Fun K (PySem.Str.ofString "_law_trim") "_law_trim" s_law_trim f fd) (T : Txt K mg Γ)  : FnOk P w K mg base (L2.CX P w) 1 f fd ["marks"] (lift K 1 (sp_law_trim Γ)) :=
  Fn.ok F sc_law_trim rfl fun cdv A outer s H E hr => ⟨_, d_law_trim T  hr, k_law_trim Γ⟩
theorem ok_law_side {f : Addr} {fd : FuncData} (F : Fun K (PySem.Str.ofString "_law_side") "_law_side" s_law_side f fd) (T : Txt K mg Γ) (G_law_trim : GFn P w K mg base (PySem.Str.ofString "_law_trim") 1 ["marks"] (sp_law_trim Γ)) (G_law_take : GFn P w K mg base (PySem.Str.ofString "_law_take") 1 ["numbers", "place"] (sp_law_take Γ)) : FnOk P w K mg base (L2.CX P w) 2 f fd ["numbers", "place", "marks", "most"] (lift K 4 (sp_law_side Γ)) :=
  Fn.ok F sc_law_side rfl fun cdv A outer s H E hr => ⟨_, d_law_side T G_law_trim G_law_take hr, k_law_side Γ⟩
theorem ok_law_configuration {f : Addr} {fd : FuncData} (F : Fun K (PySem.Str.ofString "_law_configuration") "_law_configuration" s_law_configuration f fd) (T : Txt K mg Γ) (G_law_side : GFn P w K mg base (PySem.Str.ofString "_law_side") 2 ["numbers", "place", "marks", "most"] (sp_law_side Γ)) (G_law_take : GFn P w K mg base (PySem.Str.ofString "_law_take") 1 ["numbers", "place"] (sp_law_take Γ)) : FnOk P w K mg base (L2.CX P w) 3 f fd ["numbers", "place", "marks", "states", "most"] (lift K 5 (sp_law_configuration Γ)) :=
  Fn.ok F sc_law_configuration rfl fun cdv A outer s H E hr => ⟨_, d_law_configuration T G_law_side G_law_take hr, k_law_configuration Γ⟩
theorem ok_law_clashes {f : Addr} {fd : FuncData} (F : Fun K (PySem.Str.ofString "_law_clashes") "_law_clashes" s_law_clashes f fd) (T : Txt K mg Γ)  : FnOk P w K mg base (L2.CX P w) 1 f fd ["rows", "sizes"] (lift K 2 (sp_law_clashes Γ)) :=
  Fn.ok F sc_law_clashes rfl fun cdv A outer s H E hr => ⟨_, d_law_clashes T  hr, k_law_clashes Γ⟩
theorem ok_Tape_table {f : Addr} {fd : FuncData} (F : Fun K (PySem.Str.ofString "table") "Tape.table" s_Tape_table f fd) (T : Txt K mg Γ)  : FnOk P w K mg base (L2.CX P w) 1 f fd ["self"] (lift K 1 (sp_Tape_table Γ)) :=
  Fn.ok F sc_Tape_table rfl fun cdv A outer s H E hr => ⟨_, d_Tape_table T  hr, k_Tape_table Γ⟩
theorem ok_meet {f : Addr} {fd : FuncData} (F : Fun K (PySem.Str.ofString "meet") "meet" s_meet f fd) (T : Txt K mg Γ)  : FnOk P w K mg base (L2.CX P w) 1 f fd ["one", "two"] (lift K 2 (sp_meet Γ)) :=
  Fn.ok F sc_meet rfl fun cdv A outer s H E hr => ⟨_, d_meet T  hr, k_meet Γ⟩
theorem ok_clashes {f : Addr} {fd : FuncData} (F : Fun K (PySem.Str.ofString "clashes") "clashes" s_clashes f fd) (T : Txt K mg Γ) (G_Tape_table : GMt P w K mg base Γ.Tape (PySem.Str.ofString "table") 1 ["self"] (sp_Tape_table Γ)) (G_meet : GFn P w K mg base (PySem.Str.ofString "meet") 1 ["one", "two"] (sp_meet Γ)) : FnOk P w K mg base (L2.CX P w) 2 f fd ["machine"] (lift K 1 (sp_clashes Γ)) :=
  Fn.ok F sc_clashes rfl fun cdv A outer s H E hr => ⟨_, d_clashes T G_Tape_table G_meet hr, k_clashes Γ⟩
theorem ok_Tape_row {f : Addr} {fd : FuncData} (F : Fun K (PySem.Str.ofString "row") "Tape.row" s_Tape_row f fd) (T : Txt K mg Γ) (G_is_number : GFn P w K mg base (PySem.Str.ofString "is_number") 2 ["value", "low", "high"] (sp_is_number Γ)) : FnOk P w K mg base (L2.CX P w) 3 f fd ["self", "state", "mark"] (lift K 3 (sp_Tape_row Γ)) :=
  Fn.ok F sc_Tape_row rfl fun cdv A outer s H E hr => ⟨_, d_Tape_row T G_is_number hr, k_Tape_row Γ⟩
theorem ok_pushed {f : Addr} {fd : FuncData} (F : Fun K (PySem.Str.ofString "pushed") "pushed" s_pushed f fd) (T : Txt K mg Γ)  : FnOk P w K mg base (L2.CX P w) 1 f fd ["mark", "side"] (lift K 2 (sp_pushed Γ)) :=
  Fn.ok F sc_pushed rfl fun cdv A outer s H E hr => ⟨_, d_pushed T  hr, k_pushed Γ⟩
theorem ok_nearest {f : Addr} {fd : FuncData} (F : Fun K (PySem.Str.ofString "nearest") "nearest" s_nearest f fd) (T : Txt K mg Γ)  : FnOk P w K mg base (L2.CX P w) 1 f fd ["side"] (lift K 1 (sp_nearest Γ)) :=
  Fn.ok F sc_nearest rfl fun cdv A outer s H E hr => ⟨_, d_nearest T  hr, k_nearest Γ⟩
theorem ok_moved {f : Addr} {fd : FuncData} (F : Fun K (PySem.Str.ofString "moved") "moved" s_moved f fd) (T : Txt K mg Γ) (G_pushed : GFn P w K mg base (PySem.Str.ofString "pushed") 1 ["mark", "side"] (sp_pushed Γ)) (G_nearest : GFn P w K mg base (PySem.Str.ofString "nearest") 1 ["side"] (sp_nearest Γ)) : FnOk P w K mg base (L2.CX P w) 2 f fd ["tape", "move"] (lift K 2 (sp_moved Γ)) :=
  Fn.ok F sc_moved rfl fun cdv A outer s H E hr => ⟨_, d_moved T G_pushed G_nearest hr, k_moved Γ⟩
theorem ok_before {f : Addr} {fd : FuncData} (F : Fun K (PySem.Str.ofString "before") "before" s_before f fd) (T : Txt K mg Γ) (G_Tape_row : GMt P w K mg base Γ.Tape (PySem.Str.ofString "row") 3 ["self", "state", "mark"] (sp_Tape_row Γ)) (G_moved : GFn P w K mg base (PySem.Str.ofString "moved") 2 ["tape", "move"] (sp_moved Γ)) : FnOk P w K mg base (L2.CX P w) 4 f fd ["machine", "configuration"] (lift K 2 (sp_before Γ)) :=
  Fn.ok F sc_before rfl fun cdv A outer s H E hr => ⟨_, d_before T G_Tape_row G_moved hr, k_before Γ⟩
theorem ok_law_same {f : Addr} {fd : FuncData} (F : Fun K (PySem.Str.ofString "_law_same") "_law_same" s_law_same f fd) (T : Txt K mg Γ)  (hm : mg (PySem.Str.ofString "_law_same") = some (.ref f)) (hk : PySem.W.keepIn K (.ref f) = true) (hb : Binds K fd ["actual", "expected"] []) : ∀ n : Nat, FnOk P w K mg base (L2.CX P w) (n + 0 + 1) f fd ["actual", "expected"] (lift K 2 (spSame n))
  | 0 => F.okX sc_law_same (fun vs H Q E h => h.1) fun _ _ _ _ _ _ _ _ _ h => by
      obtain ⟨_, _, M, xs, Qp, Ep, _, _, h, _⟩ := h
      exact (base_law_same h).elim
  | n + 1 => Fn.ok F sc_law_same rfl fun cdv A outer s H E hr => ⟨_, d_law_same (kk := n + 0 + 1) T  ⟨⟨f, fd, ok_law_same F T  hm hk hb n, hm, hk, hb⟩⟩ (by rw [show n + 0 + 1 = n + 1 + 0 from by omega]; exact hr), k_law_same Γ n⟩
theorem ok_forgets {f : Addr} {fd : FuncData} (F : Fun K (PySem.Str.ofString "forgets") "forgets" s_forgets f fd) (T : Txt K mg Γ) (G_clashes : GFn P w K mg base (PySem.Str.ofString "clashes") 2 ["machine"] (sp_clashes Γ)) : FnOk P w K mg base (L2.CX P w) 3 f fd ["machine"] (lift K 1 (sp_forgets Γ)) :=
  Fn.ok F sc_forgets rfl fun cdv A outer s H E hr => ⟨_, d_forgets T G_clashes hr, k_forgets Γ⟩
theorem ok_law_two {f : Addr} {fd : FuncData} (F : Fun K (PySem.Str.ofString "_law_two") "_law_two" s_law_two f fd) (T : Txt K mg Γ) (G_law_trim : GFn P w K mg base (PySem.Str.ofString "_law_trim") 1 ["marks"] (sp_law_trim Γ)) : FnOk P w K mg base (L2.CX P w) 2 f fd ["rows", "sizes", "pair"] (lift K 3 (sp_law_two Γ)) :=
  Fn.ok F sc_law_two rfl fun cdv A outer s H E hr => ⟨_, d_law_two T G_law_trim hr, k_law_two Γ⟩
theorem ok_law_step {f : Addr} {fd : FuncData} (F : Fun K (PySem.Str.ofString "_law_step") "_law_step" s_law_step f fd) (T : Txt K mg Γ) (G_law_trim : GFn P w K mg base (PySem.Str.ofString "_law_trim") 1 ["marks"] (sp_law_trim Γ)) : FnOk P w K mg base (L2.CX P w) 2 f fd ["rows", "marks", "spot"] (lift K 3 (sp_law_step Γ)) :=
  Fn.ok F sc_law_step rfl fun cdv A outer s H E hr => ⟨_, d_law_step T G_law_trim hr, k_law_step Γ⟩
theorem ok_law_before {f : Addr} {fd : FuncData} (F : Fun K (PySem.Str.ofString "_law_before") "_law_before" s_law_before f fd) (T : Txt K mg Γ) (G_law_trim : GFn P w K mg base (PySem.Str.ofString "_law_trim") 1 ["marks"] (sp_law_trim Γ)) : FnOk P w K mg base (L2.CX P w) 2 f fd ["rows", "sizes", "spot"] (lift K 3 (sp_law_before Γ)) :=
  Fn.ok F sc_law_before rfl fun cdv A outer s H E hr => ⟨_, d_law_before T G_law_trim hr, k_law_before Γ⟩
theorem ok_law {f : Addr} {fd : FuncData} (F : Fun K (PySem.Str.ofString "law") "law" s_law f fd) (T : Txt K mg Γ) (G_law_numbers : GFn P w K mg base (PySem.Str.ofString "_law_numbers") 1 ["script", "many"] (sp_law_numbers Γ)) (G_law_sizes : GFn P w K mg base (PySem.Str.ofString "_law_sizes") 2 ["numbers", "place"] (sp_law_sizes Γ)) (G_law_machine : GFn P w K mg base (PySem.Str.ofString "_law_machine") 2 ["numbers", "place", "marks", "states"] (sp_law_machine Γ)) (G_Tape_init : GMk P w K mg base (PySem.Str.ofString "Tape") Γ.Tape 4 ["self", "marks", "states", "rows"] (sp_Tape_init Γ)) (G_law_configuration : GFn P w K mg base (PySem.Str.ofString "_law_configuration") 3 ["numbers", "place", "marks", "states", "most"] (sp_law_configuration Γ)) (G_law_clashes : GFn P w K mg base (PySem.Str.ofString "_law_clashes") 1 ["rows", "sizes"] (sp_law_clashes Γ)) (G_clashes : GFn P w K mg base (PySem.Str.ofString "clashes") 2 ["machine"] (sp_clashes Γ)) (G_before : GFn P w K mg base (PySem.Str.ofString "before") 4 ["machine", "configuration"] (sp_before Γ)) (G_law_same : GFn P w K mg base (PySem.Str.ofString "_law_same") 9 ["actual", "expected"] (sp_law_same Γ)) (G_forgets : GFn P w K mg base (PySem.Str.ofString "forgets") 3 ["machine"] (sp_forgets Γ)) (G_law_two : GFn P w K mg base (PySem.Str.ofString "_law_two") 2 ["rows", "sizes", "pair"] (sp_law_two Γ)) (G_law_step : GFn P w K mg base (PySem.Str.ofString "_law_step") 2 ["rows", "marks", "spot"] (sp_law_step Γ)) (G_law_take : GFn P w K mg base (PySem.Str.ofString "_law_take") 1 ["numbers", "place"] (sp_law_take Γ)) (G_law_before : GFn P w K mg base (PySem.Str.ofString "_law_before") 2 ["rows", "sizes", "spot"] (sp_law_before Γ)) : FnOk P w K mg base (L2.CX P w) 10 f fd ["script"] (lift K 1 (sp_law Γ)) :=
  Fn.ok F sc_law rfl fun cdv A outer s H E hr => ⟨_, d_law T G_law_numbers G_law_sizes G_law_machine G_Tape_init G_law_configuration G_law_clashes G_clashes G_before G_law_same G_forgets G_law_two G_law_step G_law_take G_law_before hr, k_law Γ⟩
end
theorem all_mk {l : PySem.W.OpenLaw} {w : World} {K : PySem.W.Frag} {h : Heap} {mg : Str → Option Value} {fa f_law_numbers f_law_take f_law_sizes f_law_machine f_is_whole f_is_number f_is_row f_Tape_init f_law_trim f_law_side f_law_configuration f_law_clashes f_Tape_table f_meet f_clashes f_Tape_row f_pushed f_nearest f_moved f_before f_law_same f_forgets f_law_two f_law_step f_law_before f_law C_Tape : Addr} (X : K.In h) (G : h.Ns mainGlobals mg) (hfa : mg "law" = some (.ref fa))
    {od_law_numbers an_law_numbers : Option Addr}
    {sl_law_numbers : Array (Option Value)}
    {oc_law_numbers kV_law_numbers dc_law_numbers pm_law_numbers cd_law_numbers ct_law_numbers : Value}
    {od_law_take an_law_take : Option Addr}
    {sl_law_take : Array (Option Value)}
    {oc_law_take kV_law_take dc_law_take pm_law_take cd_law_take ct_law_take : Value}
    {od_law_sizes an_law_sizes : Option Addr}
    {sl_law_sizes : Array (Option Value)}
    {oc_law_sizes kV_law_sizes dc_law_sizes pm_law_sizes cd_law_sizes ct_law_sizes : Value}
    {od_law_machine an_law_machine : Option Addr}
    {sl_law_machine : Array (Option Value)}
    {oc_law_machine kV_law_machine dc_law_machine pm_law_machine cd_law_machine ct_law_machine : Value}
    {od_is_whole an_is_whole : Option Addr}
    {sl_is_whole : Array (Option Value)}
    {oc_is_whole kV_is_whole dc_is_whole pm_is_whole cd_is_whole ct_is_whole : Value}
    {od_is_number an_is_number : Option Addr}
    {sl_is_number : Array (Option Value)}
    {oc_is_number kV_is_number dc_is_number pm_is_number cd_is_number ct_is_number : Value}
    {od_is_row an_is_row : Option Addr}
    {sl_is_row : Array (Option Value)}
    {oc_is_row kV_is_row dc_is_row pm_is_row cd_is_row ct_is_row : Value}
    {od_Tape_init an_Tape_init : Option Addr}
    {sl_Tape_init : Array (Option Value)}
    {oc_Tape_init kV_Tape_init dc_Tape_init pm_Tape_init cd_Tape_init ct_Tape_init : Value}
    {od_law_trim an_law_trim : Option Addr}
    {sl_law_trim : Array (Option Value)}
    {oc_law_trim kV_law_trim dc_law_trim pm_law_trim cd_law_trim ct_law_trim : Value}
    {od_law_side an_law_side : Option Addr}
    {sl_law_side : Array (Option Value)}
    {oc_law_side kV_law_side dc_law_side pm_law_side cd_law_side ct_law_side : Value}
    {od_law_configuration an_law_configuration : Option Addr}
    {sl_law_configuration : Array (Option Value)}
    {oc_law_configuration kV_law_configuration dc_law_configuration pm_law_configuration cd_law_configuration ct_law_configuration : Value}
    {od_law_clashes an_law_clashes : Option Addr}
    {sl_law_clashes : Array (Option Value)}
    {oc_law_clashes kV_law_clashes dc_law_clashes pm_law_clashes cd_law_clashes ct_law_clashes : Value}
    {od_Tape_table an_Tape_table : Option Addr}
    {sl_Tape_table : Array (Option Value)}
    {oc_Tape_table kV_Tape_table dc_Tape_table pm_Tape_table cd_Tape_table ct_Tape_table : Value}
    {od_meet an_meet : Option Addr}
    {sl_meet : Array (Option Value)}
    {oc_meet kV_meet dc_meet pm_meet cd_meet ct_meet : Value}
    {od_clashes an_clashes : Option Addr}
    {sl_clashes : Array (Option Value)}
    {oc_clashes kV_clashes dc_clashes pm_clashes cd_clashes ct_clashes : Value}
    {od_Tape_row an_Tape_row : Option Addr}
    {sl_Tape_row : Array (Option Value)}
    {oc_Tape_row kV_Tape_row dc_Tape_row pm_Tape_row cd_Tape_row ct_Tape_row : Value}
    {od_pushed an_pushed : Option Addr}
    {sl_pushed : Array (Option Value)}
    {oc_pushed kV_pushed dc_pushed pm_pushed cd_pushed ct_pushed : Value}
    {od_nearest an_nearest : Option Addr}
    {sl_nearest : Array (Option Value)}
    {oc_nearest kV_nearest dc_nearest pm_nearest cd_nearest ct_nearest : Value}
    {od_moved an_moved : Option Addr}
    {sl_moved : Array (Option Value)}
    {oc_moved kV_moved dc_moved pm_moved cd_moved ct_moved : Value}
    {od_before an_before : Option Addr}
    {sl_before : Array (Option Value)}
    {oc_before kV_before dc_before pm_before cd_before ct_before : Value}
    {od_law_same an_law_same : Option Addr}
    {sl_law_same : Array (Option Value)}
    {oc_law_same kV_law_same dc_law_same pm_law_same cd_law_same ct_law_same : Value}
    {od_forgets an_forgets : Option Addr}
    {sl_forgets : Array (Option Value)}
    {oc_forgets kV_forgets dc_forgets pm_forgets cd_forgets ct_forgets : Value}
    {od_law_two an_law_two : Option Addr}
    {sl_law_two : Array (Option Value)}
    {oc_law_two kV_law_two dc_law_two pm_law_two cd_law_two ct_law_two : Value}
    {od_law_step an_law_step : Option Addr}
    {sl_law_step : Array (Option Value)}
    {oc_law_step kV_law_step dc_law_step pm_law_step cd_law_step ct_law_step : Value}
    {od_law_before an_law_before : Option Addr}
    {sl_law_before : Array (Option Value)}
    {oc_law_before kV_law_before dc_law_before pm_law_before cd_law_before ct_law_before : Value}
    {od_law an_law : Option Addr}
    {sl_law : Array (Option Value)}
    {oc_law kV_law dc_law pm_law cd_law ct_law : Value}
    (A_Tape : PySem.W.nsIn K mainGlobals (PySem.Str.ofString "Tape") = some (some (.ref C_Tape)))
    (a_law_numbers : PySem.W.nsIn K mainGlobals (PySem.Str.ofString "_law_numbers") = some (some (.ref f_law_numbers)))
    (l_law_numbers : K.lookup f_law_numbers = some ⟨oc_law_numbers, od_law_numbers, .func (PySem.W.fnOf (PySem.Str.ofString "_law_numbers") "_law_numbers" (defArgs s_law_numbers) (defBody s_law_numbers) (defScope s_law_numbers) .none kV_law_numbers dc_law_numbers pm_law_numbers an_law_numbers cd_law_numbers ct_law_numbers), sl_law_numbers⟩)
    (c_law_numbers : PySem.W.codeIn K cd_law_numbers "_law_numbers" = true)
    (k_law_numbers : PySem.W.keepIn K (.ref f_law_numbers) = true)
    (a_law_take : PySem.W.nsIn K mainGlobals (PySem.Str.ofString "_law_take") = some (some (.ref f_law_take)))
    (l_law_take : K.lookup f_law_take = some ⟨oc_law_take, od_law_take, .func (PySem.W.fnOf (PySem.Str.ofString "_law_take") "_law_take" (defArgs s_law_take) (defBody s_law_take) (defScope s_law_take) .none kV_law_take dc_law_take pm_law_take an_law_take cd_law_take ct_law_take), sl_law_take⟩)
    (c_law_take : PySem.W.codeIn K cd_law_take "_law_take" = true)
    (k_law_take : PySem.W.keepIn K (.ref f_law_take) = true)
    (a_law_sizes : PySem.W.nsIn K mainGlobals (PySem.Str.ofString "_law_sizes") = some (some (.ref f_law_sizes)))
    (l_law_sizes : K.lookup f_law_sizes = some ⟨oc_law_sizes, od_law_sizes, .func (PySem.W.fnOf (PySem.Str.ofString "_law_sizes") "_law_sizes" (defArgs s_law_sizes) (defBody s_law_sizes) (defScope s_law_sizes) .none kV_law_sizes dc_law_sizes pm_law_sizes an_law_sizes cd_law_sizes ct_law_sizes), sl_law_sizes⟩)
    (c_law_sizes : PySem.W.codeIn K cd_law_sizes "_law_sizes" = true)
    (k_law_sizes : PySem.W.keepIn K (.ref f_law_sizes) = true)
    (a_law_machine : PySem.W.nsIn K mainGlobals (PySem.Str.ofString "_law_machine") = some (some (.ref f_law_machine)))
    (l_law_machine : K.lookup f_law_machine = some ⟨oc_law_machine, od_law_machine, .func (PySem.W.fnOf (PySem.Str.ofString "_law_machine") "_law_machine" (defArgs s_law_machine) (defBody s_law_machine) (defScope s_law_machine) .none kV_law_machine dc_law_machine pm_law_machine an_law_machine cd_law_machine ct_law_machine), sl_law_machine⟩)
    (c_law_machine : PySem.W.codeIn K cd_law_machine "_law_machine" = true)
    (k_law_machine : PySem.W.keepIn K (.ref f_law_machine) = true)
    (a_is_whole : PySem.W.nsIn K mainGlobals (PySem.Str.ofString "is_whole") = some (some (.ref f_is_whole)))
    (l_is_whole : K.lookup f_is_whole = some ⟨oc_is_whole, od_is_whole, .func (PySem.W.fnOf (PySem.Str.ofString "is_whole") "is_whole" (defArgs s_is_whole) (defBody s_is_whole) (defScope s_is_whole) .none kV_is_whole dc_is_whole pm_is_whole an_is_whole cd_is_whole ct_is_whole), sl_is_whole⟩)
    (c_is_whole : PySem.W.codeIn K cd_is_whole "is_whole" = true)
    (k_is_whole : PySem.W.keepIn K (.ref f_is_whole) = true)
    (a_is_number : PySem.W.nsIn K mainGlobals (PySem.Str.ofString "is_number") = some (some (.ref f_is_number)))
    (l_is_number : K.lookup f_is_number = some ⟨oc_is_number, od_is_number, .func (PySem.W.fnOf (PySem.Str.ofString "is_number") "is_number" (defArgs s_is_number) (defBody s_is_number) (defScope s_is_number) .none kV_is_number dc_is_number pm_is_number an_is_number cd_is_number ct_is_number), sl_is_number⟩)
    (c_is_number : PySem.W.codeIn K cd_is_number "is_number" = true)
    (k_is_number : PySem.W.keepIn K (.ref f_is_number) = true)
    (a_is_row : PySem.W.nsIn K mainGlobals (PySem.Str.ofString "is_row") = some (some (.ref f_is_row)))
    (l_is_row : K.lookup f_is_row = some ⟨oc_is_row, od_is_row, .func (PySem.W.fnOf (PySem.Str.ofString "is_row") "is_row" (defArgs s_is_row) (defBody s_is_row) (defScope s_is_row) .none kV_is_row dc_is_row pm_is_row an_is_row cd_is_row ct_is_row), sl_is_row⟩)
    (c_is_row : PySem.W.codeIn K cd_is_row "is_row" = true)
    (k_is_row : PySem.W.keepIn K (.ref f_is_row) = true)
    (a_Tape_init : PySem.W.findIn K (.ref C_Tape) (PySem.Str.ofString "__init__") = some (some (.ref f_Tape_init)))
    (i_Tape_init : PySem.W.isFn K (.ref f_Tape_init) = true)
    (l_Tape_init : K.lookup f_Tape_init = some ⟨oc_Tape_init, od_Tape_init, .func (PySem.W.fnOf (PySem.Str.ofString "__init__") "Tape.__init__" (defArgs s_Tape_init) (defBody s_Tape_init) (defScope s_Tape_init) .none kV_Tape_init dc_Tape_init pm_Tape_init an_Tape_init cd_Tape_init ct_Tape_init), sl_Tape_init⟩)
    (c_Tape_init : PySem.W.codeIn K cd_Tape_init "Tape.__init__" = true)
    (k_Tape_init : PySem.W.keepIn K (.ref f_Tape_init) = true)
    (a_law_trim : PySem.W.nsIn K mainGlobals (PySem.Str.ofString "_law_trim") = some (some (.ref f_law_trim)))
    (l_law_trim : K.lookup f_law_trim = some ⟨oc_law_trim, od_law_trim, .func (PySem.W.fnOf (PySem.Str.ofString "_law_trim") "_law_trim" (defArgs s_law_trim) (defBody s_law_trim) (defScope s_law_trim) .none kV_law_trim dc_law_trim pm_law_trim an_law_trim cd_law_trim ct_law_trim), sl_law_trim⟩)
    (c_law_trim : PySem.W.codeIn K cd_law_trim "_law_trim" = true)
    (k_law_trim : PySem.W.keepIn K (.ref f_law_trim) = true)
    (a_law_side : PySem.W.nsIn K mainGlobals (PySem.Str.ofString "_law_side") = some (some (.ref f_law_side)))
    (l_law_side : K.lookup f_law_side = some ⟨oc_law_side, od_law_side, .func (PySem.W.fnOf (PySem.Str.ofString "_law_side") "_law_side" (defArgs s_law_side) (defBody s_law_side) (defScope s_law_side) .none kV_law_side dc_law_side pm_law_side an_law_side cd_law_side ct_law_side), sl_law_side⟩)
    (c_law_side : PySem.W.codeIn K cd_law_side "_law_side" = true)
    (k_law_side : PySem.W.keepIn K (.ref f_law_side) = true)
    (a_law_configuration : PySem.W.nsIn K mainGlobals (PySem.Str.ofString "_law_configuration") = some (some (.ref f_law_configuration)))
    (l_law_configuration : K.lookup f_law_configuration = some ⟨oc_law_configuration, od_law_configuration, .func (PySem.W.fnOf (PySem.Str.ofString "_law_configuration") "_law_configuration" (defArgs s_law_configuration) (defBody s_law_configuration) (defScope s_law_configuration) .none kV_law_configuration dc_law_configuration pm_law_configuration an_law_configuration cd_law_configuration ct_law_configuration), sl_law_configuration⟩)
    (c_law_configuration : PySem.W.codeIn K cd_law_configuration "_law_configuration" = true)
    (k_law_configuration : PySem.W.keepIn K (.ref f_law_configuration) = true)
    (a_law_clashes : PySem.W.nsIn K mainGlobals (PySem.Str.ofString "_law_clashes") = some (some (.ref f_law_clashes)))
    (l_law_clashes : K.lookup f_law_clashes = some ⟨oc_law_clashes, od_law_clashes, .func (PySem.W.fnOf (PySem.Str.ofString "_law_clashes") "_law_clashes" (defArgs s_law_clashes) (defBody s_law_clashes) (defScope s_law_clashes) .none kV_law_clashes dc_law_clashes pm_law_clashes an_law_clashes cd_law_clashes ct_law_clashes), sl_law_clashes⟩)
    (c_law_clashes : PySem.W.codeIn K cd_law_clashes "_law_clashes" = true)
    (k_law_clashes : PySem.W.keepIn K (.ref f_law_clashes) = true)
    (a_Tape_table : PySem.W.findIn K (.ref C_Tape) (PySem.Str.ofString "table") = some (some (.ref f_Tape_table)))
    (i_Tape_table : PySem.W.isFn K (.ref f_Tape_table) = true)
    (l_Tape_table : K.lookup f_Tape_table = some ⟨oc_Tape_table, od_Tape_table, .func (PySem.W.fnOf (PySem.Str.ofString "table") "Tape.table" (defArgs s_Tape_table) (defBody s_Tape_table) (defScope s_Tape_table) .none kV_Tape_table dc_Tape_table pm_Tape_table an_Tape_table cd_Tape_table ct_Tape_table), sl_Tape_table⟩)
    (c_Tape_table : PySem.W.codeIn K cd_Tape_table "Tape.table" = true)
    (k_Tape_table : PySem.W.keepIn K (.ref f_Tape_table) = true)
    (a_meet : PySem.W.nsIn K mainGlobals (PySem.Str.ofString "meet") = some (some (.ref f_meet)))
    (l_meet : K.lookup f_meet = some ⟨oc_meet, od_meet, .func (PySem.W.fnOf (PySem.Str.ofString "meet") "meet" (defArgs s_meet) (defBody s_meet) (defScope s_meet) .none kV_meet dc_meet pm_meet an_meet cd_meet ct_meet), sl_meet⟩)
    (c_meet : PySem.W.codeIn K cd_meet "meet" = true)
    (k_meet : PySem.W.keepIn K (.ref f_meet) = true)
    (a_clashes : PySem.W.nsIn K mainGlobals (PySem.Str.ofString "clashes") = some (some (.ref f_clashes)))
    (l_clashes : K.lookup f_clashes = some ⟨oc_clashes, od_clashes, .func (PySem.W.fnOf (PySem.Str.ofString "clashes") "clashes" (defArgs s_clashes) (defBody s_clashes) (defScope s_clashes) .none kV_clashes dc_clashes pm_clashes an_clashes cd_clashes ct_clashes), sl_clashes⟩)
    (c_clashes : PySem.W.codeIn K cd_clashes "clashes" = true)
    (k_clashes : PySem.W.keepIn K (.ref f_clashes) = true)
    (a_Tape_row : PySem.W.findIn K (.ref C_Tape) (PySem.Str.ofString "row") = some (some (.ref f_Tape_row)))
    (i_Tape_row : PySem.W.isFn K (.ref f_Tape_row) = true)
    (l_Tape_row : K.lookup f_Tape_row = some ⟨oc_Tape_row, od_Tape_row, .func (PySem.W.fnOf (PySem.Str.ofString "row") "Tape.row" (defArgs s_Tape_row) (defBody s_Tape_row) (defScope s_Tape_row) .none kV_Tape_row dc_Tape_row pm_Tape_row an_Tape_row cd_Tape_row ct_Tape_row), sl_Tape_row⟩)
    (c_Tape_row : PySem.W.codeIn K cd_Tape_row "Tape.row" = true)
    (k_Tape_row : PySem.W.keepIn K (.ref f_Tape_row) = true)
    (a_pushed : PySem.W.nsIn K mainGlobals (PySem.Str.ofString "pushed") = some (some (.ref f_pushed)))
    (l_pushed : K.lookup f_pushed = some ⟨oc_pushed, od_pushed, .func (PySem.W.fnOf (PySem.Str.ofString "pushed") "pushed" (defArgs s_pushed) (defBody s_pushed) (defScope s_pushed) .none kV_pushed dc_pushed pm_pushed an_pushed cd_pushed ct_pushed), sl_pushed⟩)
    (c_pushed : PySem.W.codeIn K cd_pushed "pushed" = true)
    (k_pushed : PySem.W.keepIn K (.ref f_pushed) = true)
    (a_nearest : PySem.W.nsIn K mainGlobals (PySem.Str.ofString "nearest") = some (some (.ref f_nearest)))
    (l_nearest : K.lookup f_nearest = some ⟨oc_nearest, od_nearest, .func (PySem.W.fnOf (PySem.Str.ofString "nearest") "nearest" (defArgs s_nearest) (defBody s_nearest) (defScope s_nearest) .none kV_nearest dc_nearest pm_nearest an_nearest cd_nearest ct_nearest), sl_nearest⟩)
    (c_nearest : PySem.W.codeIn K cd_nearest "nearest" = true)
    (k_nearest : PySem.W.keepIn K (.ref f_nearest) = true)
    (a_moved : PySem.W.nsIn K mainGlobals (PySem.Str.ofString "moved") = some (some (.ref f_moved)))
    (l_moved : K.lookup f_moved = some ⟨oc_moved, od_moved, .func (PySem.W.fnOf (PySem.Str.ofString "moved") "moved" (defArgs s_moved) (defBody s_moved) (defScope s_moved) .none kV_moved dc_moved pm_moved an_moved cd_moved ct_moved), sl_moved⟩)
    (c_moved : PySem.W.codeIn K cd_moved "moved" = true)
    (k_moved : PySem.W.keepIn K (.ref f_moved) = true)
    (a_before : PySem.W.nsIn K mainGlobals (PySem.Str.ofString "before") = some (some (.ref f_before)))
    (l_before : K.lookup f_before = some ⟨oc_before, od_before, .func (PySem.W.fnOf (PySem.Str.ofString "before") "before" (defArgs s_before) (defBody s_before) (defScope s_before) .none kV_before dc_before pm_before an_before cd_before ct_before), sl_before⟩)
    (c_before : PySem.W.codeIn K cd_before "before" = true)
    (k_before : PySem.W.keepIn K (.ref f_before) = true)
    (a_law_same : PySem.W.nsIn K mainGlobals (PySem.Str.ofString "_law_same") = some (some (.ref f_law_same)))
    (l_law_same : K.lookup f_law_same = some ⟨oc_law_same, od_law_same, .func (PySem.W.fnOf (PySem.Str.ofString "_law_same") "_law_same" (defArgs s_law_same) (defBody s_law_same) (defScope s_law_same) .none kV_law_same dc_law_same pm_law_same an_law_same cd_law_same ct_law_same), sl_law_same⟩)
    (c_law_same : PySem.W.codeIn K cd_law_same "_law_same" = true)
    (k_law_same : PySem.W.keepIn K (.ref f_law_same) = true)
    (a_forgets : PySem.W.nsIn K mainGlobals (PySem.Str.ofString "forgets") = some (some (.ref f_forgets)))
    (l_forgets : K.lookup f_forgets = some ⟨oc_forgets, od_forgets, .func (PySem.W.fnOf (PySem.Str.ofString "forgets") "forgets" (defArgs s_forgets) (defBody s_forgets) (defScope s_forgets) .none kV_forgets dc_forgets pm_forgets an_forgets cd_forgets ct_forgets), sl_forgets⟩)
    (c_forgets : PySem.W.codeIn K cd_forgets "forgets" = true)
    (k_forgets : PySem.W.keepIn K (.ref f_forgets) = true)
    (a_law_two : PySem.W.nsIn K mainGlobals (PySem.Str.ofString "_law_two") = some (some (.ref f_law_two)))
    (l_law_two : K.lookup f_law_two = some ⟨oc_law_two, od_law_two, .func (PySem.W.fnOf (PySem.Str.ofString "_law_two") "_law_two" (defArgs s_law_two) (defBody s_law_two) (defScope s_law_two) .none kV_law_two dc_law_two pm_law_two an_law_two cd_law_two ct_law_two), sl_law_two⟩)
    (c_law_two : PySem.W.codeIn K cd_law_two "_law_two" = true)
    (k_law_two : PySem.W.keepIn K (.ref f_law_two) = true)
    (a_law_step : PySem.W.nsIn K mainGlobals (PySem.Str.ofString "_law_step") = some (some (.ref f_law_step)))
    (l_law_step : K.lookup f_law_step = some ⟨oc_law_step, od_law_step, .func (PySem.W.fnOf (PySem.Str.ofString "_law_step") "_law_step" (defArgs s_law_step) (defBody s_law_step) (defScope s_law_step) .none kV_law_step dc_law_step pm_law_step an_law_step cd_law_step ct_law_step), sl_law_step⟩)
    (c_law_step : PySem.W.codeIn K cd_law_step "_law_step" = true)
    (k_law_step : PySem.W.keepIn K (.ref f_law_step) = true)
    (a_law_before : PySem.W.nsIn K mainGlobals (PySem.Str.ofString "_law_before") = some (some (.ref f_law_before)))
    (l_law_before : K.lookup f_law_before = some ⟨oc_law_before, od_law_before, .func (PySem.W.fnOf (PySem.Str.ofString "_law_before") "_law_before" (defArgs s_law_before) (defBody s_law_before) (defScope s_law_before) .none kV_law_before dc_law_before pm_law_before an_law_before cd_law_before ct_law_before), sl_law_before⟩)
    (c_law_before : PySem.W.codeIn K cd_law_before "_law_before" = true)
    (k_law_before : PySem.W.keepIn K (.ref f_law_before) = true)
    (a_law : PySem.W.nsIn K mainGlobals (PySem.Str.ofString "law") = some (some (.ref f_law)))
    (l_law : K.lookup f_law = some ⟨oc_law, od_law, .func (PySem.W.fnOf (PySem.Str.ofString "law") "law" (defArgs s_law) (defBody s_law) (defScope s_law) .none kV_law dc_law pm_law an_law cd_law ct_law), sl_law⟩)
    (c_law : PySem.W.codeIn K cd_law "law" = true)
    (k_law : PySem.W.keepIn K (.ref f_law) = true)
    (pg_Tape : PySem.W.plainGet K C_Tape Str.empty = true)
    (hd_Tape : PySem.W.hasDictIn K C_Tape = true)
    (po_Tape : PySem.W.plainOver K C_Tape = true)
    (sa_Tape : PySem.W.findIn K (.ref C_Tape) (PySem.Str.ofString "__setattr__") = some (some (.builtin "object.__setattr__")))
    (mk_Tape : PySem.W.makesIn K C_Tape = true)
    (kc_Tape : PySem.W.keepIn K (.ref C_Tape) = true)
    (n_Tape_rows : PySem.W.findIn K (.ref C_Tape) (PySem.Str.ofString "_rows") = some none)
    (n_Tape_marks : PySem.W.findIn K (.ref C_Tape) (PySem.Str.ofString "marks") = some none)
    (n_Tape_states : PySem.W.findIn K (.ref C_Tape) (PySem.Str.ofString "states") = some none)
    (z_abs : PySem.W.nsIn K mainGlobals (PySem.Str.ofString "abs") = some none)
    (z_bool : PySem.W.nsIn K mainGlobals (PySem.Str.ofString "bool") = some none)
    (z_int : PySem.W.nsIn K mainGlobals (PySem.Str.ofString "int") = some none)
    (z_isinstance : PySem.W.nsIn K mainGlobals (PySem.Str.ofString "isinstance") = some none)
    (z_len : PySem.W.nsIn K mainGlobals (PySem.Str.ofString "len") = some none)
    (z_list : PySem.W.nsIn K mainGlobals (PySem.Str.ofString "list") = some none)
    (z_max : PySem.W.nsIn K mainGlobals (PySem.Str.ofString "max") = some none)
    (z_range : PySem.W.nsIn K mainGlobals (PySem.Str.ofString "range") = some none)
    (z_reversed : PySem.W.nsIn K mainGlobals (PySem.Str.ofString "reversed") = some none)
    (z_sorted : PySem.W.nsIn K mainGlobals (PySem.Str.ofString "sorted") = some none)
    (z_str : PySem.W.nsIn K mainGlobals (PySem.Str.ofString "str") = some none)
    (z_tuple : PySem.W.nsIn K mainGlobals (PySem.Str.ofString "tuple") = some none)
    : ∃ fd : FuncData, (∀ (s : Shared) (v : Value), BindsTo s fd ⟨[v], []⟩ [("script", v)]) ∧ ∀ base : Heap, K.In base → base.Ns mainGlobals mg → FnOk l.prog w K mg base (L2.CX l.prog w) 10 fa fd ["script"] (lift K 1 sp_top) := by
  have e := hfa.symm.trans (PySem.W.mg_of X G a_law)
  cases e
  let Γ : Ctx := ⟨C_Tape⟩
  have b_abs : mg (PySem.Str.ofString "abs") = none := PySem.W.mg_none_of X G z_abs
  have b_bool : mg (PySem.Str.ofString "bool") = none := PySem.W.mg_none_of X G z_bool
  have b_int : mg (PySem.Str.ofString "int") = none := PySem.W.mg_none_of X G z_int
  have b_isinstance : mg (PySem.Str.ofString "isinstance") = none := PySem.W.mg_none_of X G z_isinstance
  have b_len : mg (PySem.Str.ofString "len") = none := PySem.W.mg_none_of X G z_len
  have b_list : mg (PySem.Str.ofString "list") = none := PySem.W.mg_none_of X G z_list
  have b_max : mg (PySem.Str.ofString "max") = none := PySem.W.mg_none_of X G z_max
  have b_range : mg (PySem.Str.ofString "range") = none := PySem.W.mg_none_of X G z_range
  have b_reversed : mg (PySem.Str.ofString "reversed") = none := PySem.W.mg_none_of X G z_reversed
  have b_sorted : mg (PySem.Str.ofString "sorted") = none := PySem.W.mg_none_of X G z_sorted
  have b_str : mg (PySem.Str.ofString "str") = none := PySem.W.mg_none_of X G z_str
  have b_tuple : mg (PySem.Str.ofString "tuple") = none := PySem.W.mg_none_of X G z_tuple
  have cl_Tape : ClTape K Γ.Tape := ⟨⟨pg_Tape, hd_Tape, po_Tape, sa_Tape⟩, n_Tape_rows, n_Tape_marks, n_Tape_states⟩
  have T : Txt K mg Γ := ⟨b_abs, b_bool, b_int, b_isinstance, b_len, b_list, b_max, b_range, b_reversed, b_sorted, b_str, b_tuple, cl_Tape⟩
  have F_law_numbers := fun_mk (st := s_law_numbers) l_law_numbers c_law_numbers k_law_numbers
  have B_law_numbers := F_law_numbers.binds (ps := ["script", "many"]) fun _ _ _ _ _ _ us hl => match us, hl with | [_, _], _ => rfl
  have F_law_take := fun_mk (st := s_law_take) l_law_take c_law_take k_law_take
  have B_law_take := F_law_take.binds (ps := ["numbers", "place"]) fun _ _ _ _ _ _ us hl => match us, hl with | [_, _], _ => rfl
  have F_law_sizes := fun_mk (st := s_law_sizes) l_law_sizes c_law_sizes k_law_sizes
  have B_law_sizes := F_law_sizes.binds (ps := ["numbers", "place"]) fun _ _ _ _ _ _ us hl => match us, hl with | [_, _], _ => rfl
  have F_law_machine := fun_mk (st := s_law_machine) l_law_machine c_law_machine k_law_machine
  have B_law_machine := F_law_machine.binds (ps := ["numbers", "place", "marks", "states"]) fun _ _ _ _ _ _ us hl => match us, hl with | [_, _, _, _], _ => rfl
  have F_is_whole := fun_mk (st := s_is_whole) l_is_whole c_is_whole k_is_whole
  have B_is_whole := F_is_whole.binds (ps := ["value"]) fun _ _ _ _ _ _ us hl => match us, hl with | [_], _ => rfl
  have F_is_number := fun_mk (st := s_is_number) l_is_number c_is_number k_is_number
  have B_is_number := F_is_number.binds (ps := ["value", "low", "high"]) fun _ _ _ _ _ _ us hl => match us, hl with | [_, _, _], _ => rfl
  have F_is_row := fun_mk (st := s_is_row) l_is_row c_is_row k_is_row
  have B_is_row := F_is_row.binds (ps := ["row", "marks", "states"]) fun _ _ _ _ _ _ us hl => match us, hl with | [_, _, _], _ => rfl
  have F_Tape_init := fun_mk (st := s_Tape_init) l_Tape_init c_Tape_init k_Tape_init
  have B_Tape_init := F_Tape_init.binds (ps := ["self", "marks", "states", "rows"]) fun _ _ _ _ _ _ us hl => match us, hl with | [_, _, _, _], _ => rfl
  have F_law_trim := fun_mk (st := s_law_trim) l_law_trim c_law_trim k_law_trim
  have B_law_trim := F_law_trim.binds (ps := ["marks"]) fun _ _ _ _ _ _ us hl => match us, hl with | [_], _ => rfl
  have F_law_side := fun_mk (st := s_law_side) l_law_side c_law_side k_law_side
  have B_law_side := F_law_side.binds (ps := ["numbers", "place", "marks", "most"]) fun _ _ _ _ _ _ us hl => match us, hl with | [_, _, _, _], _ => rfl
  have F_law_configuration := fun_mk (st := s_law_configuration) l_law_configuration c_law_configuration k_law_configuration
  have B_law_configuration := F_law_configuration.binds (ps := ["numbers", "place", "marks", "states", "most"]) fun _ _ _ _ _ _ us hl => match us, hl with | [_, _, _, _, _], _ => rfl
  have F_law_clashes := fun_mk (st := s_law_clashes) l_law_clashes c_law_clashes k_law_clashes
  have B_law_clashes := F_law_clashes.binds (ps := ["rows", "sizes"]) fun _ _ _ _ _ _ us hl => match us, hl with | [_, _], _ => rfl
  have F_Tape_table := fun_mk (st := s_Tape_table) l_Tape_table c_Tape_table k_Tape_table
  have B_Tape_table := F_Tape_table.binds (ps := ["self"]) fun _ _ _ _ _ _ us hl => match us, hl with | [_], _ => rfl
  have F_meet := fun_mk (st := s_meet) l_meet c_meet k_meet
  have B_meet := F_meet.binds (ps := ["one", "two"]) fun _ _ _ _ _ _ us hl => match us, hl with | [_, _], _ => rfl
  have F_clashes := fun_mk (st := s_clashes) l_clashes c_clashes k_clashes
  have B_clashes := F_clashes.binds (ps := ["machine"]) fun _ _ _ _ _ _ us hl => match us, hl with | [_], _ => rfl
  have F_Tape_row := fun_mk (st := s_Tape_row) l_Tape_row c_Tape_row k_Tape_row
  have B_Tape_row := F_Tape_row.binds (ps := ["self", "state", "mark"]) fun _ _ _ _ _ _ us hl => match us, hl with | [_, _, _], _ => rfl
  have F_pushed := fun_mk (st := s_pushed) l_pushed c_pushed k_pushed
  have B_pushed := F_pushed.binds (ps := ["mark", "side"]) fun _ _ _ _ _ _ us hl => match us, hl with | [_, _], _ => rfl
  have F_nearest := fun_mk (st := s_nearest) l_nearest c_nearest k_nearest
  have B_nearest := F_nearest.binds (ps := ["side"]) fun _ _ _ _ _ _ us hl => match us, hl with | [_], _ => rfl
  have F_moved := fun_mk (st := s_moved) l_moved c_moved k_moved
  have B_moved := F_moved.binds (ps := ["tape", "move"]) fun _ _ _ _ _ _ us hl => match us, hl with | [_, _], _ => rfl
  have F_before := fun_mk (st := s_before) l_before c_before k_before
  have B_before := F_before.binds (ps := ["machine", "configuration"]) fun _ _ _ _ _ _ us hl => match us, hl with | [_, _], _ => rfl
  have F_law_same := fun_mk (st := s_law_same) l_law_same c_law_same k_law_same
  have B_law_same := F_law_same.binds (ps := ["actual", "expected"]) fun _ _ _ _ _ _ us hl => match us, hl with | [_, _], _ => rfl
  have F_forgets := fun_mk (st := s_forgets) l_forgets c_forgets k_forgets
  have B_forgets := F_forgets.binds (ps := ["machine"]) fun _ _ _ _ _ _ us hl => match us, hl with | [_], _ => rfl
  have F_law_two := fun_mk (st := s_law_two) l_law_two c_law_two k_law_two
  have B_law_two := F_law_two.binds (ps := ["rows", "sizes", "pair"]) fun _ _ _ _ _ _ us hl => match us, hl with | [_, _, _], _ => rfl
  have F_law_step := fun_mk (st := s_law_step) l_law_step c_law_step k_law_step
  have B_law_step := F_law_step.binds (ps := ["rows", "marks", "spot"]) fun _ _ _ _ _ _ us hl => match us, hl with | [_, _, _], _ => rfl
  have F_law_before := fun_mk (st := s_law_before) l_law_before c_law_before k_law_before
  have B_law_before := F_law_before.binds (ps := ["rows", "sizes", "spot"]) fun _ _ _ _ _ _ us hl => match us, hl with | [_, _, _], _ => rfl
  have F_law := fun_mk (st := s_law) l_law c_law k_law
  have B_law := F_law.binds (ps := ["script"]) fun _ _ _ _ _ _ us hl => match us, hl with | [_], _ => rfl
  refine ⟨PySem.W.fnOf "law" "law" (defArgs s_law) (defBody s_law) (defScope s_law) .none kV_law dc_law pm_law an_law cd_law ct_law, fun s v => .of_eq rfl, fun base _ _ => ?_⟩
  have G_law_numbers : GFn l.prog w K mg base (PySem.Str.ofString "_law_numbers") 1 ["script", "many"] (sp_law_numbers Γ) := ⟨⟨f_law_numbers, _, ok_law_numbers F_law_numbers T , PySem.W.mg_of X G a_law_numbers, k_law_numbers, B_law_numbers⟩⟩
  have G_law_take : GFn l.prog w K mg base (PySem.Str.ofString "_law_take") 1 ["numbers", "place"] (sp_law_take Γ) := ⟨⟨f_law_take, _, ok_law_take F_law_take T , PySem.W.mg_of X G a_law_take, k_law_take, B_law_take⟩⟩
  have G_law_sizes : GFn l.prog w K mg base (PySem.Str.ofString "_law_sizes") 2 ["numbers", "place"] (sp_law_sizes Γ) := ⟨⟨f_law_sizes, _, ok_law_sizes F_law_sizes T G_law_take, PySem.W.mg_of X G a_law_sizes, k_law_sizes, B_law_sizes⟩⟩
  have G_law_machine : GFn l.prog w K mg base (PySem.Str.ofString "_law_machine") 2 ["numbers", "place", "marks", "states"] (sp_law_machine Γ) := ⟨⟨f_law_machine, _, ok_law_machine F_law_machine T G_law_take, PySem.W.mg_of X G a_law_machine, k_law_machine, B_law_machine⟩⟩
  have G_is_whole : GFn l.prog w K mg base (PySem.Str.ofString "is_whole") 1 ["value"] (sp_is_whole Γ) := ⟨⟨f_is_whole, _, ok_is_whole F_is_whole T , PySem.W.mg_of X G a_is_whole, k_is_whole, B_is_whole⟩⟩
  have G_is_number : GFn l.prog w K mg base (PySem.Str.ofString "is_number") 2 ["value", "low", "high"] (sp_is_number Γ) := ⟨⟨f_is_number, _, ok_is_number F_is_number T G_is_whole, PySem.W.mg_of X G a_is_number, k_is_number, B_is_number⟩⟩
  have G_is_row : GFn l.prog w K mg base (PySem.Str.ofString "is_row") 3 ["row", "marks", "states"] (sp_is_row Γ) := ⟨⟨f_is_row, _, ok_is_row F_is_row T G_is_number, PySem.W.mg_of X G a_is_row, k_is_row, B_is_row⟩⟩
  have G_Tape_init : GMk l.prog w K mg base (PySem.Str.ofString "Tape") Γ.Tape 4 ["self", "marks", "states", "rows"] (sp_Tape_init Γ) := ⟨⟨f_Tape_init, _, ok_Tape_init F_Tape_init T G_is_number G_is_row, PySem.W.mg_of X G A_Tape, ⟨mk_Tape, a_Tape_init, i_Tape_init, kc_Tape⟩, B_Tape_init⟩⟩
  have G_law_trim : GFn l.prog w K mg base (PySem.Str.ofString "_law_trim") 1 ["marks"] (sp_law_trim Γ) := ⟨⟨f_law_trim, _, ok_law_trim F_law_trim T , PySem.W.mg_of X G a_law_trim, k_law_trim, B_law_trim⟩⟩
  have G_law_side : GFn l.prog w K mg base (PySem.Str.ofString "_law_side") 2 ["numbers", "place", "marks", "most"] (sp_law_side Γ) := ⟨⟨f_law_side, _, ok_law_side F_law_side T G_law_trim G_law_take, PySem.W.mg_of X G a_law_side, k_law_side, B_law_side⟩⟩
  have G_law_configuration : GFn l.prog w K mg base (PySem.Str.ofString "_law_configuration") 3 ["numbers", "place", "marks", "states", "most"] (sp_law_configuration Γ) := ⟨⟨f_law_configuration, _, ok_law_configuration F_law_configuration T G_law_side G_law_take, PySem.W.mg_of X G a_law_configuration, k_law_configuration, B_law_configuration⟩⟩
  have G_law_clashes : GFn l.prog w K mg base (PySem.Str.ofString "_law_clashes") 1 ["rows", "sizes"] (sp_law_clashes Γ) := ⟨⟨f_law_clashes, _, ok_law_clashes F_law_clashes T , PySem.W.mg_of X G a_law_clashes, k_law_clashes, B_law_clashes⟩⟩
  have G_Tape_table : GMt l.prog w K mg base Γ.Tape (PySem.Str.ofString "table") 1 ["self"] (sp_Tape_table Γ) := ⟨⟨f_Tape_table, _, ok_Tape_table F_Tape_table T , ⟨a_Tape_table, i_Tape_table, k_Tape_table⟩, B_Tape_table⟩⟩
  have G_meet : GFn l.prog w K mg base (PySem.Str.ofString "meet") 1 ["one", "two"] (sp_meet Γ) := ⟨⟨f_meet, _, ok_meet F_meet T , PySem.W.mg_of X G a_meet, k_meet, B_meet⟩⟩
  have G_clashes : GFn l.prog w K mg base (PySem.Str.ofString "clashes") 2 ["machine"] (sp_clashes Γ) := ⟨⟨f_clashes, _, ok_clashes F_clashes T G_Tape_table G_meet, PySem.W.mg_of X G a_clashes, k_clashes, B_clashes⟩⟩
  have G_Tape_row : GMt l.prog w K mg base Γ.Tape (PySem.Str.ofString "row") 3 ["self", "state", "mark"] (sp_Tape_row Γ) := ⟨⟨f_Tape_row, _, ok_Tape_row F_Tape_row T G_is_number, ⟨a_Tape_row, i_Tape_row, k_Tape_row⟩, B_Tape_row⟩⟩
  have G_pushed : GFn l.prog w K mg base (PySem.Str.ofString "pushed") 1 ["mark", "side"] (sp_pushed Γ) := ⟨⟨f_pushed, _, ok_pushed F_pushed T , PySem.W.mg_of X G a_pushed, k_pushed, B_pushed⟩⟩
  have G_nearest : GFn l.prog w K mg base (PySem.Str.ofString "nearest") 1 ["side"] (sp_nearest Γ) := ⟨⟨f_nearest, _, ok_nearest F_nearest T , PySem.W.mg_of X G a_nearest, k_nearest, B_nearest⟩⟩
  have G_moved : GFn l.prog w K mg base (PySem.Str.ofString "moved") 2 ["tape", "move"] (sp_moved Γ) := ⟨⟨f_moved, _, ok_moved F_moved T G_pushed G_nearest, PySem.W.mg_of X G a_moved, k_moved, B_moved⟩⟩
  have G_before : GFn l.prog w K mg base (PySem.Str.ofString "before") 4 ["machine", "configuration"] (sp_before Γ) := ⟨⟨f_before, _, ok_before F_before T G_Tape_row G_moved, PySem.W.mg_of X G a_before, k_before, B_before⟩⟩
  have G_law_same : GFn l.prog w K mg base (PySem.Str.ofString "_law_same") 9 ["actual", "expected"] (sp_law_same Γ) := ⟨⟨f_law_same, _, ok_law_same F_law_same T  (PySem.W.mg_of X G a_law_same) k_law_same B_law_same 8, PySem.W.mg_of X G a_law_same, k_law_same, B_law_same⟩⟩
  have G_forgets : GFn l.prog w K mg base (PySem.Str.ofString "forgets") 3 ["machine"] (sp_forgets Γ) := ⟨⟨f_forgets, _, ok_forgets F_forgets T G_clashes, PySem.W.mg_of X G a_forgets, k_forgets, B_forgets⟩⟩
  have G_law_two : GFn l.prog w K mg base (PySem.Str.ofString "_law_two") 2 ["rows", "sizes", "pair"] (sp_law_two Γ) := ⟨⟨f_law_two, _, ok_law_two F_law_two T G_law_trim, PySem.W.mg_of X G a_law_two, k_law_two, B_law_two⟩⟩
  have G_law_step : GFn l.prog w K mg base (PySem.Str.ofString "_law_step") 2 ["rows", "marks", "spot"] (sp_law_step Γ) := ⟨⟨f_law_step, _, ok_law_step F_law_step T G_law_trim, PySem.W.mg_of X G a_law_step, k_law_step, B_law_step⟩⟩
  have G_law_before : GFn l.prog w K mg base (PySem.Str.ofString "_law_before") 2 ["rows", "sizes", "spot"] (sp_law_before Γ) := ⟨⟨f_law_before, _, ok_law_before F_law_before T G_law_trim, PySem.W.mg_of X G a_law_before, k_law_before, B_law_before⟩⟩
  have r := ok_law (P := l.prog) (w := w) (base := base) F_law T G_law_numbers G_law_sizes G_law_machine G_Tape_init G_law_configuration G_law_clashes G_clashes G_before G_law_same G_forgets G_law_two G_law_step G_law_take G_law_before
  exact r
theorem walk {l : PySem.W.OpenLaw} {q : Program} {loose : List Str} {XP : (Str → Option Value) → Heap → Prop} {YP : World → Heap → Prop} {d : DefRec} {K : Params → PySem.W.Frag} (hn : l.most = some 63) (hdf : d.params.defaults = [])
    (hY : ∀ (w : World) (h : Heap), YP w h → (K w.params).In h)
    (F : ∀ (w : World) (mg : Str → Option Value) (fa : Addr) (h : Heap), (K w.params).In h → h.Ns mainGlobals mg → mg d.name = some (.ref fa) →
      ∃ fd : FuncData, (∀ (s : Shared) (u : Value), BindsTo s fd ⟨[u], []⟩ [("script", u)]) ∧ ∀ base : Heap, (K w.params).In base → base.Ns mainGlobals mg → FnOk l.prog w (K w.params) mg base (L2.CX l.prog w) 10 fa fd ["script"] (lift (K w.params) 1 sp_top)) :
    PySem.W.WalkO q loose XP YP l.row.toRowW d [] (fun f vs => PySem.call f vs) :=
  L2.walk_of (n := 63) (k := 10) (x := "script") (CX := fun w => L2.CX l.prog w) (sp := fun w => lift (K w.params) 1 sp_top) hn (by decide) hdf ⟨rfl, by decide, by decide⟩ hY F (fun w H a ns hl _ hS => top_law hl hS) fun _ _ _ _ _ z => top_cx z
end My
set_option Elab.async false
set_option linter.all false
open PySem PySem.W PyProof.Rows
set_option maxRecDepth 100000 in
set_option maxHeartbeats 0 in
theorem PySem.Challenge.cw_backstair_k05_where_a_machine_forgets_holds : PySem.Challenge.rw_backstair_k05_where_a_machine_forgets.Holds := by
  w_on; o_law; k_head; (case hw => w_witness2)
  k_fill
  refine My.walk (l := PySem.Challenge.rw_backstair_k05_where_a_machine_forgets) rfl rfl (fun w h Y => PySem.W.kIn_of Y) ?F
  case F =>
    intro w mg fa h KX G hmg
    refine' My.all_mk KX G hmg ?A_Tape ?a_law_numbers ?l_law_numbers ?c_law_numbers ?k_law_numbers ?a_law_take ?l_law_take ?c_law_take ?k_law_take ?a_law_sizes ?l_law_sizes ?c_law_sizes ?k_law_sizes ?a_law_machine ?l_law_machine ?c_law_machine ?k_law_machine ?a_is_whole ?l_is_whole ?c_is_whole ?k_is_whole ?a_is_number ?l_is_number ?c_is_number ?k_is_number ?a_is_row ?l_is_row ?c_is_row ?k_is_row ?a_Tape_init ?i_Tape_init ?l_Tape_init ?c_Tape_init ?k_Tape_init ?a_law_trim ?l_law_trim ?c_law_trim ?k_law_trim ?a_law_side ?l_law_side ?c_law_side ?k_law_side ?a_law_configuration ?l_law_configuration ?c_law_configuration ?k_law_configuration ?a_law_clashes ?l_law_clashes ?c_law_clashes ?k_law_clashes ?a_Tape_table ?i_Tape_table ?l_Tape_table ?c_Tape_table ?k_Tape_table ?a_meet ?l_meet ?c_meet ?k_meet ?a_clashes ?l_clashes ?c_clashes ?k_clashes ?a_Tape_row ?i_Tape_row ?l_Tape_row ?c_Tape_row ?k_Tape_row ?a_pushed ?l_pushed ?c_pushed ?k_pushed ?a_nearest ?l_nearest ?c_nearest ?k_nearest ?a_moved ?l_moved ?c_moved ?k_moved ?a_before ?l_before ?c_before ?k_before ?a_law_same ?l_law_same ?c_law_same ?k_law_same ?a_forgets ?l_forgets ?c_forgets ?k_forgets ?a_law_two ?l_law_two ?c_law_two ?k_law_two ?a_law_step ?l_law_step ?c_law_step ?k_law_step ?a_law_before ?l_law_before ?c_law_before ?k_law_before ?a_law ?l_law ?c_law ?k_law ?pg_Tape ?hd_Tape ?po_Tape ?sa_Tape ?mk_Tape ?kc_Tape ?n_Tape_rows ?n_Tape_marks ?n_Tape_states ?z_abs ?z_bool ?z_int ?z_isinstance ?z_len ?z_list ?z_max ?z_range ?z_reversed ?z_sorted ?z_str ?z_tuple
    (case A_Tape => k_is)
    (case a_law_numbers => k_is)
    (case l_law_numbers => k_is)
    (case c_law_numbers => k_is)
    (case k_law_numbers => k_is)
    (case a_law_take => k_is)
    (case l_law_take => k_is)
    (case c_law_take => k_is)
    (case k_law_take => k_is)
    (case a_law_sizes => k_is)
    (case l_law_sizes => k_is)
    (case c_law_sizes => k_is)
    (case k_law_sizes => k_is)
    (case a_law_machine => k_is)
    (case l_law_machine => k_is)
    (case c_law_machine => k_is)
    (case k_law_machine => k_is)
    (case a_is_whole => k_is)
    (case l_is_whole => k_is)
    (case c_is_whole => k_is)
    (case k_is_whole => k_is)
    (case a_is_number => k_is)
    (case l_is_number => k_is)
    (case c_is_number => k_is)
    (case k_is_number => k_is)
    (case a_is_row => k_is)
    (case l_is_row => k_is)
    (case c_is_row => k_is)
    (case k_is_row => k_is)
    (case a_Tape_init => k_is)
    (case i_Tape_init => k_is)
    (case l_Tape_init => k_is)
    (case c_Tape_init => k_is)
    (case k_Tape_init => k_is)
    (case a_law_trim => k_is)
    (case l_law_trim => k_is)
    (case c_law_trim => k_is)
    (case k_law_trim => k_is)
    (case a_law_side => k_is)
    (case l_law_side => k_is)
    (case c_law_side => k_is)
    (case k_law_side => k_is)
    (case a_law_configuration => k_is)
    (case l_law_configuration => k_is)
    (case c_law_configuration => k_is)
    (case k_law_configuration => k_is)
    (case a_law_clashes => k_is)
    (case l_law_clashes => k_is)
    (case c_law_clashes => k_is)
    (case k_law_clashes => k_is)
    (case a_Tape_table => k_is)
    (case i_Tape_table => k_is)
    (case l_Tape_table => k_is)
    (case c_Tape_table => k_is)
    (case k_Tape_table => k_is)
    (case a_meet => k_is)
    (case l_meet => k_is)
    (case c_meet => k_is)
    (case k_meet => k_is)
    (case a_clashes => k_is)
    (case l_clashes => k_is)
    (case c_clashes => k_is)
    (case k_clashes => k_is)
    (case a_Tape_row => k_is)
    (case i_Tape_row => k_is)
    (case l_Tape_row => k_is)
    (case c_Tape_row => k_is)
    (case k_Tape_row => k_is)
    (case a_pushed => k_is)
    (case l_pushed => k_is)
    (case c_pushed => k_is)
    (case k_pushed => k_is)
    (case a_nearest => k_is)
    (case l_nearest => k_is)
    (case c_nearest => k_is)
    (case k_nearest => k_is)
    (case a_moved => k_is)
    (case l_moved => k_is)
    (case c_moved => k_is)
    (case k_moved => k_is)
    (case a_before => k_is)
    (case l_before => k_is)
    (case c_before => k_is)
    (case k_before => k_is)
    (case a_law_same => k_is)
    (case l_law_same => k_is)
    (case c_law_same => k_is)
    (case k_law_same => k_is)
    (case a_forgets => k_is)
    (case l_forgets => k_is)
    (case c_forgets => k_is)
    (case k_forgets => k_is)
    (case a_law_two => k_is)
    (case l_law_two => k_is)
    (case c_law_two => k_is)
    (case k_law_two => k_is)
    (case a_law_step => k_is)
    (case l_law_step => k_is)
    (case c_law_step => k_is)
    (case k_law_step => k_is)
    (case a_law_before => k_is)
    (case l_law_before => k_is)
    (case c_law_before => k_is)
    (case k_law_before => k_is)
    (case a_law => k_is)
    (case l_law => k_is)
    (case c_law => k_is)
    (case k_law => k_is)
    (case pg_Tape => k_is)
    (case hd_Tape => k_is)
    (case po_Tape => k_is)
    (case sa_Tape => k_is)
    (case mk_Tape => k_is)
    (case kc_Tape => k_is)
    (case n_Tape_rows => k_is)
    (case n_Tape_marks => k_is)
    (case n_Tape_states => k_is)
    (case z_abs => k_is)
    (case z_bool => k_is)
    (case z_int => k_is)
    (case z_isinstance => k_is)
    (case z_len => k_is)
    (case z_list => k_is)
    (case z_max => k_is)
    (case z_range => k_is)
    (case z_reversed => k_is)
    (case z_sorted => k_is)
    (case z_str => k_is)
    (case z_tuple => k_is)
