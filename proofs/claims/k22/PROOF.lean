import PyProof.Rows.All
import Wide.All
import OpenK.AllK
import Wide.FinOn
import HandS.ForMost
import HandS.Wide
import HandS.Deep
import HandS.Conv
import HandS.Flow
import HandS.Exc
import HandS.Words
import HandS.Defaults
import HandS.HeadEnd
import HandS.TupAny
import HandS.NoneIn
import PyProof.CallFns
import HandS.IsInst
import HandS.Style
import HandS.Zip
import KE.SortData
import HandS.SortOrd
import HandS.Star
import HandS.Iter
import HandS.ListItems
import HandS.DictTup
import PyProof.Transfer
import HandS.Text
import HandS.StrMore
import PyProof.TupleOfSeq
import HandS.More
import HandS.HeadHook3
import PyProof.ReprLen
import PyProof.ReprReads
import PyProof.Rows.RegFStrParts
import PyProof.P3Eq
import HandS.Head4
import PySem.Challenge.RW_arrivalmill_k22_whole_the_book_of_names
set_option Elab.async false
set_option linter.all false
set_option maxRecDepth 100000
/-! Mi: the hand layer once more, with whole data (tuples of tuples) in the place of addresses, and what is made mutable by its number. -/
namespace Mi
open PySem PySem.Spec PyProof.Rows L2

/-- data: tuples whole, mutable things by number, defs by number -/
inductive D where
  | non | bl (b : Bool) | int (i : Int) | str (x : Str) | tup (xs : List D) | ref (n : Nat) | fn (i : Nat)

/-- what is mutable -/
inductive MO where
  | lst (xs : List D) | flst (xs : List D) | dK (kvs : List (Key × D)) | fdK (kvs : List (Key × D))
abbrev Mem := List MO

structure Gm where
  K : PySem.W.Frag
  fa : Nat → Addr

mutual
inductive RD (G : Gm) (H : Hp) (m : List Addr) : D → V → Prop
  | non : RD G H m .non .non
  | bl (b : Bool) : RD G H m (.bl b) (.bl b)
  | int (i : Int) : RD G H m (.int i) (.int i)
  | str (x : Str) : RD G H m (.str x) (.str x)
  | tup {a : Addr} {ds : List D} {vs : List V} : SqT G.K H a vs → RDs G H m ds vs → RD G H m (.tup ds) (.ref a)
  | ref {n : Nat} {a : Addr} : m[n]? = some a → RD G H m (.ref n) (.ref a)
  | fn (i : Nat) : RD G H m (.fn i) (.ref (G.fa i))
inductive RDs (G : Gm) (H : Hp) (m : List Addr) : List D → List V → Prop
  | nil : RDs G H m [] []
  | cons {d : D} {ds : List D} {v : V} {vs : List V} : RD G H m d v → RDs G H m ds vs → RDs G H m (d :: ds) (v :: vs)
end

/-- tuples stay -/
def ExT (G : Gm) (H H' : Hp) : Prop := ∀ a xs, SqT G.K H a xs → SqT G.K H' a xs
/-- and what is locked -/
structure Ext (G : Gm) (H H' : Hp) : Prop where
  t : ExT G H H'
  z : ∀ a ob u, H a = some (.frz ob u) → H' a = some (.frz ob u)
theorem Ext.refl {G : Gm} {H : Hp} : Ext G H H := ⟨fun _ _ h => h, fun _ _ _ h => h⟩
theorem Ext.trans {G : Gm} {H H1 H2 : Hp} (a : Ext G H H1) (b : Ext G H1 H2) : Ext G H H2 := ⟨fun _ _ h => b.t _ _ (a.t _ _ h), fun _ _ _ h => b.z _ _ _ (a.z _ _ _ h)⟩
/-- where an address isn't a tuple -/
theorem ExT.at_ {G : Gm} {H : Hp} {p : Addr} {o : HO} (h : ∀ xs, H p ≠ some (.tup xs)) (h2 : ∀ ob xs, H p ≠ some (.frz ob (.tup xs))) : ExT G H (upd H p o) := fun a xs q => by
  by_cases e : a = p
  · subst e
    rcases q with q | q
    · rcases q with q | ⟨ob, q⟩
      · exact absurd q (h _)
      · exact absurd q (h2 _ _)
    · exact .inr q
  · rcases q with q | q
    · left
      rcases q with q | ⟨ob, q⟩
      · left; rw [upd_ne e]; exact q
      · right; exact ⟨ob, by rw [upd_ne e]; exact q⟩
    · exact .inr q
/-- a new address -/
theorem Ext.new {G : Gm} {H : Hp} {p : Addr} {o : HO} (h : H p = none) : Ext G H (upd H p o) := ⟨ExT.at_ (by rw [h]; intro _ z; cases z) (by rw [h]; intro _ _ z; cases z), fun a ob u q => by rw [upd_ne (ne_of_none q h)]; exact q⟩
/-- what may be written is no tuple -/
theorem Ext.write {G : Gm} {H : Hp} {p : Addr} {o : HO} (h : Mut (H p)) : Ext G H (upd H p o) := ⟨ExT.at_ (fun xs z => by rw [z] at h; exact h) (fun ob xs z => by rw [z] at h; exact h), fun a ob u q => by
  by_cases e : a = p
  · subst e; rw [q] at h; exact h.elim
  · rw [upd_ne e]; exact q⟩

theorem pre_get {m m' : List Addr} {n : Nat} {a : Addr} (h : m <+: m') (e : m[n]? = some a) : m'[n]? = some a := by
  obtain ⟨t, rfl⟩ := h
  have hl : n < m.length := (List.getElem?_eq_some_iff.mp e).1
  rw [List.getElem?_append_left hl]
  exact e

mutual
theorem RD.monoT {G : Gm} {H H' : Hp} {m m' : List Addr} (hm : m <+: m') (hx : ExT G H H') : ∀ {d : D} {v : V}, RD G H m d v → RD G H' m' d v
  | _, _, .non => .non
  | _, _, .bl b => .bl b
  | _, _, .int b => .int b
  | _, _, .str b => .str b
  | _, _, .tup h r => .tup (hx _ _ h) (RDs.monoT hm hx r)
  | _, _, .ref h => .ref (pre_get hm h)
  | _, _, .fn i => .fn i
theorem RDs.monoT {G : Gm} {H H' : Hp} {m m' : List Addr} (hm : m <+: m') (hx : ExT G H H') : ∀ {ds : List D} {vs : List V}, RDs G H m ds vs → RDs G H' m' ds vs
  | _, _, .nil => .nil
  | _, _, .cons r t => .cons (RD.monoT hm hx r) (RDs.monoT hm hx t)
end
theorem RD.mono {G : Gm} {H H' : Hp} {m m' : List Addr} (hm : m <+: m') (hx : Ext G H H') {d : D} {v : V} (r : RD G H m d v) : RD G H' m' d v := r.monoT hm hx.t
theorem RDs.mono {G : Gm} {H H' : Hp} {m m' : List Addr} (hm : m <+: m') (hx : Ext G H H') {d : List D} {v : List V} (r : RDs G H m d v) : RDs G H' m' d v := r.monoT hm hx.t
theorem RDs.length {G : Gm} {H : Hp} {m : List Addr} : ∀ {ds : List D} {vs : List V}, RDs G H m ds vs → ds.length = vs.length
  | _, _, .nil => rfl
  | _, _, .cons _ t => by rw [List.length_cons, List.length_cons, RDs.length t]
theorem RDs.append {G : Gm} {H : Hp} {m : List Addr} : ∀ {ds es : List D} {vs ws : List V}, RDs G H m ds vs → RDs G H m es ws → RDs G H m (ds ++ es) (vs ++ ws)
  | _, _, _, _, .nil, s => s
  | _, _, _, _, .cons r t, s => .cons r (RDs.append t s)
theorem RDs.get {G : Gm} {H : Hp} {m : List Addr} : ∀ {ds : List D} {vs : List V} {i : Nat} {d : D}, RDs G H m ds vs → ds[i]? = some d → ∃ v, vs[i]? = some v ∧ RD G H m d v
  | _, _, _, _, .nil, e => by simp at e
  | _, _, 0, _, .cons r _, e => by simp at e; subst e; exact ⟨_, rfl, r⟩
  | _, _, i + 1, _, .cons _ t, e => by simpa using RDs.get (i := i) t (by simpa using e)
theorem RDs.getV {G : Gm} {H : Hp} {m : List Addr} : ∀ {ds : List D} {vs : List V} {i : Nat} {v : V}, RDs G H m ds vs → vs[i]? = some v → ∃ d, ds[i]? = some d ∧ RD G H m d v
  | _, _, _, _, .nil, e => by simp at e
  | _, _, 0, _, .cons r _, e => by simp at e; subst e; exact ⟨_, rfl, r⟩
  | _, _, i + 1, _, .cons _ t, e => by simpa using RDs.getV (i := i) t (by simpa using e)
theorem RDs.set {G : Gm} {H : Hp} {m : List Addr} {d : D} {v : V} (r : RD G H m d v) : ∀ {ds : List D} {vs : List V} (i : Nat), RDs G H m ds vs → RDs G H m (ds.set i d) (vs.set i v)
  | _, _, _, .nil => .nil
  | _, _, 0, .cons _ t => .cons r t
  | _, _, i + 1, .cons q t => .cons q (RDs.set r i t)
theorem RDs.take {G : Gm} {H : Hp} {m : List Addr} : ∀ {ds : List D} {vs : List V} (i : Nat), RDs G H m ds vs → RDs G H m (ds.take i) (vs.take i)
  | _, _, 0, _ => .nil
  | _, _, _ + 1, .nil => .nil
  | _, _, i + 1, .cons q t => .cons q (RDs.take i t)
theorem RDs.drop {G : Gm} {H : Hp} {m : List Addr} : ∀ {ds : List D} {vs : List V} (i : Nat), RDs G H m ds vs → RDs G H m (ds.drop i) (vs.drop i)
  | _, _, 0, r => r
  | _, _, _ + 1, .nil => .nil
  | _, _, i + 1, .cons q t => RDs.drop i t

/-- pairs of a dict -/
inductive RKs (G : Gm) (H : Hp) (m : List Addr) : List (Key × D) → List (Key × V) → Prop
  | nil : RKs G H m [] []
  | cons {k : Key} {d : D} {v : V} {ds : List (Key × D)} {vs : List (Key × V)} : RD G H m d v → RKs G H m ds vs → RKs G H m ((k, d) :: ds) ((k, v) :: vs)
theorem RKs.monoT {G : Gm} {H H' : Hp} {m m' : List Addr} (hm : m <+: m') (hx : ExT G H H') : ∀ {ds : List (Key × D)} {vs : List (Key × V)}, RKs G H m ds vs → RKs G H' m' ds vs
  | _, _, .nil => .nil
  | _, _, .cons r t => .cons (r.monoT hm hx) (RKs.monoT hm hx t)
theorem RKs.mono {G : Gm} {H H' : Hp} {m m' : List Addr} (hm : m <+: m') (hx : Ext G H H') {d : List (Key × D)} {v : List (Key × V)} (r : RKs G H m d v) : RKs G H' m' d v := r.monoT hm hx.t

def RO (G : Gm) (H : Hp) (m : List Addr) (a : Addr) : MO → Prop
  | .lst xs => ∃ vs, H a = some (.lst vs) ∧ RDs G H m xs vs
  | .flst xs => ∃ vs, ((∃ ob, H a = some (.frz ob (.lst vs))) ∨ ∃ (o : Obj) (its : Array Value) (n : Nat), G.K.lookup a = some o ∧ o.cls = .type "list" ∧ o.dict = none ∧ o.data = .seq its n ∧ its.size ≤ sizeLine ∧ Vals vs its.toList) ∧ RDs G H m xs vs
  | .dK kvs => ∃ kws, H a = some (.dK kws) ∧ RKs G H m kvs kws
  | .fdK kvs => ∃ ob kws, H a = some (.frz ob (.dK kws)) ∧ RKs G H m kvs kws

def MO.mut : MO → Bool
  | .flst _ => false
  | .fdK _ => false
  | _ => true
/-- stands by one number alone -/
def MO.own : MO → Bool
  | .flst _ => false
  | _ => true
theorem MO.mut_own {o : MO} (h : o.mut = true) : o.own = true := by cases o <;> first | rfl | cases h
structure RM (G : Gm) (H : Hp) (m : List Addr) (M : Mem) : Prop where
  len : m.length = M.length
  nd : ∀ (i j : Nat) (a : Addr) (o u : MO), m[i]? = some a → m[j]? = some a → M[i]? = some o → M[j]? = some u → o.own = true → u.own = true → i = j
  at_ : ∀ (n : Nat) (a : Addr) (o : MO), m[n]? = some a → M[n]? = some o → RO G H m a o

theorem RM.addr {G : Gm} {H : Hp} {m : List Addr} {M : Mem} (h : RM G H m M) {n : Nat} {o : MO} (e : M[n]? = some o) : ∃ a, m[n]? = some a ∧ RO G H m a o := by
  have hl : n < M.length := (List.getElem?_eq_some_iff.mp e).1
  have hm : n < m.length := by rw [h.len]; exact hl
  exact ⟨m[n], List.getElem?_eq_getElem hm, h.at_ n _ o (List.getElem?_eq_getElem hm) e⟩

theorem RO.mutH {G : Gm} {H : Hp} {m : List Addr} {a : Addr} {o : MO} (h : RO G H m a o) (u : o.mut = true) : Mut (H a) := by
  cases o with
  | lst xs => obtain ⟨_, e, _⟩ := h; rw [e]; trivial
  | flst xs => cases u
  | dK xs => obtain ⟨_, e, _⟩ := h; rw [e]; trivial
  | fdK xs => cases u
theorem RO.ownH {G : Gm} {H : Hp} {m : List Addr} {a : Addr} {o : MO} (h : RO G H m a o) (u : o.own = true) : H a ≠ none := by
  cases o with
  | lst xs => obtain ⟨_, e, _⟩ := h; rw [e]; simp
  | flst xs => cases u
  | dK xs => obtain ⟨_, e, _⟩ := h; rw [e]; simp
  | fdK xs => obtain ⟨_, _, e, _⟩ := h; rw [e]; simp

theorem RO.stay_f {G : Gm} {H H' : Hp} {m m' : List Addr} {a : Addr} {xs : List D} (h : RO G H m a (.flst xs)) (hm : m <+: m') (hx : Ext G H H') (e : ∀ ob u, H a = some (.frz ob u) → H' a = H a) : RO G H' m' a (.flst xs) := by
  obtain ⟨vs, q, r⟩ := h
  refine ⟨vs, ?_, r.mono hm hx⟩
  rcases q with ⟨ob, q⟩ | q
  · exact .inl ⟨ob, (e _ _ q).trans q⟩
  · exact .inr q
/-- an object stays where the heap stays at its address -/
theorem RO.stay {G : Gm} {H H' : Hp} {m m' : List Addr} {a : Addr} {o : MO} (h : RO G H m a o) (hm : m <+: m') (hx : Ext G H H') (e : H a ≠ none → H' a = H a) : RO G H' m' a o := by
  cases o with
  | lst xs => obtain ⟨vs, q, r⟩ := h; exact ⟨vs, (e (by rw [q]; simp)).trans q, r.mono hm hx⟩
  | flst xs => exact RO.stay_f h hm hx fun ob u q => e (by rw [q]; simp)
  | dK xs => obtain ⟨vs, q, r⟩ := h; exact ⟨vs, (e (by rw [q]; simp)).trans q, r.mono hm hx⟩
  | fdK xs => obtain ⟨ob, vs, q, r⟩ := h; exact ⟨ob, vs, (e (by rw [q]; simp)).trans q, r.mono hm hx⟩
theorem mut_some {o : Option HO} (h : Mut o) : o ≠ none := by
  intro e
  subst e
  exact h

/-- an object more -/
theorem RM.push {G : Gm} {H : Hp} {m : List Addr} {M : Mem} {p : Addr} {ho : HO} {o : MO} (h : RM G H m M) (hp : H p = none) (r : RO G (upd H p ho) (m ++ [p]) p o) : RM G (upd H p ho) (m ++ [p]) (M ++ [o]) := by
  have split : ∀ (n : Nat) (a : Addr) (ob : MO), (m ++ [p])[n]? = some a → (M ++ [o])[n]? = some ob → (m[n]? = some a ∧ M[n]? = some ob) ∨ (n = m.length ∧ a = p ∧ ob = o) := fun n a ob e1 e2 => by
    by_cases hn : n < m.length
    · rw [List.getElem?_append_left hn] at e1
      rw [List.getElem?_append_left (by rw [← h.len]; exact hn)] at e2
      exact .inl ⟨e1, e2⟩
    · have hl : n < (m ++ [p]).length := (List.getElem?_eq_some_iff.mp e1).1
      rw [List.length_append, List.length_singleton] at hl
      have en : n = m.length := by omega
      subst en
      rw [List.getElem?_append_right (Nat.le_refl _), Nat.sub_self] at e1
      rw [List.getElem?_append_right (by rw [h.len]; exact Nat.le_refl _), h.len, Nat.sub_self] at e2
      simp only [List.getElem?_cons_zero, Option.some.injEq] at e1 e2
      exact .inr ⟨rfl, e1.symm, e2.symm⟩
  refine ⟨by rw [List.length_append, List.length_append, h.len, List.length_singleton, List.length_singleton], fun i j a u v e1 e2 f1 f2 mu mv => ?_, fun n a ob e1 e2 => ?_⟩
  · rcases split i a u e1 f1 with ⟨x1, x2⟩ | ⟨x1, x2, x3⟩
    · rcases split j a v e2 f2 with ⟨y1, y2⟩ | ⟨y1, y2, y3⟩
      · exact h.nd i j a u v x1 y1 x2 y2 mu mv
      · subst y2
        exact absurd hp ((h.at_ i a u x1 x2).ownH mu)
    · rcases split j a v e2 f2 with ⟨y1, y2⟩ | ⟨y1, y2, y3⟩
      · subst x2
        exact absurd hp ((h.at_ j a v y1 y2).ownH mv)
      · rw [x1, y1]
  · rcases split n a ob e1 e2 with ⟨x1, x2⟩ | ⟨x1, x2, x3⟩
    · refine (h.at_ n a ob x1 x2).stay (List.prefix_append _ _) (Ext.new hp) fun q => upd_ne fun z => ?_
      subst z
      exact q hp
    · subst x2 x3
      exact r

/-- an object written -/
theorem RM.set {G : Gm} {H : Hp} {m : List Addr} {M : Mem} {n : Nat} {a : Addr} {ho : HO} {o u : MO} (h : RM G H m M) (e : m[n]? = some a) (eM : M[n]? = some u) (hu : u.mut = true) (ho' : o.mut = true) (r : RO G (upd H a ho) m a o) : RM G (upd H a ho) m (M.set n o) := by
  have mu : Mut (H a) := (h.at_ n a u e eM).mutH hu
  have hl : n < M.length := (List.getElem?_eq_some_iff.mp eM).1
  have get : ∀ (j : Nat) (ob : MO), (M.set n o)[j]? = some ob → (j = n ∧ ob = o) ∨ (j ≠ n ∧ M[j]? = some ob) := fun j ob q => by
    by_cases hj : j = n
    · subst hj
      rw [List.getElem?_set_self hl] at q
      cases q
      exact .inl ⟨rfl, rfl⟩
    · rw [List.getElem?_set_ne (Ne.symm hj)] at q
      exact .inr ⟨hj, q⟩
  have mutOf : ∀ (j : Nat) (ob : MO), (M.set n o)[j]? = some ob → ob.own = true → ∃ ob', M[j]? = some ob' ∧ ob'.own = true := fun j ob q m1 => by
    rcases get j ob q with ⟨rfl, rfl⟩ | ⟨_, q⟩
    · exact ⟨u, eM, MO.mut_own hu⟩
    · exact ⟨ob, q, m1⟩
  refine ⟨by rw [List.length_set, h.len], fun i j b x y e1 e2 f1 f2 mx my => ?_, fun j b ob e1 e2 => ?_⟩
  · obtain ⟨x', g1, g2⟩ := mutOf i x f1 mx
    obtain ⟨y', k1, k2⟩ := mutOf j y f2 my
    exact h.nd i j b x' y' e1 e2 g1 k1 g2 k2
  · rcases get j ob e2 with ⟨rfl, rfl⟩ | ⟨hj, q⟩
    · rw [e] at e1
      cases e1
      exact r
    · have old := h.at_ j b ob e1 q
      by_cases hb : b = a
      · subst hb
        cases om : ob.own with
        | true => exact absurd (h.nd j n b ob u e1 e q eM om (MO.mut_own hu)) hj
        | false =>
          cases ob with
          | flst xs =>
            refine RO.stay_f old (List.prefix_refl _) (Ext.write mu) fun ob' u' z => ?_
            rw [z] at mu
            exact mu.elim
          | lst xs => cases om
          | dK xs => cases om
          | fdK xs => cases om
      · exact old.stay (List.prefix_refl _) (Ext.write mu) fun _ => upd_ne hb

/-- what stands by one number alone is exchanged at its address -/
theorem RM.swap {G : Gm} {H : Hp} {m : List Addr} {M : Mem} {n : Nat} {a : Addr} {ho : HO} {o u : MO} (h : RM G H m M) (e : m[n]? = some a) (eM : M[n]? = some u) (hu : u.own = true) (ho' : o.own = true) (hx : ExT G H (upd H a ho)) (hl : ∀ ob xs, H a ≠ some (.frz ob (.lst xs))) (r : RO G (upd H a ho) m a o) : RM G (upd H a ho) m (M.set n o) := by
  have hn : n < M.length := (List.getElem?_eq_some_iff.mp eM).1
  have get : ∀ (j : Nat) (ob : MO), (M.set n o)[j]? = some ob → (j = n ∧ ob = o) ∨ (j ≠ n ∧ M[j]? = some ob) := fun j ob q => by
    by_cases hj : j = n
    · subst hj
      rw [List.getElem?_set_self hn] at q
      cases q
      exact .inl ⟨rfl, rfl⟩
    · rw [List.getElem?_set_ne (Ne.symm hj)] at q
      exact .inr ⟨hj, q⟩
  have mutOf : ∀ (j : Nat) (ob : MO), (M.set n o)[j]? = some ob → ob.own = true → ∃ ob', M[j]? = some ob' ∧ ob'.own = true := fun j ob q m1 => by
    rcases get j ob q with ⟨rfl, rfl⟩ | ⟨_, q⟩
    · exact ⟨u, eM, hu⟩
    · exact ⟨ob, q, m1⟩
  refine ⟨by rw [List.length_set, h.len], fun i j b x y e1 e2 f1 f2 mx my => ?_, fun j b ob e1 e2 => ?_⟩
  · obtain ⟨x', g1, g2⟩ := mutOf i x f1 mx
    obtain ⟨y', k1, k2⟩ := mutOf j y f2 my
    exact h.nd i j b x' y' e1 e2 g1 k1 g2 k2
  · rcases get j ob e2 with ⟨rfl, rfl⟩ | ⟨hj, q⟩
    · rw [e] at e1
      cases e1
      exact r
    · have old := h.at_ j b ob e1 q
      by_cases hb : b = a
      · subst hb
        cases om : ob.own with
        | true => exact absurd (h.nd j n b ob u e1 e q eM om hu) hj
        | false =>
          cases ob with
          | flst xs =>
            obtain ⟨vs, q1, q2⟩ := old
            refine ⟨vs, ?_, q2.monoT (List.prefix_refl _) hx⟩
            rcases q1 with ⟨ob, q1⟩ | q1
            · exact absurd q1 (hl _ _)
            · exact .inr q1
          | lst xs => cases om
          | dK xs => cases om
          | fdK xs => cases om
      · cases ob with
        | lst xs => obtain ⟨vs, q1, q2⟩ := old; exact ⟨vs, by rw [upd_ne hb]; exact q1, q2.monoT (List.prefix_refl _) hx⟩
        | flst xs =>
          obtain ⟨vs, q1, q2⟩ := old
          refine ⟨vs, ?_, q2.monoT (List.prefix_refl _) hx⟩
          rcases q1 with ⟨ob, q1⟩ | q1
          · exact .inl ⟨ob, by rw [upd_ne hb]; exact q1⟩
          · exact .inr q1
        | dK xs => obtain ⟨vs, q1, q2⟩ := old; exact ⟨vs, by rw [upd_ne hb]; exact q1, q2.monoT (List.prefix_refl _) hx⟩
        | fdK xs => obtain ⟨ob, vs, q1, q2⟩ := old; exact ⟨ob, vs, by rw [upd_ne hb]; exact q1, q2.monoT (List.prefix_refl _) hx⟩

/-- the heap changed elsewhere -/
theorem RM.stay {G : Gm} {H H' : Hp} {m : List Addr} {M : Mem} (h : RM G H m M) (hx : Ext G H H') (e : ∀ a, H a ≠ none → H' a = H a) : RM G H' m M :=
  ⟨h.len, h.nd, fun n a o e1 e2 => (h.at_ n a o e1 e2).stay (List.prefix_refl _) hx (e a)⟩
theorem RM.new {G : Gm} {H : Hp} {m : List Addr} {M : Mem} {p : Addr} {o : HO} (h : RM G H m M) (hp : H p = none) : RM G (upd H p o) m M :=
  h.stay (Ext.new hp) fun a q => upd_ne fun z => q (z ▸ hp)

/-- slots -/
abbrev Loc := List (Option D)
structure Rho (G : Gm) (H : Hp) (m : List Addr) (ρ : Loc) (σ : L2.St) : Prop where
  len : σ.length = ρ.length
  at_ : ∀ (i : Nat) (d : D), ρ[i]? = some (some d) → ∃ v, σ[i]? = some (some v) ∧ RD G H m d v
theorem Rho.monoT {G : Gm} {H H' : Hp} {m m' : List Addr} {ρ : Loc} {σ : L2.St} (h : Rho G H m ρ σ) (hm : m <+: m') (hx : ExT G H H') : Rho G H' m' ρ σ :=
  ⟨h.len, fun i d e => let ⟨v, q, r⟩ := h.at_ i d e; ⟨v, q, r.monoT hm hx⟩⟩
theorem Rho.mono {G : Gm} {H H' : Hp} {m m' : List Addr} {ρ : Loc} {σ : L2.St} (h : Rho G H m ρ σ) (hm : m <+: m') (hx : Ext G H H') : Rho G H' m' ρ σ := h.monoT hm hx.t
theorem Rho.set {G : Gm} {H : Hp} {m : List Addr} {ρ : Loc} {σ : L2.St} {d : D} {v : V} (h : Rho G H m ρ σ) (i : Nat) (r : RD G H m d v) : Rho G H m (ρ.set i (some d)) (σ.set i (some v)) := by
  refine ⟨by rw [List.length_set, List.length_set, h.len], fun j e q => ?_⟩
  by_cases hj : j = i
  · subst hj
    have hl : j < ρ.length := by have := (List.getElem?_eq_some_iff.mp q).1; rw [List.length_set] at this; exact this
    rw [List.getElem?_set_self hl] at q
    cases q
    exact ⟨v, by rw [List.getElem?_set_self (by rw [h.len]; exact hl)], r⟩
  · rw [List.getElem?_set_ne (Ne.symm hj)] at q
    obtain ⟨w, q1, q2⟩ := h.at_ j e q
    exact ⟨w, by rw [List.getElem?_set_ne (Ne.symm hj)]; exact q1, q2⟩
/-- slots forgotten -/
def wipeD (ρ : Loc) : List Nat → Loc
  | [] => ρ
  | v :: vs => (wipeD ρ vs).set v none
theorem Rho.wipe {G : Gm} {H : Hp} {m : List Addr} {ρ : Loc} {σ : L2.St} (h : Rho G H m ρ σ) : ∀ vs : List Nat, Rho G H m (wipeD ρ vs) (wipe σ vs)
  | [] => h
  | v :: vs => by
    have ih := Rho.wipe h vs
    refine ⟨by unfold wipeD L2.wipe; rw [List.length_set, List.length_set, ih.len], fun j e q => ?_⟩
    unfold wipeD at q
    unfold L2.wipe
    by_cases hj : j = v
    · subst hj
      have hl : j < (wipeD ρ vs).length := by have := (List.getElem?_eq_some_iff.mp q).1; rw [List.length_set] at this; exact this
      rw [List.getElem?_set_self hl] at q
      cases q
    · rw [List.getElem?_set_ne (Ne.symm hj)] at q
      obtain ⟨w, q1, q2⟩ := ih.at_ j e q
      exact ⟨w, by rw [List.getElem?_set_ne (Ne.symm hj)]; exact q1, q2⟩

/-! ### readings by what comes out -/
abbrev R (α : Type) := Option (α × Mem)
abbrev Ev := Loc → Mem → R D
abbrev EvL := Loc → Mem → R (List D)
@[inline] def bindO {α β : Type} (x : R α) (f : α → Mem → R β) : R β := match x with
  | some (a, M) => f a M
  | none => none
/-- behind it: the heap has grown, the memory is M' -/
def Fin (G : Gm) (m : List Addr) (H : Hp) (M' : Mem) (k : List Addr → Hp → Prop) : Prop := ∀ m' H', m <+: m' → Ext G H H' → RM G H' m' M' → k m' H'
theorem Fin.mono {G : Gm} {m m1 : List Addr} {H H1 : Hp} {M' : Mem} {k : List Addr → Hp → Prop} (f : Fin G m H M' k) (hm : m <+: m1) (hx : Ext G H H1) : Fin G m1 H1 M' k :=
  fun m' H' a b c => f m' H' (hm.trans a) (hx.trans b) c
theorem Fin.here {G : Gm} {m : List Addr} {H : Hp} {M' : Mem} {k : List Addr → Hp → Prop} (f : Fin G m H M' k) (r : RM G H m M') : k m H := f m H (List.prefix_refl _) Ext.refl r

def TEof (G : Gm) (ev : Ev) : TE := fun σ H Q => ∃ m M ρ d M', Rho G H m ρ σ ∧ RM G H m M ∧ ev ρ M = some (d, M') ∧ Fin G m H M' fun m' H' => ∀ v, RD G H' m' d v → Q v H'
def TAof (G : Gm) (ev : EvL) : TA := fun σ H Q => ∃ m M ρ ds M', Rho G H m ρ σ ∧ RM G H m M ∧ ev ρ M = some (ds, M') ∧ Fin G m H M' fun m' H' => ∀ vs, RDs G H' m' ds vs → Q vs H'
/-- tests -/
abbrev EvB := Loc → Mem → R Bool
def TTof (G : Gm) (ev : EvB) : TT := fun σ H Q => ∃ m M ρ b M', Rho G H m ρ σ ∧ RM G H m M ∧ ev ρ M = some (b, M') ∧ Fin G m H M' fun _ H' => Q b H'
end Mi

namespace L2
theorem PE.imp {X : Cx} {e : PySem.Expr} {t t' : TE} (h : PE X e t) (i : ∀ σ H Q, t' σ H Q → t σ H Q) : PE X e t' := ⟨fun p s σ H Q I q => h.run p s σ H Q I (i σ H Q q)⟩
theorem PT.imp {X : Cx} {e : PySem.Expr} {t t' : TT} (h : PT X e t) (i : ∀ σ H Q, t' σ H Q → t σ H Q) : PT X e t' := ⟨fun p s σ H Q I q => h.run p s σ H Q I (i σ H Q q)⟩
theorem PW.imp {X : Cx} {e : PySem.Expr} {t t' : TT} (h : PW X e t) (i : ∀ σ H Q, t' σ H Q → t σ H Q) : PW X e t' := ⟨fun w p s σ H Q I q => h.run w p s σ H Q I (i σ H Q q)⟩
theorem PA.imp {X : Cx} {e : List PySem.Expr} {t t' : TA} (h : PA X e t) (i : ∀ σ H Q, t' σ H Q → t σ H Q) : PA X e t' := ⟨fun z p s σ H Q I q => h.run z p s σ H Q I (i σ H Q q)⟩
theorem PS.imp {X : Cx} {e : PySem.Stmt} {t t' : TS} (h : PS X e t) (i : ∀ D σ H, t' D σ H → t D σ H) : PS X e t' := ⟨fun p s σ H D I q => h.run p s σ H D I (i D σ H q)⟩
theorem PSs.imp {X : Cx} {e : List PySem.Stmt} {t t' : TS} (h : PSs X e t) (i : ∀ D σ H, t' D σ H → t D σ H) : PSs X e t' := ⟨fun p s σ H D I q => h.run p s σ H D I (i D σ H q)⟩
theorem PTs.imp {X : Cx} {e : List PySem.Expr} {t t' : TT} (h : PTs X e t) (i : ∀ σ H Q, t' σ H Q → t σ H Q) : PTs X e t' := ⟨fun p s σ H Q I q => h.run p s σ H Q I (i σ H Q q)⟩
end L2
set_option Elab.async false
set_option linter.all false
set_option maxRecDepth 100000
namespace Mi
open PySem PySem.Spec PyProof.Rows L2

section
variable {G : Gm} {α : Type} {m : List Addr} {M M' : Mem} {ρ : Loc} {σ : L2.St} {H : Hp} {r : α} {k : List Addr → Hp → Prop}
theorem te_bind {ev : Ev} {f : D → Mem → R α} (hρ : Rho G H m ρ σ) (hM : RM G H m M) (e : bindO (ev ρ M) f = some (r, M')) (fin : Fin G m H M' k) {Q : VK}
    (next : ∀ m1 H1 M1 d v, Rho G H1 m1 ρ σ → RM G H1 m1 M1 → RD G H1 m1 d v → f d M1 = some (r, M') → Fin G m1 H1 M' k → m <+: m1 → Ext G H H1 → Q v H1) : TEof G ev σ H Q := by
  cases q : ev ρ M with
  | none => rw [q] at e; cases e
  | some p =>
    obtain ⟨d, M1⟩ := p
    rw [q] at e
    exact ⟨m, M, ρ, d, M1, hρ, hM, q, fun m1 H1 a b c v rd => next m1 H1 M1 d v (hρ.mono a b) c rd e (fin.mono a b) a b⟩
theorem ta_bind {ev : EvL} {f : List D → Mem → R α} (hρ : Rho G H m ρ σ) (hM : RM G H m M) (e : bindO (ev ρ M) f = some (r, M')) (fin : Fin G m H M' k) {Q : List V → Hp → Prop}
    (next : ∀ m1 H1 M1 d v, Rho G H1 m1 ρ σ → RM G H1 m1 M1 → RDs G H1 m1 d v → f d M1 = some (r, M') → Fin G m1 H1 M' k → m <+: m1 → Ext G H H1 → Q v H1) : TAof G ev σ H Q := by
  cases q : ev ρ M with
  | none => rw [q] at e; cases e
  | some p =>
    obtain ⟨d, M1⟩ := p
    rw [q] at e
    exact ⟨m, M, ρ, d, M1, hρ, hM, q, fun m1 H1 a b c v rd => next m1 H1 M1 d v (hρ.mono a b) c rd e (fin.mono a b) a b⟩
theorem tt_bind {ev : EvB} {f : Bool → Mem → R α} (hρ : Rho G H m ρ σ) (hM : RM G H m M) (e : bindO (ev ρ M) f = some (r, M')) (fin : Fin G m H M' k) {Q : Bool → Hp → Prop}
    (next : ∀ m1 H1 M1 b, Rho G H1 m1 ρ σ → RM G H1 m1 M1 → f b M1 = some (r, M') → Fin G m1 H1 M' k → m <+: m1 → Ext G H H1 → Q b H1) : TTof G ev σ H Q := by
  cases q : ev ρ M with
  | none => rw [q] at e; cases e
  | some p =>
    obtain ⟨d, M1⟩ := p
    rw [q] at e
    exact ⟨m, M, ρ, d, M1, hρ, hM, q, fun m1 H1 a b c => next m1 H1 M1 d (hρ.mono a b) c e (fin.mono a b) a b⟩
end

/-! ### what operators come to -/
/-- the reading of an operator by data -/
def OpS (G : Gm) (f : D → D → Mem → R D) (r : R2) : Prop := ∀ m H M x y dx dy d M' Q, RM G H m M → RD G H m dx x → RD G H m dy y → f dx dy M = some (d, M') → (Fin G m H M' fun m' H' => ∀ v, RD G H' m' d v → Q v H') → r x y H Q
def CaS (G : Gm) (f : List D → Mem → R D) (r : List V → Hp → VK → Prop) : Prop := ∀ m H M xs ds d M' Q, RM G H m M → RDs G H m ds xs → f ds M = some (d, M') → (Fin G m H M' fun m' H' => ∀ v, RD G H' m' d v → Q v H') → r xs H Q
def orR (r q : R2) : R2 := fun x y H Q => r x y H Q ∨ q x y H Q
theorem opr_or {X : Cx} {f : Value → Value → Sem Value} {r q : R2} (a : OpR X f r) (b : OpR X f q) : OpR X f (orR r q) := fun pins s σ H x y v u Q I rx ry h => h.elim (a pins s σ H x y v u Q I rx ry) (b pins s σ H x y v u Q I rx ry)
def orC (r q : List V → Hp → VK → Prop) : List V → Hp → VK → Prop := fun xs H Q => r xs H Q ∨ q xs H Q
theorem car_or {X : Cx} {f : Value} {r q : List V → Hp → VK → Prop} (a : CallR X f r) (b : CallR X f q) : CallR X f (orC r q) := fun pins s σ H xs us Q I rx h => h.elim (a pins s σ H xs us Q I rx) (b pins s σ H xs us Q I rx)

section
variable {X : Cx} {pos p : Pos} {a b e : Expr} {eva evb : Ev}
abbrev GX (X : Cx) (fa : Nat → Addr) : Gm := ⟨X.K, fa⟩
variable {fa : Nat → Addr}

def eVar (i : Nat) : Ev := fun ρ M => match ρ[i]? with
  | some (some d) => some (d, M)
  | _ => none
theorem l_var (i : Nat) {x : Str} (hN : X.N[i]? = some x := by rfl) (hv : Vis X.env.scope x := by first | exact Or.inl rfl | exact Or.inr (Or.inl rfl) | exact Or.inr (Or.inr rfl)) (hd : (x == ("__debug__" : Str)) = false := by decide) (hcd : (x == ("__classdict__" : Str)) = false := by decide) :
    PE X (.Name x pos) (TEof (GX X fa) (eVar i)) := by
  refine (pe_var hN hv hd hcd).imp fun σ H Q ⟨m, M, ρ, d, M', hρ, hM, e, fin⟩ => ?_
  unfold eVar at e
  split at e
  · rename_i d' q
    cases e
    obtain ⟨v, q1, q2⟩ := hρ.at_ i _ q
    exact ⟨v, q1, fin.here hM v q2⟩
  · cases e
def eC (d : D) : Ev := fun _ M => some (d, M)
theorem l_int {i : Int} {j} : PE X (.Constant (.int i) j pos) (TEof (GX X fa) (eC (.int i))) :=
  pe_int.imp fun σ H Q ⟨m, M, ρ, d, M', hρ, hM, e, fin⟩ => by cases e; exact fin.here hM _ (.int i)
theorem l_bl {i : Bool} {j} : PE X (.Constant (.bool i) j pos) (TEof (GX X fa) (eC (.bl i))) :=
  pe_bl.imp fun σ H Q ⟨m, M, ρ, d, M', hρ, hM, e, fin⟩ => by cases e; exact fin.here hM _ (.bl i)
theorem l_str {i : Str} {j} : PE X (.Constant (.str i) j pos) (TEof (GX X fa) (eC (.str i))) :=
  pe_str.imp fun σ H Q ⟨m, M, ρ, d, M', hρ, hM, e, fin⟩ => by cases e; exact fin.here hM _ (.str i)
theorem l_non {j} : PE X (.Constant .none j pos) (TEof (GX X fa) (eC .non)) :=
  pe_non.imp fun σ H Q ⟨m, M, ρ, d, M', hρ, hM, e, fin⟩ => by cases e; exact fin.here hM _ .non

/-! arguments -/
def eNil : EvL := fun _ M => some ([], M)
def eCons (ev : Ev) (evs : EvL) : EvL := fun ρ M => bindO (ev ρ M) fun d M1 => bindO (evs ρ M1) fun ds M2 => some (d :: ds, M2)
theorem l_nil : PA X [] (TAof (GX X fa) eNil) := pa_nil.imp fun σ H Q ⟨m, M, ρ, d, M', hρ, hM, e, fin⟩ => by cases e; exact fin.here hM _ .nil
theorem l_cons {es : List Expr} {evs : EvL} (ha : PE X e (TEof (GX X fa) eva)) (hr : PA X es (TAof (GX X fa) evs)) (hs : starEach (e :: es) X.env = (false, eval e X.env) :: starEach es X.env := by rfl) : PA X (e :: es) (TAof (GX X fa) (eCons eva evs)) := by
  refine (pa_cons ha hr hs).imp fun σ H Q ⟨m, M, ρ, d, M', hρ, hM, e, fin⟩ => ?_
  refine te_bind hρ hM e fin fun m1 H1 M1 d1 v hρ1 hM1 rd e1 fin1 p1 x1 => ?_
  refine ta_bind hρ1 hM1 e1 fin1 fun m2 H2 M2 d2 vs hρ2 hM2 rds e2 fin2 p2 x2 => ?_
  cases e2
  exact fin2.here hM2 _ (.cons (rd.mono p2 x2) rds)

/-! displays -/
def eTup (evs : EvL) : Ev := fun ρ M => bindO (evs ρ M) fun ds M1 => if ds.length ≤ sizeLine then some (.tup ds, M1) else none
theorem l_tup {es : List Expr} {k : Nat} {evs : EvL} (h : PA X es (TAof (GX X fa) evs)) : PE X (.Tuple es k pos) (TEof (GX X fa) (eTup evs)) := by
  refine (pe_tup h).imp fun σ H Q ⟨m, M, ρ, d, M', hρ, hM, e, fin⟩ => ?_
  refine ta_bind hρ hM e fin fun m1 H1 M1 ds vs hρ1 hM1 rds e1 fin1 p1 x1 => ?_
  split at e1
  · rename_i hl
    cases e1
    refine ⟨by rw [← rds.length]; exact hl, fun p hp => ?_⟩
    refine fin1 m1 _ (List.prefix_refl _) (Ext.new hp) (hM1.new hp) _ ?_
    exact .tup (SqT.of upd_same) (rds.mono (List.prefix_refl _) (Ext.new hp))
  · cases e1
def eLst (evs : EvL) : Ev := fun ρ M => bindO (evs ρ M) fun ds M1 => if ds.length ≤ sizeLine then some (.ref M1.length, M1 ++ [.lst ds]) else none
/-- a new object of the memory -/
theorem fin_push {G : Gm} {m : List Addr} {H : Hp} {M : Mem} {o : MO} {ho : HO} {k : List Addr → Hp → Prop} {p : Addr} (fin : Fin G m H (M ++ [o]) k) (hM : RM G H m M) (hp : H p = none) (r : RO G (upd H p ho) (m ++ [p]) p o) : k (m ++ [p]) (upd H p ho) :=
  fin _ _ (List.prefix_append _ _) (Ext.new hp) (hM.push hp r)
theorem ref_last {G : Gm} {m : List Addr} {H H' : Hp} {M : Mem} {p : Addr} (hM : RM G H m M) : RD G H' (m ++ [p]) (.ref M.length) (.ref p) :=
  .ref (by rw [← hM.len, List.getElem?_append_right (Nat.le_refl _), Nat.sub_self]; rfl)
theorem l_lst {es : List Expr} {evs : EvL} (h : PA X es (TAof (GX X fa) evs)) : PE X (.List es pos) (TEof (GX X fa) (eLst evs)) := by
  refine (pe_lst h).imp fun σ H Q ⟨m, M, ρ, d, M', hρ, hM, e, fin⟩ => ?_
  refine ta_bind hρ hM e fin fun m1 H1 M1 ds vs hρ1 hM1 rds e1 fin1 p1 x1 => ?_
  split at e1
  · rename_i hl
    cases e1
    refine ⟨by rw [← rds.length]; exact hl, fun p hp => ?_⟩
    exact fin_push fin1 hM1 hp ⟨vs, upd_same, rds.mono (List.prefix_append _ _) (Ext.new hp)⟩ _ (ref_last hM1)
  · cases e1

/-! operators -/
def eBin (f : D → D → Mem → R D) (eva evb : Ev) : Ev := fun ρ M => bindO (eva ρ M) fun x M1 => bindO (evb ρ M1) fun y M2 => f x y M2
theorem bin_split {r : R2} {f : D → D → Mem → R D} (os : OpS (GX X fa) f r) {σ : L2.St} {H : Hp} {Q : VK} (h : TEof (GX X fa) (eBin f eva evb) σ H Q) : tOp r (TEof (GX X fa) eva) (TEof (GX X fa) evb) σ H Q := by
  obtain ⟨m, M, ρ, d, M', hρ, hM, e, fin⟩ := h
  refine te_bind hρ hM e fin fun m1 H1 M1 d1 v hρ1 hM1 rd e1 fin1 p1 x1 => ?_
  refine te_bind hρ1 hM1 e1 fin1 fun m2 H2 M2 d2 w hρ2 hM2 rd2 e2 fin2 p2 x2 => ?_
  exact os m2 H2 M2 v w d1 d2 d M' Q hM2 (rd.mono p2 x2) rd2 e2 fin2
theorem l_bin {op : Operator} {r : R2} {f : D → D → Mem → R D} (ho : OpR X (binaryOp op) r) (os : OpS (GX X fa) f r) (ha : PE X a (TEof (GX X fa) eva)) (hb : PE X b (TEof (GX X fa) evb)) : PE X (.BinOp a op b pos) (TEof (GX X fa) (eBin f eva evb)) :=
  (pe_op ho ha hb).imp fun _ _ _ h => bin_split os h
theorem l_cmp {op : CmpOp} {r : R2} {f : D → D → Mem → R D} (ho : OpR X (compareOp op) r) (os : OpS (GX X fa) f r) (ha : PE X a (TEof (GX X fa) eva)) (hb : PE X b (TEof (GX X fa) evb)) (hm : behindInMarks op b = false := by first | exact nomark _ | rfl | with_unfolding_all rfl) : PE X (.Compare a [op] [b] pos) (TEof (GX X fa) (eBin f eva evb)) :=
  (pe_cmpR ho ha hb hm).imp fun _ _ _ h => bin_split os h
/-- a bool -/
def bOf (ev : Ev) : EvB := fun ρ M => bindO (ev ρ M) fun d M1 => match d with
  | .bl b => some (b, M1)
  | _ => none
theorem bOf_split {ev : Ev} {σ : L2.St} {H : Hp} {Q : Bool → Hp → Prop} (h : TTof (GX X fa) (bOf ev) σ H Q) : TEof (GX X fa) ev σ H fun x H1 => ∃ c, x = .bl c ∧ Q c H1 := by
  obtain ⟨m, M, ρ, d, M', hρ, hM, e, fin⟩ := h
  refine te_bind hρ hM e fin fun m1 H1 M1 d1 v hρ1 hM1 rd e1 fin1 p1 x1 => ?_
  cases rd with
  | bl c => cases e1; exact ⟨_, rfl, fin1.here hM1⟩
  | non => cases e1
  | int i => cases e1
  | str x => cases e1
  | tup _ _ => cases e1
  | ref _ => cases e1
  | fn _ => cases e1
theorem l_tval (h : PE X e (TEof (GX X fa) eva)) (he : ∀ whole, isTrue e X.env whole = (do let v ← whole; standAt e.pos; holding [v] (truthy v)) := by intro _; rfl) : PT X e (TTof (GX X fa) (bOf eva)) :=
  (pt_val h he).imp fun _ _ _ h => bOf_split h
theorem l_tcmp {op : CmpOp} {r : R2} {f : D → D → Mem → R D} (ho : OpR X (compareOp op) r) (os : OpS (GX X fa) f r) (ha : PE X a (TEof (GX X fa) eva)) (hb : PE X b (TEof (GX X fa) evb)) (hm : behindInMarks op b = false := by first | exact nomark _ | rfl | with_unfolding_all rfl) : PT X (.Compare a [op] [b] pos) (TTof (GX X fa) (bOf (eBin f eva evb))) :=
  (pt_cmpR ho ha hb hm).imp fun _ _ _ h => by
    obtain ⟨m, M, ρ, d, M', hρ, hM, e, fin⟩ := bOf_split h
    exact bin_split os ⟨m, M, ρ, d, M', hρ, hM, e, fin⟩

/-! and, or, not, if -/
def bAnd (t u : EvB) : EvB := fun ρ M => bindO (t ρ M) fun c M1 => if c = true then u ρ M1 else some (false, M1)
def bOr (t u : EvB) : EvB := fun ρ M => bindO (t ρ M) fun c M1 => if c = true then some (true, M1) else u ρ M1
def bNot (t : EvB) : EvB := fun ρ M => bindO (t ρ M) fun c M1 => some (!c, M1)
variable {t u : EvB} {rest : List Expr}
theorem l_wand1 (ha : PT X a (TTof (GX X fa) t)) : PW X (.BoolOp .And [a] pos) (TTof (GX X fa) t) := pw_and1 ha
theorem l_wor1 (ha : PT X a (TTof (GX X fa) t)) : PW X (.BoolOp .Or [a] pos) (TTof (GX X fa) t) := pw_or1 ha
theorem l_wand (ha : PT X a (TTof (GX X fa) t)) (hb : PW X (.BoolOp .And (b :: rest) pos) (TTof (GX X fa) u)) : PW X (.BoolOp .And (a :: b :: rest) pos) (TTof (GX X fa) (bAnd t u)) := by
  refine (pw_and ha hb).imp fun σ H Q ⟨m, M, ρ, d, M', hρ, hM, e, fin⟩ => ?_
  refine tt_bind hρ hM e fin fun m1 H1 M1 c hρ1 hM1 e1 fin1 p1 x1 => ?_
  cases c with
  | true => rw [if_pos rfl] at e1; rw [if_pos rfl]; exact ⟨m1, M1, ρ, d, M', hρ1, hM1, e1, fin1⟩
  | false => rw [if_neg (by decide)] at e1; rw [if_neg (by decide)]; cases e1; exact fin1.here hM1
theorem l_wor (ha : PT X a (TTof (GX X fa) t)) (hb : PW X (.BoolOp .Or (b :: rest) pos) (TTof (GX X fa) u)) : PW X (.BoolOp .Or (a :: b :: rest) pos) (TTof (GX X fa) (bOr t u)) := by
  refine (pw_or ha hb).imp fun σ H Q ⟨m, M, ρ, d, M', hρ, hM, e, fin⟩ => ?_
  refine tt_bind hρ hM e fin fun m1 H1 M1 c hρ1 hM1 e1 fin1 p1 x1 => ?_
  cases c with
  | true => rw [if_pos rfl] at e1; rw [if_pos rfl]; cases e1; exact fin1.here hM1
  | false => rw [if_neg (by decide)] at e1; rw [if_neg (by decide)]; exact ⟨m1, M1, ρ, d, M', hρ1, hM1, e1, fin1⟩
theorem l_tw (h : PW X e (TTof (GX X fa) t)) : PT X e (TTof (GX X fa) t) := h.pt
theorem l_tnot (ha : PT X a (TTof (GX X fa) t)) : PT X (.UnaryOp .Not a pos) (TTof (GX X fa) (bNot t)) := by
  refine (pt_not ha).imp fun σ H Q ⟨m, M, ρ, d, M', hρ, hM, e, fin⟩ => ?_
  refine tt_bind hρ hM e fin fun m1 H1 M1 c hρ1 hM1 e1 fin1 p1 x1 => ?_
  cases e1
  exact fin1.here hM1
/-- as values, all of them bools -/
def eAnd (x y : Ev) : Ev := fun ρ M => bindO (bOf x ρ M) fun c M1 => if c = true then y ρ M1 else some (.bl false, M1)
def eOr (x y : Ev) : Ev := fun ρ M => bindO (bOf x ρ M) fun c M1 => if c = true then some (.bl true, M1) else y ρ M1
def eNot (x : Ev) : Ev := fun ρ M => bindO (bOf x ρ M) fun c M1 => some (.bl (!c), M1)
theorem b_bind {G : Gm} {α : Type} {m : List Addr} {M M' : Mem} {ρ : Loc} {σ : L2.St} {H : Hp} {r : α} {k : List Addr → Hp → Prop} {ev : Ev} {f : Bool → Mem → R α} (hρ : Rho G H m ρ σ) (hM : RM G H m M) (e : bindO (bOf ev ρ M) f = some (r, M')) (fin : Fin G m H M' k) {Q : VK}
    (next : ∀ m1 H1 M1 b, Rho G H1 m1 ρ σ → RM G H1 m1 M1 → f b M1 = some (r, M') → Fin G m1 H1 M' k → Q (.bl b) H1) : TEof G ev σ H Q := by
  have e' : bindO (ev ρ M) (fun d M1 => match d with
    | .bl b => f b M1
    | _ => none) = some (r, M') := by
    rw [← e]
    unfold bOf
    cases ev ρ M with
    | none => rfl
    | some p =>
      obtain ⟨d, M1⟩ := p
      cases d <;> rfl
  refine te_bind hρ hM e' fin fun m1 H1 M1 d1 v hρ1 hM1 rd e1 fin1 p1 x1 => ?_
  cases rd with
  | bl b => exact next m1 H1 M1 b hρ1 hM1 e1 fin1
  | non => cases e1
  | int i => cases e1
  | str x => cases e1
  | tup _ _ => cases e1
  | ref _ => cases e1
  | fn _ => cases e1
theorem l_one {op} (h : PE X a (TEof (GX X fa) eva)) : PE X (.BoolOp op [a] pos) (TEof (GX X fa) eva) := pe_one h
theorem l_and (ha : PE X a (TEof (GX X fa) eva)) (hb : PE X (.BoolOp .And (b :: rest) pos) (TEof (GX X fa) evb)) : PE X (.BoolOp .And (a :: b :: rest) pos) (TEof (GX X fa) (eAnd eva evb)) := by
  refine (pe_and ha hb).imp fun σ H Q ⟨m, M, ρ, d, M', hρ, hM, e, fin⟩ => ?_
  refine b_bind hρ hM e fin fun m1 H1 M1 c hρ1 hM1 e1 fin1 => ⟨c, rfl, ?_⟩
  cases c with
  | true => rw [if_pos rfl] at e1; rw [if_pos rfl]; exact ⟨m1, M1, ρ, d, M', hρ1, hM1, e1, fin1⟩
  | false => rw [if_neg (by decide)] at e1; rw [if_neg (by decide)]; cases e1; exact fin1.here hM1 _ (.bl false)
theorem l_or (ha : PE X a (TEof (GX X fa) eva)) (hb : PE X (.BoolOp .Or (b :: rest) pos) (TEof (GX X fa) evb)) : PE X (.BoolOp .Or (a :: b :: rest) pos) (TEof (GX X fa) (eOr eva evb)) := by
  refine (pe_or ha hb).imp fun σ H Q ⟨m, M, ρ, d, M', hρ, hM, e, fin⟩ => ?_
  refine b_bind hρ hM e fin fun m1 H1 M1 c hρ1 hM1 e1 fin1 => ⟨c, rfl, ?_⟩
  cases c with
  | true => rw [if_pos rfl] at e1; rw [if_pos rfl]; cases e1; exact fin1.here hM1 _ (.bl true)
  | false => rw [if_neg (by decide)] at e1; rw [if_neg (by decide)]; exact ⟨m1, M1, ρ, d, M', hρ1, hM1, e1, fin1⟩
theorem l_not (ha : PE X a (TEof (GX X fa) eva)) : PE X (.UnaryOp .Not a pos) (TEof (GX X fa) (eNot eva)) := by
  refine (pe_not ha).imp fun σ H Q ⟨m, M, ρ, d, M', hρ, hM, e, fin⟩ => ?_
  refine b_bind hρ hM e fin fun m1 H1 M1 c hρ1 hM1 e1 fin1 => ⟨c, rfl, ?_⟩
  cases e1
  exact fin1.here hM1 _ (.bl _)
def eIf (t : EvB) (x y : Ev) : Ev := fun ρ M => bindO (t ρ M) fun c M1 => if c = true then x ρ M1 else y ρ M1
theorem l_if {c : Expr} (hc : PT X c (TTof (GX X fa) t)) (ha : PE X a (TEof (GX X fa) eva)) (hb : PE X b (TEof (GX X fa) evb)) : PE X (.IfExp c a b pos) (TEof (GX X fa) (eIf t eva evb)) := by
  refine (pe_ifExp hc ha hb).imp fun σ H Q ⟨m, M, ρ, d, M', hρ, hM, e, fin⟩ => ?_
  refine tt_bind hρ hM e fin fun m1 H1 M1 c hρ1 hM1 e1 fin1 p1 x1 => ?_
  cases c with
  | true => rw [if_pos rfl] at e1; rw [if_pos rfl]; exact ⟨m1, M1, ρ, d, M', hρ1, hM1, e1, fin1⟩
  | false => rw [if_neg (by decide)] at e1; rw [if_neg (by decide)]; exact ⟨m1, M1, ρ, d, M', hρ1, hM1, e1, fin1⟩

/-! calls of built-ins by name -/
def eCall (f : List D → Mem → R D) (evs : EvL) : Ev := fun ρ M => bindO (evs ρ M) f
theorem call_split {r : List V → Hp → VK → Prop} {f : List D → Mem → R D} {evs : EvL} (os : CaS (GX X fa) f r) {σ : L2.St} {H : Hp} {Q : VK} (h : TEof (GX X fa) (eCall f evs) σ H Q) : tCB r (TAof (GX X fa) evs) σ H Q := by
  obtain ⟨m, M, ρ, d, M', hρ, hM, e, fin⟩ := h
  refine ta_bind hρ hM e fin fun m1 H1 M1 ds vs hρ1 hM1 rd e1 fin1 p1 x1 => ?_
  exact os m1 H1 M1 vs ds d M' Q hM1 rd e1 fin1
theorem l_callB {id : String} {r : List V → Hp → VK → Prop} {f : List D → Mem → R D} {x : Str} {es : List Expr} {evs : EvL} (hc : CallR X (.builtin id) r) (os : CaS (GX X fa) f r) (hv : bootBuiltins x = some (.builtin id)) (hm : X.mg x = none) (ha : PA X (e :: es) (TAof (GX X fa) evs)) (hg : Gl X x := by rfl) (hn : x ≠ "__name__" := by decide) (hdb : (x == ("__debug__" : Str)) = false := by decide)
    (he : starEach (e :: es) X.env = (false, eval e X.env) :: starEach es X.env := by rfl) (hpl : (backTo pos (starEach es X.env)).any (·.1) = false := by rfl) : PE X (.Call (.Name x p) (e :: es) [] pos) (TEof (GX X fa) (eCall f evs)) :=
  (pe_callB hc hg hm hv ha hn hdb he hpl).imp fun _ _ _ h => call_split os h
theorem l_callT {id : String} {r : List V → Hp → VK → Prop} {f : List D → Mem → R D} {x : Str} {es : List Expr} {evs : EvL} (hc : CallR X (.type id) r) (os : CaS (GX X fa) f r) (hv : bootBuiltins x = some (.type id)) (hm : X.mg x = none) (ha : PA X (e :: es) (TAof (GX X fa) evs)) (hg : Gl X x := by rfl) (hn : x ≠ "__name__" := by decide) (hdb : (x == ("__debug__" : Str)) = false := by decide)
    (he : starEach (e :: es) X.env = (false, eval e X.env) :: starEach es X.env := by rfl) (hpl : (backTo pos (starEach es X.env)).any (·.1) = false := by rfl) : PE X (.Call (.Name x p) (e :: es) [] pos) (TEof (GX X fa) (eCall f evs)) :=
  (pe_callTy hc hg hm hv ha hn hdb he hpl).imp fun _ _ _ h => call_split os h

/-! own defs -/
/-- what a def promises, by data -/
def SpOf (G : Gm) (n : Nat) (g : List D → Mem → R D) : Sp := fun vs H Q _ => vs.length = n ∧ ∃ m M ds d M', RDs G H m ds vs ∧ RM G H m M ∧ g ds M = some (d, M') ∧ Fin G m H M' fun m' H' => ∀ v, RD G H' m' d v → Q v H'
theorem l_call {k : Nat} {f : Addr} {fd : FuncData} {ps : List Str} {g : List D → Mem → R D} {x : Str} {es : List Expr} {evs : EvL} (F : FnOk X.prog X.w X.K X.mg X.base CX0 k f fd ps (SpOf (GX X fa) (es.length + 1) g)) (hr : Room k X.A) (hm : X.mg x = some (.ref f)) (hk : PySem.W.keepIn X.K (.ref f) = true) (hb : Binds X.K fd ps [])
    (ha : PA X (e :: es) (TAof (GX X fa) evs)) (hl : ∀ ρ M ds M', evs ρ M = some (ds, M') → ds.length = es.length + 1) (hg : Gl X x := by rfl) (hdb : (x == ("__debug__" : Str)) = false := by decide) (he : starEach (e :: es) X.env = (false, eval e X.env) :: starEach es X.env := by rfl) (hpl : (backTo pos (starEach es X.env)).any (·.1) = false := by rfl) :
    PE X (.Call (.Name x p) (e :: es) [] pos) (TEof (GX X fa) (eCall g evs)) := by
  refine (pe_call (E := fun _ _ _ => False) F hr hg hm hk hb .nil pass0 ha hdb he hpl).imp fun σ H Q h => ?_
  obtain ⟨m, M, ρ, d, M', hρ, hM, e, fin⟩ := h
  have hl' := hl ρ M
  cases q : evs ρ M with
  | none =>
    unfold eCall at e
    rw [q] at e
    cases e
  | some p =>
    obtain ⟨ds, M1⟩ := p
    unfold eCall at e
    rw [q] at e
    refine ⟨m, M, ρ, ds, M1, hρ, hM, q, fun m1 H1 a b c vs rds => ?_⟩
    show SpOf (GX X fa) (es.length + 1) g (vs ++ []) H1 Q fun x x_1 x_2 => False
    rw [List.append_nil]
    exact ⟨by rw [← rds.length]; exact hl' ds M1 q, m1, M1, ds, d, M', rds, c, e, fin.mono a b⟩
theorem len_nil : ∀ ρ M ds M', eNil ρ M = some (ds, M') → ds.length = 0 := fun ρ M ds M' h => by cases h; rfl
theorem len_cons {ev : Ev} {evs : EvL} {n : Nat} (h : ∀ ρ M ds M', evs ρ M = some (ds, M') → ds.length = n) : ∀ ρ M ds M', eCons ev evs ρ M = some (ds, M') → ds.length = n + 1 := fun ρ M ds M' e => by
  unfold eCons at e
  cases q : ev ρ M with
  | none => rw [q] at e; cases e
  | some p =>
    rw [q] at e
    have e' : bindO (evs ρ p.2) (fun ds M2 => some (p.1 :: ds, M2)) = some (ds, M') := e
    cases q2 : evs ρ p.2 with
    | none => rw [q2] at e'; cases e'
    | some p2 =>
      rw [q2] at e'
      have e2 : some (p.1 :: p2.1, p2.2) = some (ds, M') := e'
      cases e2
      rw [List.length_cons, h ρ _ p2.1 p2.2 q2]
theorem l_call0 {k : Nat} {f : Addr} {fd : FuncData} {ps : List Str} {g : List D → Mem → R D} {x : Str} (F : FnOk X.prog X.w X.K X.mg X.base CX0 k f fd ps (SpOf (GX X fa) 0 g)) (hr : Room k X.A) (hm : X.mg x = some (.ref f)) (hk : PySem.W.keepIn X.K (.ref f) = true) (hb : Binds X.K fd ps [])
    (hg : Gl X x := by rfl) (hdb : (x == ("__debug__" : Str)) = false := by decide) : PE X (.Call (.Name x p) [] [] pos) (TEof (GX X fa) (eCall g eNil)) := by
  refine (pe_call0 (E := fun _ _ _ => False) F hr hg hm hk hb .nil pass0 hdb).imp fun σ H Q h => ?_
  obtain ⟨m, M, ρ, d, M', hρ, hM, e, fin⟩ := h
  exact ⟨rfl, m, M, [], d, M', .nil, hM, e, fin⟩
end
end Mi
set_option Elab.async false
set_option linter.all false
set_option maxRecDepth 100000
namespace Mi
open PySem PySem.Spec PyProof.Rows L2

/-- how a statement ends -/
inductive Fl where
  | next (ρ : Loc) | ret (d : D) | brk (ρ : Loc) | cont (ρ : Loc)
abbrev Es := Loc → Mem → R Fl
def EndsOk (G : Gm) (D : Ends) : Fl → List Addr → Hp → Prop
  | .next ρ => fun m H => ∀ σ, Rho G H m ρ σ → D.nx σ H
  | .ret d => fun m H => ∀ v, RD G H m d v → D.rt v H
  | .brk ρ => fun m H => ∀ σ, Rho G H m ρ σ → D.bk σ H
  | .cont ρ => fun m H => ∀ σ, Rho G H m ρ σ → D.ct σ H
def TSof (G : Gm) (ev : Es) : TS := fun D σ H => ∃ m M ρ o M', Rho G H m ρ σ ∧ RM G H m M ∧ ev ρ M = some (o, M') ∧ Fin G m H M' (EndsOk G D o)

section
variable {X : Cx} {pos p : Pos} {a b e : Expr} {eva evb : Ev} {fa : Nat → Addr} {st : Stmt} {rest : List Stmt} {s1 s2 : Es} {t : EvB}
def sNil : Es := fun ρ M => some (.next ρ, M)
theorem l_snil : PSs X [] (TSof (GX X fa) sNil) := pss_nil.imp fun D σ H ⟨m, M, ρ, o, M', hρ, hM, e, fin⟩ => by cases e; exact fin.here hM σ hρ
def sSeq (x y : Es) : Es := fun ρ M => bindO (x ρ M) fun o M1 => match o with
  | .next ρ1 => y ρ1 M1
  | o => some (o, M1)
theorem l_seq (h1 : PS X st (TSof (GX X fa) s1)) (h2 : PSs X rest (TSof (GX X fa) s2)) : PSs X (st :: rest) (TSof (GX X fa) (sSeq s1 s2)) := by
  refine (pss_cons h1 h2).imp fun D σ H ⟨m, M, ρ, o, M', hρ, hM, e, fin⟩ => ?_
  unfold sSeq at e
  cases q : s1 ρ M with
  | none => rw [q] at e; cases e
  | some pr =>
    obtain ⟨o1, M1⟩ := pr
    rw [q] at e
    refine ⟨m, M, ρ, o1, M1, hρ, hM, q, fun m1 H1 x y z => ?_⟩
    cases o1 with
    | next ρ1 => exact fun σ1 hρ1 => ⟨m1, M1, ρ1, o, M', hρ1, z, e, fin.mono x y⟩
    | ret d => cases e; exact (fin.mono x y).here z
    | brk ρ1 => cases e; exact (fin.mono x y).here z
    | cont ρ1 => cases e; exact (fin.mono x y).here z
theorem l_sone (h1 : PS X st (TSof (GX X fa) s1)) : PSs X [st] (TSof (GX X fa) s1) := pss_one h1
def sRet (ev : Ev) : Es := fun ρ M => bindO (ev ρ M) fun d M1 => some (.ret d, M1)
theorem l_ret (he : PE X e (TEof (GX X fa) eva)) : PS X (.Return (some e) pos) (TSof (GX X fa) (sRet eva)) := by
  refine (ps_ret he).imp fun D σ H ⟨m, M, ρ, o, M', hρ, hM, e, fin⟩ => ?_
  refine te_bind hρ hM e fin fun m1 H1 M1 d1 v hρ1 hM1 rd e1 fin1 p1 x1 => ?_
  cases e1
  exact fin1.here hM1 v rd
def sRetN : Es := fun _ M => some (.ret .non, M)
theorem l_retN : PS X (.Return none pos) (TSof (GX X fa) sRetN) := ps_retN.imp fun D σ H ⟨m, M, ρ, o, M', hρ, hM, e, fin⟩ => by cases e; exact fin.here hM _ .non
def sPass : Es := fun ρ M => some (.next ρ, M)
theorem l_pass : PS X (.Pass pos) (TSof (GX X fa) sPass) := ps_pass.imp fun D σ H ⟨m, M, ρ, o, M', hρ, hM, e, fin⟩ => by cases e; exact fin.here hM σ hρ
def sBrk : Es := fun ρ M => some (.brk ρ, M)
theorem l_brk : PS X (.Break pos) (TSof (GX X fa) sBrk) := ps_break.imp fun D σ H ⟨m, M, ρ, o, M', hρ, hM, e, fin⟩ => by cases e; exact fin.here hM σ hρ
def sCont : Es := fun ρ M => some (.cont ρ, M)
theorem l_cont : PS X (.Continue pos) (TSof (GX X fa) sCont) := ps_continue.imp fun D σ H ⟨m, M, ρ, o, M', hρ, hM, e, fin⟩ => by cases e; exact fin.here hM σ hρ
def sDrop (ev : Ev) : Es := fun ρ M => bindO (ev ρ M) fun _ M1 => some (.next ρ, M1)
theorem l_expr (he : PE X e (TEof (GX X fa) eva)) (hs : swapsWith e none pos.line X.env = pure false := by rfl) : PS X (.Expr e pos) (TSof (GX X fa) (sDrop eva)) := by
  refine (ps_expr he hs).imp fun D σ H ⟨m, M, ρ, o, M', hρ, hM, e, fin⟩ => ?_
  refine te_bind hρ hM e fin fun m1 H1 M1 d1 v hρ1 hM1 rd e1 fin1 p1 x1 => ?_
  cases e1
  exact fin1.here hM1 σ hρ1
def sIf (t : EvB) (x y : Es) : Es := fun ρ M => bindO (t ρ M) fun c M1 => if c = true then x ρ M1 else y ρ M1
theorem l_sif {c : Expr} {xs ys : List Stmt} (hc : PT X c (TTof (GX X fa) t)) (hx : PSs X xs (TSof (GX X fa) s1)) (hy : PSs X ys (TSof (GX X fa) s2)) : PS X (.If c xs ys pos) (TSof (GX X fa) (sIf t s1 s2)) := by
  refine (ps_if hc hx hy).imp fun D σ H ⟨m, M, ρ, o, M', hρ, hM, e, fin⟩ => ?_
  refine tt_bind hρ hM e fin fun m1 H1 M1 c hρ1 hM1 e1 fin1 p1 x1 => ?_
  cases c with
  | true => rw [if_pos rfl] at e1; rw [if_pos rfl]; exact ⟨m1, M1, ρ, o, M', hρ1, hM1, e1, fin1⟩
  | false => rw [if_neg (by decide)] at e1; rw [if_neg (by decide)]; exact ⟨m1, M1, ρ, o, M', hρ1, hM1, e1, fin1⟩

/-! targets: which slots, and how -/
def TGof (G : Gm) (vs : List Nat) (g : D → Loc → Option Loc) : TG := fun v σ H Q => ∃ m ρ d ρ', Rho G H m ρ σ ∧ RD G H m d v ∧ g d ρ = some ρ' ∧ ∀ σ', Rho G H m ρ' σ' → (σ'.length = σ.length ∧ ∀ j, j ∉ vs → σ'[j]? = σ[j]?) → Q σ' H
def TGsof (G : Gm) (vs : List Nat) (g : List D → Loc → Option Loc) : TGs := fun ws σ H Q => ∃ m ρ ds ρ', Rho G H m ρ σ ∧ RDs G H m ds ws ∧ g ds ρ = some ρ' ∧ ∀ σ', Rho G H m ρ' σ' → (σ'.length = σ.length ∧ ∀ j, j ∉ vs → σ'[j]? = σ[j]?) → Q σ' H
def gN (i : Nat) : D → Loc → Option Loc := fun d ρ => some (ρ.set i (some d))
def gsNil : List D → Loc → Option Loc := fun ds ρ => match ds with
  | [] => some ρ
  | _ => none
def gsCons (g : D → Loc → Option Loc) (gs : List D → Loc → Option Loc) : List D → Loc → Option Loc := fun ds ρ => match ds with
  | d :: r => (g d ρ).bind (gs r)
  | [] => none
def gT (gs : List D → Loc → Option Loc) : D → Loc → Option Loc := fun d ρ => match d with
  | .tup ds => gs ds ρ
  | _ => none
theorem PG.imp {X : Cx} {e : Expr} {t t' : TG} (h : PG X e t) (i : ∀ v σ H Q, t' v σ H Q → t v σ H Q) : PG X e t' := ⟨fun p s σ H v u Q I r q => h.run p s σ H v u Q I r (i v σ H Q q)⟩
theorem PGs.imp {X : Cx} {e : List Expr} {t t' : TGs} (h : PGs X e t) (i : ∀ v σ H Q, t' v σ H Q → t v σ H Q) : PGs X e t' := ⟨fun p s σ H v u Q I r q => h.run p s σ H v u Q I r (i v σ H Q q)⟩
theorem l_gname (i : Nat) {x : Str} (hN : X.N.Nodup) (hi : X.N[i]? = some x := by rfl) (hx : L2.Loc X.env.scope x := by first | exact Or.inl rfl | exact Or.inr rfl) (hf : X.fn x = true ∨ X.env.scope.names.lookup x = some .local := by first | exact .inl rfl | exact .inr rfl) : PG X (.Name x pos) (TGof (GX X fa) [i] (gN i)) := by
  refine PG.imp (pg_name hN hi hx hf) fun v σ H Q ⟨m, ρ, d, ρ', hρ, rd, e, k⟩ => ?_
  cases e
  exact k _ (hρ.set i rd) ⟨List.length_set, fun j hj => by rw [List.getElem?_set_ne (fun z => hj (by rw [z]; exact List.mem_singleton.mpr rfl))]⟩
theorem l_gsnil : PGs X [] (TGsof (GX X fa) [] gsNil) := by
  refine PGs.imp pgs_nil fun v σ H Q ⟨m, ρ, ds, ρ', hρ, rd, e, k⟩ => ?_
  cases rd with
  | nil => cases e; exact ⟨rfl, k σ hρ ⟨rfl, fun _ _ => rfl⟩⟩
  | cons _ _ => cases e
theorem l_gscons {es : List Expr} {vs ws : List Nat} {g : D → Loc → Option Loc} {gs : List D → Loc → Option Loc} (h1 : PG X e (TGof (GX X fa) vs g)) (h2 : PGs X es (TGsof (GX X fa) ws gs))
    (hs : (assignEach (e :: es) X.env).map (·.2) = assign e X.env :: (assignEach es X.env).map (·.2) := by rfl) : PGs X (e :: es) (TGsof (GX X fa) (vs ++ ws) (gsCons g gs)) := by
  refine PGs.imp (pgs_cons h1 h2 hs) fun v σ H Q ⟨m, ρ, ds, ρ', hρ, rd, e, k⟩ => ?_
  cases rd with
  | nil => cases e
  | @cons d ds v vr r rr =>
    have e' : (g d ρ).bind (gs ds) = some ρ' := e
    cases q : g d ρ with
    | none => rw [q] at e'; cases e'
    | some ρ1 =>
      rw [q] at e'
      refine ⟨v, vr, rfl, m, ρ, d, ρ1, hρ, r, q, fun σ1 hρ1 o1 => ?_⟩
      exact ⟨m, ρ1, ds, ρ', hρ1, rr, e', fun σ2 hρ2 o2 => k σ2 hρ2 ⟨o2.1.trans o1.1, fun j hj => (o2.2 j fun z => hj (List.mem_append_right _ z)).trans (o1.2 j fun z => hj (List.mem_append_left _ z))⟩⟩
theorem gs_len : ∀ {gs : List D → Loc → Option Loc}, True := trivial
theorem l_gtup {es : List Expr} {k : Nat} {vs : List Nat} {gs : List D → Loc → Option Loc} (h : PGs X es (TGsof (GX X fa) vs gs)) (hl : ∀ ds ρ ρ', gs ds ρ = some ρ' → ds.length = es.length) (hc : X.calm = true := by rfl)
    (hn : (assignEach es X.env).length = es.length := by rfl) (hst : (assignEach es X.env).findIdx? (·.1) = none := by rfl) : PG X (.Tuple es k pos) (TGof (GX X fa) vs (gT gs)) := by
  refine PG.imp (pg_tup hc h hn hst) fun v σ H Q ⟨m, ρ, d, ρ', hρ, rd, e, kk⟩ => ?_
  cases rd with
  | @tup a ds xs hs rds => exact ⟨a, xs, rfl, hs, by rw [← rds.length]; exact hl ds ρ ρ' e, m, ρ, ds, ρ', hρ, rds, e, kk⟩
  | non => cases e
  | bl _ => cases e
  | int _ => cases e
  | str _ => cases e
  | ref _ => cases e
  | fn _ => cases e
theorem glen_nil : ∀ ds ρ ρ', gsNil ds ρ = some ρ' → ds.length = 0 := fun ds ρ ρ' e => by
  cases ds with
  | nil => rfl
  | cons _ _ => cases e
theorem glen_cons {g : D → Loc → Option Loc} {gs : List D → Loc → Option Loc} {n : Nat} (h : ∀ ds ρ ρ', gs ds ρ = some ρ' → ds.length = n) : ∀ ds ρ ρ', gsCons g gs ds ρ = some ρ' → ds.length = n + 1 := fun ds ρ ρ' e => by
  cases ds with
  | nil => cases e
  | cons d r =>
    have e' : (g d ρ).bind (gs r) = some ρ' := e
    cases q : g d ρ with
    | none => rw [q] at e'; cases e'
    | some ρ1 =>
      rw [q] at e'
      rw [List.length_cons, h r ρ1 ρ' e']

/-- name = e -/
def sSet (i : Nat) (ev : Ev) : Es := fun ρ M => bindO (ev ρ M) fun d M1 => some (.next (ρ.set i (some d)), M1)
theorem l_set (i : Nat) {x : Str} {pos' : Pos} (hN : X.N.Nodup) (he : PE X e (TEof (GX X fa) eva)) (hi : X.N[i]? = some x := by rfl) (hx : L2.Loc X.env.scope x := by first | exact Or.inl rfl | exact Or.inr rfl) (hs : swapsWith e (some (.Name x pos')) pos.line X.env = pure false := by rfl) (hf : X.fn x = true ∨ X.env.scope.names.lookup x = some .local := by first | exact .inl rfl | exact .inr rfl) :
    PS X (.Assign [.Name x pos'] e pos) (TSof (GX X fa) (sSet i eva)) := by
  refine (ps_set hN hi hx he hs hf).imp fun D σ H ⟨m, M, ρ, o, M', hρ, hM, e, fin⟩ => ?_
  refine te_bind hρ hM e fin fun m1 H1 M1 d1 v hρ1 hM1 rd e1 fin1 p1 x1 => ?_
  cases e1
  exact fin1.here hM1 _ (hρ1.set i rd)
/-- target = e -/
def sAsg (g : D → Loc → Option Loc) (ev : Ev) : Es := fun ρ M => bindO (ev ρ M) fun d M1 => (g d ρ).map fun ρ1 => (.next ρ1, M1)
theorem l_asg {tg : Expr} {vs : List Nat} {g : D → Loc → Option Loc} (he : PE X e (TEof (GX X fa) eva)) (hg : PG X tg (TGof (GX X fa) vs g)) (hs : swapsWithSole [tg] e pos.line X.env = pure false := by rfl) (hw : swappedStores [tg] e X.env = pure none := by rfl)
    (h1 : (assignEach [tg] X.env).map (·.2) = [assign tg X.env] := by rfl) : PS X (.Assign [tg] e pos) (TSof (GX X fa) (sAsg g eva)) := by
  refine (ps_asg he hg hs hw h1).imp fun D σ H ⟨m, M, ρ, o, M', hρ, hM, e, fin⟩ => ?_
  refine te_bind hρ hM e fin fun m1 H1 M1 d1 v hρ1 hM1 rd e1 fin1 p1 x1 => ?_
  cases q : g d1 ρ with
  | none => rw [q] at e1; cases e1
  | some ρ1 =>
    rw [q] at e1
    cases e1
    exact ⟨m1, ρ, d1, ρ1, hρ1, rd, q, fun σ' hρ' _ => fin1.here hM1 σ' hρ'⟩
/-- a, b = x, y: both names local -/
def sPar (i j : Nat) (evs : EvL) : Es := fun ρ M => bindO (evs ρ M) fun ds M1 => match ds with
  | [d, e] => some (.next ((ρ.set i (some d)).set j (some e)), M1)
  | _ => none
theorem l_par (i j : Nat) {x y : Str} {evs : EvL} {px py pt : Pos} {kt k2 pt2} (hN : X.N.Nodup) (ha : PA X [a, b] (TAof (GX X fa) evs)) (hc : X.calm = true := by rfl) (hi : X.N[i]? = some x := by rfl) (hj : X.N[j]? = some y := by rfl) (hij : i ≠ j := by decide)
    (hx : X.env.scope.names.lookup x = some .local := by rfl) (hy : X.env.scope.names.lookup y = some .local := by rfl)
    (hw : swappedStores [.Tuple [.Name x px, .Name y py] kt pt] (.Tuple [a, b] k2 pt2) X.env = pure (some [x, y]) := by rfl)
    (hs : swapsWithSole [.Tuple [.Name x px, .Name y py] kt pt] (.Tuple [a, b] k2 pt2) pos.line X.env = pure false := by rfl) :
    PS X (.Assign [.Tuple [.Name x px, .Name y py] kt pt] (.Tuple [a, b] k2 pt2) pos) (TSof (GX X fa) (sPar i j evs)) := by
  refine (ps_par hc hN hi hj hij hx hy ha hw hs).imp fun D σ H ⟨m, M, ρ, o, M', hρ, hM, e, fin⟩ => ?_
  refine ta_bind hρ hM e fin fun m1 H1 M1 ds vs hρ1 hM1 rds e1 fin1 p1 x1 => ?_
  cases rds with
  | nil => cases e1
  | cons r1 t1 =>
    cases t1 with
    | nil => cases e1
    | cons r2 t2 =>
      cases t2 with
      | nil =>
        cases e1
        exact ⟨_, _, rfl, fin1.here hM1 _ ((hρ1.set i r1).set j r2)⟩
      | cons _ _ => cases e1

/-! what is walked -/
abbrev Src := Mem → Option (List D)
def Wk (G : Gm) (J : It) (m0 : List Addr) (H0 : Hp) (get : Src) : Prop := ∀ (i : Nat) H m M xs, m0 <+: m → Ext G H0 H → RM G H m M → get M = some xs →
  (xs[i]? = none → J.stop i H) ∧ ∀ d, xs[i]? = some d → J.go i H ∧ ∀ x H2, J.yld i H x H2 → Ext G H H2 ∧ RM G H2 m M ∧ RD G H2 m d x
abbrev EvI := Loc → Mem → R Src
def TIof (G : Gm) (ev : EvI) : TI := fun σ H Rk => ∃ m M ρ get M', Rho G H m ρ σ ∧ RM G H m M ∧ ev ρ M = some (get, M') ∧ Fin G m H M' fun m' H' => ∀ J, Wk G J m' H' get → Rk J H'
theorem PI.imp {X : Cx} {tg e : Expr} {t t' : TI} (h : PI X tg e t) (i : ∀ σ H Q, t' σ H Q → t σ H Q) : PI X tg e t' := ⟨fun p s σ H Q I q => h.run p s σ H Q I (i σ H Q q)⟩
/-- the list of a number -/
def lstAt (M : Mem) (n : Nat) : Option (List D) := match M[n]? with
  | some (.lst xs) => some xs
  | some (.flst xs) => some xs
  | _ => none
theorem RM.lstAt {G : Gm} {H : Hp} {m : List Addr} {M : Mem} (h : RM G H m M) {n : Nat} {xs : List D} {a : Addr} (e : lstAt M n = some xs) (ea : m[n]? = some a) : ∃ vs, SqL G.K H a vs ∧ RDs G H m xs vs := by
  unfold Mi.lstAt at e
  split at e
  · rename_i ys q
    cases e
    obtain ⟨vs, q1, q2⟩ := h.at_ n a _ ea q
    exact ⟨vs, SqL.of q1, q2⟩
  · rename_i ys q
    cases e
    obtain ⟨vs, q1, q2⟩ := h.at_ n a _ ea q
    rcases q1 with ⟨ob, q1⟩ | q1
    · exact ⟨vs, .inl (.inr ⟨ob, q1⟩), q2⟩
    · exact ⟨vs, .inr q1, q2⟩
  · cases e
def iLst (ev : Ev) : EvI := fun ρ M => bindO (ev ρ M) fun d M1 => match d with
  | .ref n => if (lstAt M1 n).isSome then some ((fun M2 => lstAt M2 n), M1) else none
  | _ => none
def iTp (ev : Ev) : EvI := fun ρ M => bindO (ev ρ M) fun d M1 => match d with
  | .tup ds => some ((fun _ => some ds), M1)
  | _ => none
theorem l_ilst {tg : Expr} (he : PE X e (TEof (GX X fa) eva)) : PI X tg e (TIof (GX X fa) (iLst eva)) := by
  refine PI.imp (pi_list he) fun σ H Rk ⟨m, M, ρ, get, M', hρ, hM, e, fin⟩ => ?_
  refine te_bind hρ hM e fin fun m1 H1 M1 d1 v hρ1 hM1 rd e1 fin1 p1 x1 => ?_
  cases rd with
  | @ref n a ha =>
    have e2 : (if (Mi.lstAt M1 n).isSome then some ((fun M2 => Mi.lstAt M2 n), M1) else none) = some (get, M') := e1
    split at e2
    · rename_i hs
      cases e2
      obtain ⟨ys, hy⟩ := Option.isSome_iff_exists.mp hs
      obtain ⟨vs, q1, q2⟩ := hM1.lstAt hy ha
      refine ⟨a, rfl, ⟨vs, q1⟩, fin1.here hM1 _ fun i H2 m2 M2 xs pm xm hM2 hx => ?_⟩
      obtain ⟨ws, k1, k2⟩ := hM2.lstAt hx (pre_get pm ha)
      refine ⟨fun hn => ⟨ws, k1, by rw [← k2.length]; exact List.getElem?_eq_none_iff.mp hn⟩, fun d hd => ?_⟩
      obtain ⟨w, hw, rw'⟩ := k2.get hd
      refine ⟨⟨ws, w, k1, hw⟩, fun x H3 y => ?_⟩
      obtain ⟨rfl, y⟩ := y
      have ew := y ws k1
      rw [hw] at ew
      cases ew
      exact ⟨Ext.refl, hM2, rw'⟩
    · cases e2
  | non => cases e1
  | bl _ => cases e1
  | int _ => cases e1
  | str _ => cases e1
  | tup _ _ => cases e1
  | fn _ => cases e1
/-- the tuple at an address is one -/
theorem l_itup {tg : Expr} (he : PE X e (TEof (GX X fa) eva)) : PI X tg e (TIof (GX X fa) (iTp eva)) := by
  refine PI.imp (pi_tup he) fun σ H Rk ⟨m, M, ρ, get, M', hρ, hM, e, fin⟩ => ?_
  refine te_bind hρ hM e fin fun m1 H1 M1 d1 v hρ1 hM1 rd e1 fin1 p1 x1 => ?_
  cases rd with
  | @tup a ds vs ha rds =>
    cases e1
    refine ⟨a, rfl, ⟨vs, ha⟩, fin1.here hM1 _ fun i H2 m2 M2 xs pm xm hM2 hx => ?_⟩
    cases hx
    have ha2 := xm.t _ _ ha
    have rds2 := rds.mono pm xm
    refine ⟨fun hn => ⟨vs, ha2, by rw [← rds.length]; exact List.getElem?_eq_none_iff.mp hn⟩, fun d hd => ?_⟩
    obtain ⟨w, hw, rw'⟩ := rds2.get hd
    refine ⟨⟨vs, w, ha2, hw⟩, fun x H3 y => ?_⟩
    obtain ⟨rfl, y⟩ := y
    have ew := y vs ha2
    rw [hw] at ew
    cases ew
    exact ⟨Ext.refl, hM2, rw'⟩
  | non => cases e1
  | bl _ => cases e1
  | int _ => cases e1
  | str _ => cases e1
  | ref _ => cases e1
  | fn _ => cases e1
/-- range(n) -/
def rgD (lo : Int) (n : Nat) : List D := (List.range n).map fun i => .int (lo + (i : Nat))
theorem rgD_get {lo : Int} {n i : Nat} : (rgD lo n)[i]? = if i < n then some (.int (lo + (i : Nat))) else none := by
  unfold rgD
  rw [List.getElem?_map]
  by_cases h : i < n
  · rw [if_pos h, List.getElem?_eq_getElem (by rw [List.length_range]; exact h), List.getElem_range]; rfl
  · rw [if_neg h, List.getElem?_eq_none_iff.mpr (by rw [List.length_range]; omega)]; rfl
theorem wk_range {G : Gm} {lo : Int} {n : Nat} {m : List Addr} {H : Hp} : Wk G (Itr lo n) m H (fun _ => some (rgD lo n)) := fun i H2 m2 M2 xs pm xm hM2 hx => by
  cases hx
  rw [rgD_get]
  by_cases h : i < n
  · rw [if_pos h]
    refine ⟨fun z => (by cases z), fun d hd => ?_⟩
    cases hd
    refine ⟨h, fun x H3 y => ?_⟩
    obtain ⟨rfl, rfl⟩ := y
    exact ⟨Ext.refl, hM2, .int _⟩
  · rw [if_neg h]
    exact ⟨fun _ => by show n ≤ i; omega, fun d hd => by cases hd⟩
def iRg1 (evs : EvL) : EvI := fun ρ M => bindO (evs ρ M) fun ds M1 => match ds with
  | [.int j] => if -(2 ^ 62) ≤ j ∧ j < 2 ^ 62 then some ((fun _ => some (rgD 0 j.toNat)), M1) else none
  | _ => none
theorem l_irange1 {tg : Expr} {evs : EvL} (hm : X.mg "range" = none) (ha : PA X [a] (TAof (GX X fa) evs)) (hg : Gl X "range" := by rfl) (hs : starEach [a] X.env = [(false, eval a X.env)] := by rfl) : PI X tg (.Call (.Name "range" p) [a] [] pos) (TIof (GX X fa) (iRg1 evs)) := by
  refine PI.imp (pi_range1 hg hm ha hs) fun σ H Rk ⟨m, M, ρ, get, M', hρ, hM, e, fin⟩ => ?_
  refine ta_bind hρ hM e fin fun m1 H1 M1 ds vs hρ1 hM1 rds e1 fin1 p1 x1 => ?_
  cases rds with
  | nil => cases e1
  | cons r1 t1 =>
    cases t1 with
    | cons _ _ => cases r1 <;> cases e1
    | nil =>
      cases r1 with
      | int j =>
        have e2 : (if -(2 ^ 62) ≤ j ∧ j < 2 ^ 62 then some ((fun _ : Mem => some (rgD 0 j.toNat)), M1) else none) = some (get, M') := e1
        split at e2
        · rename_i hj
          cases e2
          exact ⟨j, rfl, hj.1, hj.2, fin1.here hM1 _ wk_range⟩
        · cases e2
      | non => cases e1
      | bl _ => cases e1
      | str _ => cases e1
      | tup _ _ => cases e1
      | ref _ => cases e1
      | fn _ => cases e1

/-! for -/
def forN (get : Src) (g : D → Loc → Option Loc) (body : Es) : Nat → Nat → Loc → Mem → R Fl
  | 0, _, _, _ => none
  | f + 1, i, ρ, M => match get M with
    | none => none
    | some xs => match xs[i]? with
      | none => some (.next ρ, M)
      | some d => match g d ρ with
        | none => none
        | some ρ1 => match body ρ1 M with
          | none => none
          | some (.next ρ2, M2) => forN get g body f (i + 1) ρ2 M2
          | some (.cont ρ2, M2) => forN get g body f (i + 1) ρ2 M2
          | some (.brk ρ2, M2) => some (.next ρ2, M2)
          | some (.ret d, M2) => some (.ret d, M2)
def sFor (src : EvI) (g : D → Loc → Option Loc) (body : Es) : Es := fun ρ M => bindO (src ρ M) fun get M1 => match get M1 with
  | none => none
  | some xs => forN get g body (xs.length + 1) 0 ρ M1
theorem l_for {tg iter : Expr} {body : List Stmt} {src : EvI} {vs : List Nat} {g : D → Loc → Option Loc} {bd : Es} (hp : PassesOwn (model X.prog X.w) X.A X.env X.xe) (hi : PI X tg iter (TIof (GX X fa) src)) (hg : PG X tg (TGof (GX X fa) vs g)) (hb : PSs X body (TSof (GX X fa) bd)) (hc : X.calm = true := by rfl)
    (hs : ∀ x, foldedSetIterable iter X.env x = pure x := by intro _; rfl) : PS X (.For tg iter body [] pos) (TSof (GX X fa) (sFor src g bd)) := by
  refine (ps_for hp hc hi hg hb hs).imp fun D σ H ⟨m, M, ρ, o, M', hρ, hM, e, fin⟩ => ?_
  unfold sFor at e
  cases q : src ρ M with
  | none => rw [q] at e; cases e
  | some pr =>
    obtain ⟨get, M1⟩ := pr
    rw [q] at e
    refine ⟨m, M, ρ, get, M1, hρ, hM, q, fun m1 H1 pm xm hM1 J wk => ?_⟩
    have e' : (match get M1 with
      | none => none
      | some xs => forN get g bd (xs.length + 1) 0 ρ M1) = some (o, M') := e
    refine ⟨fun i n σ H => ∃ m2 M2 ρ2, m1 <+: m2 ∧ Ext (GX X fa) H1 H ∧ Rho (GX X fa) H m2 ρ2 σ ∧ RM (GX X fa) H m2 M2 ∧ forN get g bd n i ρ2 M2 = some (o, M') ∧ Fin (GX X fa) m2 H M' (EndsOk (GX X fa) D o), ?_, ?_⟩
    · cases gq : get M1 with
      | none => rw [gq] at e'; cases e'
      | some xs =>
        rw [gq] at e'
        exact ⟨xs.length + 1, m1, M1, ρ, List.prefix_refl _, Ext.refl, hρ.mono pm xm, hM1, e', fin.mono pm xm⟩
    · rintro i n σ2 H2 ⟨m2, M2, ρ2, pm2, xm2, hρ2, hM2, e2, fin2⟩
      cases n with
      | zero => cases e2
      | succ f =>
        have e3 : (match get M2 with
          | none => none
          | some xs => match xs[i]? with
            | none => some (.next ρ2, M2)
            | some d => match g d ρ2 with
              | none => none
              | some ρ1 => match bd ρ1 M2 with
                | none => none
                | some (.next ρ2, M2) => forN get g bd f (i + 1) ρ2 M2
                | some (.cont ρ2, M2) => forN get g bd f (i + 1) ρ2 M2
                | some (.brk ρ2, M2) => some (.next ρ2, M2)
                | some (.ret d, M2) => some (.ret d, M2)) = some (o, M') := e2
        cases gq : get M2 with
        | none => rw [gq] at e3; cases e3
        | some xs =>
          obtain ⟨w1, w2⟩ := wk i H2 m2 M2 xs pm2 xm2 hM2 gq
          rw [gq] at e3
          cases xq : xs[i]? with
          | none =>
            simp only [xq] at e3
            cases e3
            exact .inl ⟨w1 xq, fin2.here hM2 σ2 hρ2⟩
          | some d =>
            simp only [xq] at e3
            obtain ⟨hgo, hy⟩ := w2 d xq
            cases aq : g d ρ2 with
            | none => rw [aq] at e3; cases e3
            | some ρ3 =>
              rw [aq] at e3
              simp only at e3
              refine .inr ⟨hgo, fun σ' H' => ∃ m2 M2 ρ2, m1 <+: m2 ∧ Ext (GX X fa) H1 H' ∧ Rho (GX X fa) H' m2 ρ2 σ' ∧ RM (GX X fa) H' m2 M2 ∧ forN get g bd f (i + 1) ρ2 M2 = some (o, M') ∧ Fin (GX X fa) m2 H' M' (EndsOk (GX X fa) D o), fun σ' H' z => ⟨f, Nat.lt_succ_self f, z⟩, fun x H3 yy => ?_⟩
              obtain ⟨xe3, hM3, rd3⟩ := hy x H3 yy
              refine ⟨m2, ρ2, d, ρ3, hρ2.mono (List.prefix_refl _) xe3, rd3, aq, fun σ3 hρ3 _ => ?_⟩
              cases bq : bd ρ3 M2 with
              | none => rw [bq] at e3; cases e3
              | some pr =>
                obtain ⟨o3, M3⟩ := pr
                rw [bq] at e3
                refine ⟨m2, M2, ρ3, o3, M3, hρ3, hM3, bq, fun m4 H4 pm4 xm4 hM4 => ?_⟩
                have fin4 : Fin (GX X fa) m4 H4 M' (EndsOk (GX X fa) D o) := fin2.mono pm4 (xe3.trans xm4)
                have pm14 := pm2.trans pm4
                have xm14 := (xm2.trans xe3).trans xm4
                cases o3 with
                | next ρ4 => exact fun σ4 hρ4 => ⟨m4, M3, ρ4, pm14, xm14, hρ4, hM4, e3, fin4⟩
                | cont ρ4 => exact fun σ4 hρ4 => ⟨m4, M3, ρ4, pm14, xm14, hρ4, hM4, e3, fin4⟩
                | brk ρ4 => cases e3; exact fin4.here hM4
                | ret d4 => cases e3; exact fin4.here hM4
end
end Mi
set_option Elab.async false
set_option linter.all false
set_option maxRecDepth 100000
namespace Mi
open PySem PySem.Spec PyProof.Rows L2
section
variable {X : Cx} {pos p : Pos} {a b e : Expr} {eva evb : Ev} {fa : Nat → Addr}
/-- tests of a comprehension -/
def bYes : EvB := fun _ M => some (true, M)
theorem l_tsnil : PTs X [] (TTof (GX X fa) bYes) := pts_nil.imp fun σ H Q ⟨m, M, ρ, d, M', hρ, hM, e, fin⟩ => by cases e; exact fin.here hM
theorem l_tsone {t : EvB} (h : PT X a (TTof (GX X fa) t)) : PTs X [a] (TTof (GX X fa) t) := pts_one h
/-- the list at n grows -/
def lput (M : Mem) (n : Nat) (d : D) : Option Mem := match M[n]? with
  | some (.lst xs) => if xs.length < sizeLine then some (M.set n (.lst (xs ++ [d]))) else none
  | _ => none
def lcN (get : Src) (g : D → Loc → Option Loc) (t : EvB) (el : Ev) (D0 : Nat) (ρ : Loc) : Nat → Nat → Mem → Option Mem
  | 0, _, _ => none
  | f + 1, i, M => match get M with
    | none => none
    | some xs => match xs[i]? with
      | none => some M
      | some d => match g d ρ with
        | none => none
        | some ρ1 => match t ρ1 M with
          | none => none
          | some (false, M2) => lcN get g t el D0 ρ f (i + 1) M2
          | some (true, M2) => match el ρ1 M2 with
            | none => none
            | some (y, M3) => match lput M3 D0 y with
              | none => none
              | some M4 => lcN get g t el D0 ρ f (i + 1) M4
def eLc (src : EvI) (vs : List Nat) (g : D → Loc → Option Loc) (t : EvB) (el : Ev) : Ev := fun ρ M => bindO (src ρ M) fun get M1 => match get (M1 ++ [.lst []]) with
  | none => none
  | some xs => (lcN get g t el M1.length (wipeD ρ vs) (xs.length + 1) 0 (M1 ++ [.lst []])).map fun M2 => (.ref M1.length, M2)
theorem wipe_same {σ τ : L2.St} (hl : σ.length = τ.length) : ∀ vs : List Nat, (∀ j, j ∉ vs → σ[j]? = τ[j]?) → wipe σ vs = wipe τ vs := fun vs h => by
  have get : ∀ (vs : List Nat) (σ : L2.St) (j : Nat), (wipe σ vs)[j]? = if j ∈ vs then (if j < σ.length then some none else none) else σ[j]? := by
    intro vs
    induction vs with
    | nil => intro σ j; simp [L2.wipe]
    | cons v vs ih =>
      intro σ j
      unfold L2.wipe
      rw [List.getElem?_set, ih, wipe_length]
      by_cases hv : v = j
      · subst hv
        by_cases hl : v < σ.length <;> simp [hl]
      · have : j ≠ v := fun z => hv z.symm
        simp [hv, this]
  apply List.ext_getElem?
  intro j
  rw [get, get, hl]
  by_cases hj : j ∈ vs
  · rw [if_pos hj, if_pos hj]
  · rw [if_neg hj, if_neg hj, h j hj]
theorem wipe_wipe (σ : L2.St) (vs : List Nat) : wipe (wipe σ vs) vs = wipe σ vs := wipe_same (wipe_length σ vs) vs fun j hj => by
  have get : ∀ (vs : List Nat) (σ : L2.St) (j : Nat), j ∉ vs → (wipe σ vs)[j]? = σ[j]? := by
    intro vs
    induction vs with
    | nil => intro σ j _; rfl
    | cons v vs ih =>
      intro σ j hj
      unfold L2.wipe
      rw [List.getElem?_set_ne (fun z => hj (by rw [z]; exact List.mem_cons_self)), ih σ j fun z => hj (List.mem_cons_of_mem _ z)]
  exact get vs σ j hj
theorem RM.lput {G : Gm} {H : Hp} {m : List Addr} {M M' : Mem} {n : Nat} {d : D} {a : Addr} {v : V} (h : RM G H m M) (e : lput M n d = some M') (ea : m[n]? = some a) (rd : RD G H m d v) : ∃ vs, H a = some (.lst vs) ∧ vs.length < sizeLine ∧ RM G (upd H a (.lst (vs ++ [v]))) m M' ∧ Ext G H (upd H a (.lst (vs ++ [v]))) := by
  unfold Mi.lput at e
  split at e
  · rename_i xs q
    split at e
    · rename_i hl
      cases e
      obtain ⟨vs, q1, q2⟩ := h.at_ n a _ ea q
      have mu : Mut (H a) := by rw [q1]; trivial
      have xe : Ext G H (upd H a (.lst (vs ++ [v]))) := Ext.write mu
      refine ⟨vs, q1, by rw [← q2.length]; exact hl, h.set ea q rfl rfl ⟨vs ++ [v], upd_same, ?_⟩, xe⟩
      exact (q2.append (.cons rd .nil)).mono (List.prefix_refl _) xe
    · cases e
  · cases e
theorem lc_imp {src : EvI} {vs vs0 : List Nat} {g : D → Loc → Option Loc} {t : EvB} {el : Ev} (hvs : ∀ j, j ∈ vs → j ∈ vs0) : ∀ σ H Q, TEof (GX X fa) (eLc src vs0 g t el) σ H Q → tLc (TIof (GX X fa) src) (TGof (GX X fa) vs g) (TTof (GX X fa) t) (TEof (GX X fa) el) vs0 σ H Q := by
  intro σ H Q ⟨m, M, ρ, o, M', hρ, hM, e, fin⟩
  unfold eLc at e
  cases q : src ρ M with
  | none => rw [q] at e; cases e
  | some pr =>
    obtain ⟨get, M1⟩ := pr
    rw [q] at e
    refine ⟨m, M, ρ, get, M1, hρ, hM, q, fun m1 H1 pm xm hM1 J wk D hD => ?_⟩
    have e' : (match get (M1 ++ [.lst []]) with
      | none => none
      | some xs => (lcN get g t el M1.length (wipeD ρ vs0) (xs.length + 1) 0 (M1 ++ [.lst []])).map fun M2 => (Mi.D.ref M1.length, M2)) = some (o, M') := e
    have xD : Ext (GX X fa) H1 (upd H1 D (.lst [])) := Ext.new hD
    have hMD : RM (GX X fa) (upd H1 D (.lst [])) (m1 ++ [D]) (M1 ++ [.lst []]) := hM1.push hD ⟨[], upd_same, .nil⟩
    have hDn : (m1 ++ [D])[M1.length]? = some D := by rw [← hM1.len, List.getElem?_append_right (Nat.le_refl _), Nat.sub_self]; rfl
    have hρ0 : Rho (GX X fa) (upd H1 D (.lst [])) (m1 ++ [D]) (wipeD ρ vs0) (wipe σ vs0) := (hρ.wipe _).mono (pm.trans (List.prefix_append _ _)) (xm.trans xD)
    cases gq : get (M1 ++ [.lst []]) with
    | none => rw [gq] at e'; cases e'
    | some xs =>
      rw [gq] at e'
      cases lq : lcN get g t el M1.length (wipeD ρ vs0) (xs.length + 1) 0 (M1 ++ [.lst []]) with
      | none => simp only [lq] at e'; cases e'
      | some Mz =>
        simp only [lq] at e'
        cases e'
        have finD : Fin (GX X fa) (m1 ++ [D]) (upd H1 D (.lst [])) M' fun _ H' => Q (.ref D) H' := fun m' H' x y z => fin m' H' (pm.trans ((List.prefix_append _ _).trans x)) (xm.trans (xD.trans y)) z _ (.ref (pre_get x hDn))
        refine ⟨fun i n H => ∃ m2 M2, (m1 ++ [D]) <+: m2 ∧ Ext (GX X fa) (upd H1 D (.lst [])) H ∧ RM (GX X fa) H m2 M2 ∧ lcN get g t el M1.length (wipeD ρ vs0) n i M2 = some M', ⟨xs.length + 1, m1 ++ [D], M1 ++ [.lst []], List.prefix_refl _, Ext.refl, hMD, lq⟩, ?_⟩
        rintro i n H2 ⟨m2, M2, pm2, xm2, hM2, e2⟩
        cases n with
        | zero => cases e2
        | succ f =>
          have e3 : (match get M2 with
            | none => none
            | some xs => match xs[i]? with
              | none => some M2
              | some d => match g d (wipeD ρ vs0) with
                | none => none
                | some ρ1 => match t ρ1 M2 with
                  | none => none
                  | some (false, M2) => lcN get g t el M1.length (wipeD ρ vs0) f (i + 1) M2
                  | some (true, M2) => match el ρ1 M2 with
                    | none => none
                    | some (y, M3) => match lput M3 M1.length y with
                      | none => none
                      | some M4 => lcN get g t el M1.length (wipeD ρ vs0) f (i + 1) M4) = some M' := e2
          cases gq2 : get M2 with
          | none => rw [gq2] at e3; cases e3
          | some ys =>
            obtain ⟨w1, w2⟩ := wk i H2 m2 M2 ys ((List.prefix_append _ _).trans pm2) (xD.trans xm2) hM2 gq2
            rw [gq2] at e3
            cases xq : ys[i]? with
            | none =>
              simp only [xq] at e3
              cases e3
              exact .inl ⟨w1 xq, (finD.mono pm2 xm2).here hM2⟩
            | some d =>
              simp only [xq] at e3
              obtain ⟨hgo, hy⟩ := w2 d xq
              cases aq : g d (wipeD ρ vs0) with
              | none => rw [aq] at e3; cases e3
              | some ρ3 =>
                rw [aq] at e3
                simp only at e3
                refine .inr ⟨hgo, fun H' => ∃ m2 M2, (m1 ++ [D]) <+: m2 ∧ Ext (GX X fa) (upd H1 D (.lst [])) H' ∧ RM (GX X fa) H' m2 M2 ∧ lcN get g t el M1.length (wipeD ρ vs0) f (i + 1) M2 = some M', fun H' z => ⟨f, Nat.lt_succ_self f, z⟩, fun x H3 yy => ?_⟩
                obtain ⟨xe3, hM3, rd3⟩ := hy x H3 yy
                refine ⟨m2, wipeD ρ vs0, d, ρ3, hρ0.mono pm2 (xm2.trans xe3), rd3, aq, fun σ3 hρ3 o3 => ⟨?_, ?_⟩⟩
                · rw [wipe_same (o3.1) _ fun j hj => o3.2 j fun z => hj (hvs j z), wipe_wipe]
                · have xm23 := xm2.trans xe3
                  cases tq : t ρ3 M2 with
                  | none => rw [tq] at e3; cases e3
                  | some pr =>
                    obtain ⟨bb, M3⟩ := pr
                    rw [tq] at e3
                    refine ⟨m2, M2, ρ3, bb, M3, hρ3, hM3, tq, fun m4 H4 pm4 xm4 hM4 => ?_⟩
                    cases bb with
                    | false =>
                      rw [if_neg (by decide)]
                      exact ⟨m4, M3, pm2.trans pm4, xm23.trans xm4, hM4, e3⟩
                    | true =>
                      rw [if_pos rfl]
                      simp only at e3
                      cases eq : el ρ3 M3 with
                      | none => rw [eq] at e3; cases e3
                      | some pr =>
                        obtain ⟨y, M5⟩ := pr
                        rw [eq] at e3
                        simp only at e3
                        refine ⟨m4, M3, ρ3, y, M5, hρ3.mono pm4 xm4, hM4, eq, fun m5 H5 pm5 xm5 hM5 w rd5 => ?_⟩
                        cases pq : Mi.lput M5 M1.length y with
                        | none => rw [pq] at e3; cases e3
                        | some M6 =>
                          rw [pq] at e3
                          have pm25 := pm2.trans (pm4.trans pm5)
                          obtain ⟨acc, k1, k2, k3, k4⟩ := hM5.lput pq (pre_get pm25 hDn) rd5
                          exact ⟨acc, k1, k2, m5, M6, pm25, (xm23.trans (xm4.trans xm5)).trans k4, k3, e3⟩
theorem l_lc {elt tg iter : Expr} {ifs : List Expr} {scope : Scope} {own : List (Str × Nat)} {src : EvI} {vs : List Nat} {g : D → Loc → Option Loc} {t : EvB} {el : Ev} (hN : X.N.Nodup) (hi : PI X tg iter (TIof (GX X fa) src)) (ok : BlkOk X.N X.env.scope scope own)
    (hg : ∀ (s : Shared) (H : Hp) (C : Addr) (cl : List (Str × Addr)) (fp : List Addr), PG (X.blk s H scope (compEnvC scope cl C X.env) fp) tg (TGof (GX X fa) vs g)) (ht : ∀ (s : Shared) (H : Hp) (C : Addr) (cl : List (Str × Addr)) (fp : List Addr), PTs (X.blk s H scope (compEnvC scope cl C X.env) fp) ifs (TTof (GX X fa) t))
    (he : ∀ (s : Shared) (H : Hp) (C : Addr) (cl : List (Str × Addr)) (fp : List Addr), PE (X.blk s H scope (compEnvC scope cl C X.env) fp) elt (TEof (GX X fa) el)) (hvs : ∀ j, j ∈ vs → j ∈ own.map (·.2)) (hc : X.calm = true := by rfl) (hs : ∀ x, foldedSetIterable iter X.env x = pure x := by intro _; rfl) :
    PE X (.ListComp elt [⟨tg, iter, ifs, 0⟩] scope pos) (TEof (GX X fa) (eLc src (own.map (·.2)) g t el)) := (pe_lc hc hN hi ok hg ht he hs).imp (lc_imp hvs)
theorem l_setLc (i : Nat) {y : Str} {py spos : Pos} {elt tg iter : Expr} {ifs : List Expr} {scope : Scope} {own : List (Str × Nat)} {src : EvI} {vs : List Nat} {g : D → Loc → Option Loc} {t : EvB} {el : Ev} (hN : X.N.Nodup) (hi : PI X tg iter (TIof (GX X fa) src)) (ok : BlkOk X.N X.env.scope scope own)
    (hg : ∀ (s : Shared) (H : Hp) (C : Addr) (cl : List (Str × Addr)) (fp : List Addr), PG (X.blk s H scope (compEnvC scope cl C X.env) fp) tg (TGof (GX X fa) vs g)) (ht : ∀ (s : Shared) (H : Hp) (C : Addr) (cl : List (Str × Addr)) (fp : List Addr), PTs (X.blk s H scope (compEnvC scope cl C X.env) fp) ifs (TTof (GX X fa) t))
    (he : ∀ (s : Shared) (H : Hp) (C : Addr) (cl : List (Str × Addr)) (fp : List Addr), PE (X.blk s H scope (compEnvC scope cl C X.env) fp) elt (TEof (GX X fa) el)) (hvs : ∀ j, j ∈ vs → j ∈ own.map (·.2)) (hc : X.calm = true := by rfl) (hs : ∀ x, foldedSetIterable iter X.env x = pure x := by intro _; rfl)
    (hy : X.N[i]? = some y := by rfl) (hyl : X.env.scope.names.lookup y = some .local := by rfl) (hsw : swapsWith (.ListComp elt [⟨tg, iter, ifs, 0⟩] scope pos) (some (.Name y py)) spos.line X.env = pure true := by exact sw_true rfl rfl rfl (by decide +kernel)) :
    PS X (.Assign [.Name y py] (.ListComp elt [⟨tg, iter, ifs, 0⟩] scope pos) spos) (TSof (GX X fa) (sSet i (eLc src (own.map (·.2)) g t el))) := by
  refine (ps_setLc hc hN hy hyl hsw hi ok hg ht he hs).imp fun D σ H ⟨m, M, ρ, o, M', hρ, hM, e, fin⟩ => ?_
  refine lc_imp hvs σ H _ ?_
  refine te_bind hρ hM e fin fun m1 H1 M1 d1 v hρ1 hM1 rd e1 fin1 p1 x1 => ?_
  cases e1
  exact fin1.here hM1 _ (hρ1.set i rd)
end
end Mi
set_option Elab.async false
set_option linter.all false
set_option maxRecDepth 100000
/-! own defs, where no repr is under way -/
namespace Mi
open PySem PySem.Spec PyProof.Rows L2

/-- a def keeps its promise wherever no repr is under way and nothing is let out -/
structure FnG (P : Program) (w : World) (K : PySem.W.Frag) (mg : Str → Option Value) (base : Heap) (k : Nat) (f : Addr) (fd : FuncData) (ps : List Str) (sp : Sp) : Prop where
  count : ∀ vs H Q E, sp vs H Q E → vs.length = ps.length
  go : ∀ (A : Around) (fr : List Env) (st : Shared) (H : Hp) (ar : Args) (us : List Value) (vs : List V) (Q : VK), Room k A → A.guards = some [] → Env0 P w K mg base A fr st H → BindsTo st fd ar (ps.zip us) → Vals vs us → sp vs H Q E0 →
    codeAny (model P w) A (.call (.ref f) ar) (CR CX0 fr P w H st Q E0) st

abbrev CxG (P : Program) (w : World) (K : PySem.W.Frag) (mg : Str → Option Value) (base : Heap) (N : List Str) (qual : Str) (sc : Scope) (f : Addr) (cd : Value) (A : Around) (fr : List Env) (st : Shared) (H : Hp) : Cx := (cxOf CX0 P w K mg base N qual sc f cd A fr st H E0).nox

/-- by its body -/
theorem fng_body {P : Program} {w : World} {K : PySem.W.Frag} {mg : Str → Option Value} {base : Heap} {x qual : Str} {pa : Arguments} {bd : List Stmt} {sc : Scope} {f : Addr} {fd : FuncData} {N ps : List Str} {k : Nat} {sp : Sp} (F : FunD K x qual pa bd sc [] [] f fd) (S : FnScope N ps sc)
    (count : ∀ vs H Q E, sp vs H Q E → vs.length = ps.length)
    (walk : ∀ (cd : Value) (A : Around) (fr : List Env) (st : Shared) (H : Hp), Room k (A.deeper (envOfC qual sc st.heap.objs.size f cd)) → (A.deeper (envOfC qual sc st.heap.objs.size f cd)).guards = some [] →
      ∃ t, PSs (CxG P w K mg base N qual sc f cd A fr st H) bd t ∧ ∀ vs Q, sp vs H Q E0 → t { nx := fun _ H' => Q .non H', rt := Q } (start N vs) H) : FnG P w K mg base (k + 1) f fd ps sp := by
  obtain ⟨oc, od, dV, kV, doc, pm, an, cd, ct, osl, rfl, lk, hcd, _, _⟩ := F.ex
  constructor
  · exact count
  intro A fr st H ar us vs Q hr hg e0 hb rv hsp
  have hKs : K.In st.heap := e0.mod.kin.keeps fun b o q => (e0.bs b o q).1
  have hlim : st.heap.NoLimit := e0.mod.nolimit.keeps fun b o q => (e0.bs b o q).1
  have kinds : ∀ y ∈ ps.zip us, sc.names.lookup y.1 = some .local ∨ (sc.names.lookup y.1 = some .cell ∧ ((cellsFrom (st.heap.objs.size + 1) sc.names []).lookup y.1).isSome = true) := by
    intro y hy
    obtain ⟨nm, u⟩ := y
    cases S.par nm (List.of_mem_zip hy).1 with
    | inl q => exact Or.inl q
    | inr q => exact Or.inr ⟨q, PySem.W.cellsFrom_some _ _ _ (Or.inl q)⟩
  apply codeAny_call_function hr.depth (hKs _ _ lk) rfl S.co S.gen rfl (PySem.W.codeRec_of hKs hcd)
  apply hb
  apply wpAny_newFunctionEnv_cells S.kind kinds
  intro env he s1 xi
  cases he
  refine ⟨hlim.keeps xi.toInCall.keep, ?_⟩
  apply codeAny_func
  obtain ⟨t, ht, hq⟩ := walk cd A fr st H (hr.deeper _) hg
  have I0 : Inv (cxOf CX0 P w K mg base N qual sc f cd A fr st H E0) [] (start N vs) H s1 := inv_start S hr.hd e0 (count _ _ _ _ hsp) rv xi
  have run := ht.run [] s1 (start N vs) H { nx := fun _ H' => Q .non H', rt := Q } (I0.wish _) (hq vs Q hsp)
  refine wpAny_mono run ?_ (fun _ _ z => z.elim)
  intro fl s' hs
  cases fl with
  | brk => exact hs.elim fun _ z => z.elim fun _ z => z.2.elim
  | cont => exact hs.elim fun _ z => z.elim fun _ z => z.2.elim
  | next =>
    obtain ⟨σ', H', J, q⟩ := hs
    exact ⟨.non, H', J.os, J.bare, J.base, J.hok, rfl, q⟩
  | ret u =>
    obtain ⟨v, σ', H', J, rv', q⟩ := hs
    exact ⟨v, H', J.os, J.bare, J.base, J.hok, rv', q⟩

section
variable {X : Cx} {k : Nat} {f : Addr} {fd : FuncData} {ps : List Str} {sp : Sp} {x : Str} {p pos : Pos} {e : Expr} {es : List Expr} {t : TA}
theorem fng_run {pins : List (Addr × Obj)} {σ : L2.St} {H : Hp} {st : Shared} {Q : VK} {us : List Value} {vs : List V} (F : FnG X.prog X.w X.K X.mg X.base k f fd ps sp) (hr : Room k X.A) (hg : X.A.guards = some []) (hb : Binds X.K fd ps [])
    (I : Inv X pins σ H st) (r : Vals vs us) (h : sp vs H Q E0) : wpAny (model X.prog X.w) X.A (call (.ref f) us) (EP X pins σ Q) X.xe st := by
  have hl : us.length = ps.length := r.length.symm.trans (F.count _ _ _ _ h)
  have hb' := hb st us I.kIn (by rw [List.append_nil]; exact hl)
  rw [List.append_nil] at hb'
  apply wpAny_call
  refine codeAny_mono (F.go X.A X.stack st H _ us vs Q hr hg I.env0 hb' r h) ?_
  intro rs s' hq
  cases rs with
  | error z => exact hq.elim
  | ok fl =>
    cases fl with
    | ret u => exact I.after hq
    | next => exact hq.elim
    | brk => exact hq.elim
    | cont => exact hq.elim
def tCallG (sp : Sp) (t : TA) : TE := fun σ H Q => t σ H fun vs H1 => sp vs H1 Q E0
theorem peg_call (F : FnG X.prog X.w X.K X.mg X.base k f fd ps sp) (hr : Room k X.A) (hgd : X.A.guards = some []) (hg : Gl X x) (hm : X.mg x = some (.ref f)) (hk : PySem.W.keepIn X.K (.ref f) = true) (hb : Binds X.K fd ps [])
    (ha : PA X (e :: es) t) (hdb : (x == ("__debug__" : Str)) = false) (he : starEach (e :: es) X.env = (false, eval e X.env) :: starEach es X.env) (hpl : (backTo pos (starEach es X.env)).any (·.1) = false) :
    PE X (.Call (.Name x p) (e :: es) [] pos) (tCallG sp t) := by
  constructor
  intro pins st σ H Q I h
  apply wpAny_Call_Name_kw (ld_glob I hg hm ?_ hdb)
  apply PySem.W.callWith_K (h₀ := X.base) I.ok.mod.kin hk (thn (ha.run pos pins st σ H _ I h) ?_) he hpl
  rintro us s1 ⟨vs, H1, I1, r, q⟩
  exact ⟨I1.kIn, fng_run F hr hgd hb I1 r q⟩
theorem peg_call0 (F : FnG X.prog X.w X.K X.mg X.base k f fd ps sp) (hr : Room k X.A) (hgd : X.A.guards = some []) (hg : Gl X x) (hm : X.mg x = some (.ref f)) (hk : PySem.W.keepIn X.K (.ref f) = true) (hb : Binds X.K fd ps [])
    (hdb : (x == ("__debug__" : Str)) = false) : PE X (.Call (.Name x p) [] [] pos) (tCallG sp tNil) := by
  constructor
  intro pins st σ H Q I h
  apply wpAny_Call_Name_kw (ld_glob I hg hm ?_ hdb)
  exact PySem.W.callWith_K0 I.kIn hk (fng_run (us := []) F hr hgd hb I .nil h)
end

/-! the data's promise -/
/-- all slots as a call begins -/
def startD (n : Nat) (ds : List D) : Loc := ds.map some ++ List.replicate (n - ds.length) none
def runB (n : Nat) (ev : Es) : List D → Mem → R D := fun ds M => bindO (ev (startD n ds) M) fun o M1 => match o with
  | .ret d => some (d, M1)
  | .next _ => some (.non, M1)
  | _ => none
theorem rho_start {G : Gm} {H : Hp} {m : List Addr} {N : List Str} {ds : List D} {vs : List V} (r : RDs G H m ds vs) : Rho G H m (startD N.length ds) (start N vs) := by
  unfold startD L2.start
  have hl := r.length
  refine ⟨by simp [hl], fun i d q => ?_⟩
  by_cases hi : i < ds.length
  · rw [List.getElem?_append_left (by simpa using hi), List.getElem?_map] at q
    cases e : ds[i]? with
    | none => rw [e] at q; cases q
    | some d' =>
      rw [e] at q
      cases q
      obtain ⟨v, hv, rd⟩ := r.get e
      exact ⟨v, by rw [List.getElem?_append_left (by rw [List.length_map, ← hl]; exact hi), List.getElem?_map, hv]; rfl, rd⟩
  · rw [List.getElem?_append_right (by simpa using hi), List.getElem?_replicate] at q
    split at q <;> cases q
theorem sp_body {G : Gm} {N : List Str} {ev : Es} {np : Nat} {vs : List V} {H : Hp} {Q : VK} {E : XK} (h : SpOf G np (runB N.length ev) vs H Q E) : TSof G ev { nx := fun _ H' => Q .non H', rt := Q } (start N vs) H := by
  obtain ⟨_, m, M, ds, d, M', rds, hM, e, fin⟩ := h
  unfold runB at e
  cases q : ev (startD N.length ds) M with
  | none => rw [q] at e; cases e
  | some pr =>
    obtain ⟨o, M1⟩ := pr
    rw [q] at e
    refine ⟨m, M, _, o, M1, rho_start rds, hM, q, fun m1 H1 a b c => ?_⟩
    cases o with
    | ret d1 => cases e; exact fin m1 H1 a b c
    | next ρ1 => cases e; exact fun σ _ => fin m1 H1 a b c _ .non
    | brk ρ1 => cases e
    | cont ρ1 => cases e
/-- a def of the table, by its body -/
theorem fng_of {P : Program} {w : World} {K : PySem.W.Frag} {mg : Str → Option Value} {base : Heap} {x qual : Str} {pa : Arguments} {bd : List Stmt} {sc : Scope} {f : Addr} {fd : FuncData} {N ps : List Str} {k : Nat} {fa : Nat → Addr} {ev : Es} (F : FunD K x qual pa bd sc [] [] f fd) (S : FnScope N ps sc)
    (walk : ∀ (cd : Value) (A : Around) (fr : List Env) (st : Shared) (H : Hp), Room k (A.deeper (envOfC qual sc st.heap.objs.size f cd)) → (A.deeper (envOfC qual sc st.heap.objs.size f cd)).guards = some [] →
      PSs (CxG P w K mg base N qual sc f cd A fr st H) bd (TSof ⟨K, fa⟩ ev)) : FnG P w K mg base (k + 1) f fd ps (SpOf ⟨K, fa⟩ ps.length (runB N.length ev)) :=
  fng_body F S (fun vs H Q E h => h.1) fun cd A fr st H hr hg => ⟨_, walk cd A fr st H hr hg, fun vs Q h => sp_body h⟩

/-! the table of defs -/
abbrev CallF := Nat → List D → Mem → R D
structure Fns (P : Program) (w : World) (K : PySem.W.Frag) (mg : Str → Option Value) (base : Heap) (fa : Nat → Addr) (tab : List (Str × List Str)) (call : CallF) (k : Nat) : Prop where
  ok : ∀ (i : Nat) (x : Str) (ps : List Str), tab[i]? = some (x, ps) → mg x = some (.ref (fa i)) ∧ PySem.W.keepIn K (.ref (fa i)) = true ∧ ∃ fd, Binds K fd ps [] ∧ FnG P w K mg base k (fa i) fd ps (SpOf ⟨K, fa⟩ ps.length (call i))
theorem fng_zero {P : Program} {w : World} {K : PySem.W.Frag} {mg : Str → Option Value} {base : Heap} {fa : Nat → Addr} {f : Addr} {fd : FuncData} {ps : List Str} {k n : Nat} (hn : n = ps.length) : FnG P w K mg base k f fd ps (SpOf ⟨K, fa⟩ n fun _ _ => none) :=
  ⟨fun vs H Q E h => h.1.trans hn, fun A fr st H ar us vs Q _ _ _ _ _ h => by obtain ⟨_, m, M, ds, d, M', _, _, e, _⟩ := h; cases e⟩
section
variable {X : Cx} {fa : Nat → Addr} {tab : List (Str × List Str)} {call : CallF} {k : Nat} {x : Str} {ps : List Str} {p pos : Pos} {e : Expr} {es : List Expr} {evs : EvL}
theorem l_fn (i : Nat) (T : Fns X.prog X.w X.K X.mg X.base fa tab call k) (hr : Room k X.A) (hgd : X.A.guards = some []) (ha : PA X (e :: es) (TAof (GX X fa) evs)) (hi : tab[i]? = some (x, ps) := by rfl) (hl : ps.length = es.length + 1 := by rfl)
    (hev : ∀ ρ M ds M', evs ρ M = some (ds, M') → ds.length = es.length + 1 := by repeat (first | exact len_nil | apply len_cons)) (hg : Gl X x := by rfl) (hdb : (x == ("__debug__" : Str)) = false := by decide) (he : starEach (e :: es) X.env = (false, eval e X.env) :: starEach es X.env := by rfl) (hpl : (backTo pos (starEach es X.env)).any (·.1) = false := by rfl) :
    PE X (.Call (.Name x p) (e :: es) [] pos) (TEof (GX X fa) (eCall (call i) evs)) := by
  obtain ⟨hm, hk, fd, hb, F⟩ := T.ok i x ps hi
  refine (peg_call F hr hgd hg hm hk hb ha hdb he hpl).imp fun σ H Q ⟨m, M, ρ, d, M', hρ, hM, e, fin⟩ => ?_
  have hev' := hev ρ M
  unfold eCall at e
  cases q : evs ρ M with
  | none => rw [q] at e; cases e
  | some pr =>
    obtain ⟨ds, M1⟩ := pr
    rw [q] at e
    refine ⟨m, M, ρ, ds, M1, hρ, hM, q, fun m1 H1 a b c vs rds => ?_⟩
    exact ⟨by rw [← rds.length, hl]; exact hev' ds M1 q, m1, M1, ds, d, M', rds, c, e, fin.mono a b⟩
theorem l_fn0 (i : Nat) (T : Fns X.prog X.w X.K X.mg X.base fa tab call k) (hr : Room k X.A) (hgd : X.A.guards = some []) (hi : tab[i]? = some (x, []) := by rfl) (hg : Gl X x := by rfl) (hdb : (x == ("__debug__" : Str)) = false := by decide) :
    PE X (.Call (.Name x p) [] [] pos) (TEof (GX X fa) (eCall (call i) eNil)) := by
  obtain ⟨hm, hk, fd, hb, F⟩ := T.ok i x [] hi
  refine (peg_call0 F hr hgd hg hm hk hb hdb).imp fun σ H Q ⟨m, M, ρ, d, M', hρ, hM, e, fin⟩ => ?_
  exact ⟨rfl, m, M, [], d, M', .nil, hM, e, fin⟩
end
end Mi
set_option Elab.async false
set_option linter.all false
set_option maxRecDepth 100000
/-! a law's end over data -/
namespace Mi
open PySem PySem.Spec PyProof.Rows L2
/-- the law's own promise at the state behind the top, by a call of which the data come to True -/
theorem law_here {P : Program} {w : World} {K : PySem.W.Frag} {mg mb : Str → Option Value} {k : Nat} {f a : Addr} {fd : FuncData} {x : Str} {g : List D → Mem → R D} {fa : Nat → Addr} {st : Shared} {vs : List Value} {ns : List Int}
    (KX : K.In st.heap) (hns : st.heap.Ns mainGlobals mg) (hb : st.heap.Ns builtinsNs mb) (hbb : ∀ y : Str, y ≠ "__name__" → mb y = bootBuiltins y) (hlim : st.heap.NoLimit) (hg : st.gens = #[])
    (ha : st.heap.get? a = some { cls := .type "list", data := .seq vs.toArray }) (hi : IntsAre vs ns) (hl : ns.length ≤ sizeLine) (hr : Room k callerA)
    (F : ∀ base : Heap, K.In base → base.Ns mainGlobals mg → FnG P w K mg base k f fd [x] (SpOf ⟨K, fa⟩ 1 g)) (hbind : ∀ (s : Shared) (u : Value), BindsTo s fd ⟨[u], []⟩ [(x, u)])
    (true_ : ∃ M', g [.ref 0] [.flst (ns.map .int)] = some (.bl true, M')) :
    codeAny (model P w) callerA (.call (.ref f) ⟨[.ref a], []⟩) (fun r s' => r = .ok (.ret (.bool true)) ∧ OldK st.heap s'.heap ∧ s'.os = st.os ∧ AllBare s'.gens) st := by
  have rv := vals_ints hi
  have cnt := hi.length
  obtain ⟨M', hM'⟩ := true_
  have rds : ∀ (H : Hp) (m : List Addr), RDs ⟨K, fa⟩ H m (ns.map Mi.D.int) (ns.map V.int) := by
    intro H m
    clear hi cnt rv hM' hl
    induction ns with
    | nil => exact .nil
    | cons n ns ih => exact .cons (.int n) ih
  have main : ∀ H : Hp, (∀ b, H b ≠ none → b = a ∧ ∃ o, H b = some (.frz o (.lst (ns.map V.int)))) → (H a ≠ none → K.lookup a = none) → RO ⟨K, fa⟩ H [a] a (.flst (ns.map .int)) → HOk P w H st.heap →
      codeAny (model P w) callerA (.call (.ref f) ⟨[.ref a], []⟩) (fun r s' => r = .ok (.ret (.bool true)) ∧ OldK st.heap s'.heap ∧ s'.os = st.os ∧ AllBare s'.gens) st := by
    intro H only hK ro hok
    have notdict : ∀ {b : Addr} {o : Obj} {es : Array DictEntry} {ep : Nat}, st.heap.get? b = some o → o.data = .dict es ep → H b = none := by
      intro b o es ep e d
      cases q : H b with
      | none => rfl
      | some u =>
        have z := (only b (by rw [q]; simp)).1
        rw [z, ha] at e
        cases e
        cases (show Data.seq vs.toArray _ = Data.dict es ep from d)
    have carry : ∀ {b : Addr} {m : Str → Option Value}, st.heap.Ns b m → (hidT st.heap H).Ns b m := by
      intro b m hb'
      obtain ⟨o, es, ep, e, d, r⟩ := hb'
      exact ⟨o, es, ep, hidT_get e (notdict e d), d, r⟩
    have kin : K.In (hidT st.heap H) := by
      intro b o e
      refine hidT_get (KX b o e) ?_
      cases q : H b with
      | none => rfl
      | some u =>
        have z := (only b (by rw [q]; simp)).1
        rw [z] at e q
        rw [hK (by rw [q]; simp)] at e
        cases e
    obtain ⟨mc, c1, c2⟩ := hlim
    have md : Mod K mg (hidT st.heap H) := ⟨kin, carry hns, ⟨mb, carry hb, hbb⟩, ⟨mc, carry c1, c2⟩⟩
    have e0 : Env0 P w K mg (hidT st.heap H) callerA [] st H := by
      refine ⟨rfl, md, fun b o e => of_hidT e, Nat.le_of_eq (hidT_size _ _), trivial, ?_, hok, .of_eq hg⟩
      intro b hb'
      cases hb'
    have rm : RM ⟨K, fa⟩ H [a] [.flst (ns.map .int)] := by
      refine ⟨rfl, ?_, ?_⟩
      · intro i j b o u e1 e2 f1 f2 m1 m2
        match i, f1 with
        | 0, f1 => cases f1; cases m1
        | i + 1, f1 => cases f1
      · intro n b o e1 e2
        match n, e1, e2 with
        | 0, e1, e2 => cases e1; cases e2; exact ro
        | n + 1, e1, e2 => cases e1
    have sp : SpOf ⟨K, fa⟩ 1 g [V.ref a] H (fun v _ => v = .bl true) E0 := ⟨rfl, [a], _, [.ref 0], .bl true, M', .cons (.ref rfl) .nil, rm, hM', fun m' H' _ _ _ v rd => by cases rd; rfl⟩
    refine codeAny_mono ((F _ kin (carry hns)).go callerA [] st H ⟨[.ref a], []⟩ [.ref a] [.ref a] _ hr rfl e0 (hbind st (.ref a)) (.cons rfl .nil) sp) ?_
    intro r s' h
    cases r with
    | error e => exact h.elim
    | ok fl =>
      cases fl with
      | next => exact h.elim
      | brk => exact h.elim
      | cont => exact h.elim
      | ret u =>
        obtain ⟨v, H', os, bare, un, hok', r', q⟩ := h
        cases (show v = .bl true from q)
        cases (show u = Value.bool true from r')
        refine ⟨rfl, OldK.of_keep ?_, os, bare⟩
        intro b o e
        cases q : H b with
        | none => exact un.keep b o e q List.not_mem_nil List.not_mem_nil
        | some u =>
          obtain ⟨_, ob, z⟩ := only b (by rw [q]; simp)
          have o1 := (hok b _ z).1
          have o2 := (hok' b _ (un.frzs b ob _ z)).1
          rw [e] at o1
          cases o1
          exact o2
  cases hk : K.lookup a with
  | some o =>
    have e := KX a o hk
    rw [ha] at e
    cases e
    refine main (fun _ => none) (fun b z => absurd rfl z) (fun z => absurd rfl z) ⟨ns.map V.int, .inr ⟨_, vs.toArray, _, hk, rfl, rfl, rfl, ?_, by simpa using rv⟩, rds _ _⟩ (fun b u z => by cases z)
    rw [List.size_toArray, cnt]
    exact hl
  | none =>
    refine main (fun b => if b = a then some (.frz { cls := .type "list", data := .seq vs.toArray } (.lst (ns.map V.int))) else none) ?_ (fun _ => hk) ⟨ns.map V.int, .inl ⟨_, if_pos rfl⟩, rds _ _⟩ ?_
    · intro b z
      by_cases hb' : b = a
      · exact ⟨hb', _, if_pos hb'⟩
      · exact absurd (if_neg hb') z
    · intro b u z
      by_cases hb' : b = a
      · have z' := (if_pos hb').symm.trans z
        cases z'
        subst hb'
        exact ⟨ha, by rw [List.length_map]; exact hl, vs, _, rv, ha⟩
      · have z' := (if_neg hb').symm.trans z
        cases z'
/-- the end of a law's row -/
theorem walk_data {l : PySem.W.OpenLaw} {n k : Nat} {q : Program} {loose : List Str} {XP : (Str → Option Value) → Heap → Prop} {YP : World → Heap → Prop} {d : DefRec} {x : Str} {g : List D → Mem → R D}
    (hn : l.most = some n) (hn2 : n ≤ sizeLine) (hdf : d.params.defaults = []) (hr : Room k callerA)
    (F : ∀ (w : World) (mg : Str → Option Value) (f : Addr) (h : Heap), YP w h → h.Ns mainGlobals mg → mg d.name = some (.ref f) →
      ∃ (K : PySem.W.Frag) (fd : FuncData) (fa : Nat → Addr), K.In h ∧ (∀ (s : Shared) (u : Value), BindsTo s fd ⟨[u], []⟩ [(x, u)]) ∧
        ∀ base : Heap, K.In base → base.Ns mainGlobals mg → FnG l.prog w K mg base k f fd [x] (SpOf ⟨K, fa⟩ 1 g))
    (true_ : ∀ ns : List Int, ns.length ≤ n → ∃ M', g [.ref 0] [.flst (ns.map .int)] = some (.bl true, M')) :
    PySem.W.WalkO q loose XP YP l.row.toRowW d [] (fun f vs => PySem.call f vs) := by
  apply Att.attach_call hn hdf
  intro w s₀ s₁ mg mb f o pm cd doc a vs ns G Y ho hd hcd hmg hobj hints hlen hg
  obtain ⟨K, fd, fa, KX, hb, hF⟩ := F w mg f _ Y G.T.g hmg
  exact law_here KX G.T.g G.T.b G.T.builtins G.T.nolimit hg hobj hints (Nat.le_trans hlen hn2) hr hF hb (true_ ns hlen)
end Mi
set_option Elab.async false
set_option linter.all false
set_option maxRecDepth 100000
/-! operators, calls of built-ins, items -/
namespace Mi
open PySem PySem.Spec PyProof.Rows L2

/-! whole data of the library's kind -/
mutual
def toPy (M : Mem) : Nat → D → Option PyData
  | 0, _ => none
  | _ + 1, .non => some .none
  | _ + 1, .bl b => some (.bool b)
  | _ + 1, .int i => some (.int i)
  | _ + 1, .str x => some (.str x)
  | n + 1, .tup xs => (toPys M n xs).map .tuple
  | n + 1, .ref k => match lstAt M k with
    | some xs => (toPys M n xs).map .list
    | none => none
  | _ + 1, .fn _ => none
def toPys (M : Mem) : Nat → List D → Option (List PyData)
  | 0, _ => none
  | _ + 1, [] => some []
  | n + 1, x :: xs => match toPy M n x with
    | some d => (toPys M n xs).map (d :: ·)
    | none => none
end
section
variable {G : Gm} {H : Hp} {m : List Addr} {M : Mem}
mutual
theorem toPy_dp (hM : RM G H m M) : ∀ (n : Nat) (d : D) (v : V) (p : PyData), toPy M n d = some p → RD G H m d v → Dp G.K H v p
  | 0, _, _, _, e, _ => by cases e
  | n + 1, .non, _, _, e, r => by cases r; cases e; exact .non
  | n + 1, .bl b, _, _, e, r => by cases r; cases e; exact .bl b
  | n + 1, .int i, _, _, e, r => by cases r; cases e; exact .int i
  | n + 1, .str x, _, _, e, r => by cases r; cases e; exact .str x
  | n + 1, .fn i, _, _, e, r => by cases e
  | n + 1, .tup xs, _, _, e, r => by
    cases r with
    | tup hs rds =>
      have e' : (toPys M n xs).map PyData.tuple = some _ := e
      cases q : toPys M n xs with
      | none => rw [q] at e'; cases e'
      | some ps =>
        rw [q] at e'
        cases e'
        exact .tup hs (toPys_dp hM n xs _ ps q rds)
  | n + 1, .ref k, _, _, e, r => by
    cases r with
    | ref ha =>
      have e' : (match lstAt M k with
        | some xs => (toPys M n xs).map PyData.list
        | none => none) = some _ := e
      cases q : lstAt M k with
      | none => rw [q] at e'; cases e'
      | some xs =>
        rw [q] at e'
        obtain ⟨vs, hs, rds⟩ := hM.lstAt q ha
        cases q2 : toPys M n xs with
        | none => simp only [q2] at e'; cases e'
        | some ps =>
          simp only [q2] at e'
          cases e'
          exact .lst hs (toPys_dp hM n xs _ ps q2 rds)
theorem toPys_dp (hM : RM G H m M) : ∀ (n : Nat) (ds : List D) (vs : List V) (ps : List PyData), toPys M n ds = some ps → RDs G H m ds vs → DpAll G.K H vs ps
  | 0, _, _, _, e, _ => by cases e
  | n + 1, [], _, _, e, r => by cases r; cases e; exact .nil
  | n + 1, d :: ds, _, _, e, r => by
    cases r with
    | cons r1 rr =>
      have e' : (match toPy M n d with
        | some p => (toPys M n ds).map (p :: ·)
        | none => none) = some _ := e
      cases q : toPy M n d with
      | none => rw [q] at e'; cases e'
      | some p =>
        rw [q] at e'
        cases q2 : toPys M n ds with
        | none => simp only [q2] at e'; cases e'
        | some ps =>
          simp only [q2] at e'
          cases e'
          exact .cons (toPy_dp hM n d _ p q r1) (toPys_dp hM n ds _ ps q2 rr)
end
end
abbrev fuelD : Nat := 100000
/-- a == b -/
def eqD (M : Mem) (x y : D) : Option Bool := match toPy M fuelD x, toPy M fuelD y with
  | some a, some b => if SeqAt.shaped a = true ∧ SeqAt.shaped b = true then some (PyData.eqv a b) else none
  | _, _ => none
def oEq : D → D → Mem → R D := fun x y M => match x, y with
  | .str a, .str b => some (.bl (decide (a = b)), M)
  | x, y => (eqD M x y).map fun b => (.bl b, M)
def oNe : D → D → Mem → R D := fun x y M => match x, y with
  | .str a, .str b => some (.bl (!decide (a = b)), M)
  | x, y => (eqD M x y).map fun b => (.bl (!b), M)
theorem dec_str (a b : Str) : decide (V.str a = V.str b) = decide (a = b) := by
  by_cases h : a = b
  · rw [h, decide_eq_true rfl, decide_eq_true rfl]
  · rw [decide_eq_false h, decide_eq_false fun z => h (V.str.inj z)]
theorem eqD_dp {G : Gm} {H : Hp} {m : List Addr} {M : Mem} (hM : RM G H m M) {x y : D} {v w : V} {b : Bool} (e : eqD M x y = some b) (rx : RD G H m x v) (ry : RD G H m y w) : ∃ p q, Dp G.K H v p ∧ Dp G.K H w q ∧ SeqAt.shaped p = true ∧ SeqAt.shaped q = true ∧ PyData.eqv p q = b := by
  unfold eqD at e
  cases q1 : toPy M fuelD x with
  | none => rw [q1] at e; cases e
  | some p =>
    cases q2 : toPy M fuelD y with
    | none => rw [q1, q2] at e; cases e
    | some q =>
      rw [q1, q2] at e
      simp only at e
      split at e
      · rename_i h
        cases e
        exact ⟨p, q, toPy_dp hM _ _ _ _ q1 rx, toPy_dp hM _ _ _ _ q2 ry, h.1, h.2, rfl⟩
      · cases e
section
variable {X : Cx} {fa : Nat → Addr}
theorem os_eq : OpS (GX X fa) oEq (orR rEq (rEqD X.K)) := fun m H M x y dx dy d M' Q hM rx ry e k => by
  unfold oEq at e
  split at e
  · cases e
    cases rx
    cases ry
    exact .inl ⟨rfl, by rw [dec_str]; exact k.here hM _ (.bl _)⟩
  · cases q : eqD M dx dy with
    | none => rw [q] at e; cases e
    | some b =>
      rw [q] at e
      cases e
      obtain ⟨p, r, h1, h2, h3, h4, h5⟩ := eqD_dp hM q rx ry
      exact .inr ⟨p, r, h1, h2, h3, h4, by rw [h5]; exact k.here hM _ (.bl b)⟩
theorem os_ne : OpS (GX X fa) oNe (orR rNe (rNeD X.K)) := fun m H M x y dx dy d M' Q hM rx ry e k => by
  unfold oNe at e
  split at e
  · cases e
    cases rx
    cases ry
    exact .inl ⟨rfl, by rw [dec_str]; exact k.here hM _ (.bl _)⟩
  · cases q : eqD M dx dy with
    | none => rw [q] at e; cases e
    | some b =>
      rw [q] at e
      cases e
      obtain ⟨p, r, h1, h2, h3, h4, h5⟩ := eqD_dp hM q rx ry
      exact .inr ⟨p, r, h1, h2, h3, h4, by rw [h5]; exact k.here hM _ (.bl _)⟩
/-! ints -/
def oI (c : Int → Int → Bool) (g : Int → Int → D) : D → D → Mem → R D := fun x y M => match x, y with
  | .int i, .int j => if c i j = true then some (g i j, M) else none
  | _, _ => none
theorem os_I {C : Int → Int → Prop} {c : Int → Int → Bool} {g : Int → Int → D} {gv : Int → Int → V} (hc : ∀ i j, c i j = true → C i j) (hg : ∀ (G : Gm) (H : Hp) (m : List Addr) i j v, RD G H m (g i j) v → v = gv i j) (hg2 : ∀ (G : Gm) (H : Hp) (m : List Addr) i j, RD G H m (g i j) (gv i j)) : OpS (GX X fa) (oI c g) (rI C gv) := fun m H M x y dx dy d M' Q hM rx ry e k => by
  unfold oI at e
  split at e
  · rename_i i j
    split at e
    · rename_i h
      cases e
      cases rx
      cases ry
      exact ⟨i, j, rfl, rfl, hc i j h, k.here hM _ (hg2 _ _ _ i j)⟩
    · cases e
  · cases e
def oI0 (g : Int → Int → D) : D → D → Mem → R D := fun x y M => match x, y with
  | .int i, .int j => some (g i j, M)
  | _, _ => none
theorem os_I0 {g : Int → Int → D} {gv : Int → Int → V} (hg2 : ∀ (G : Gm) (H : Hp) (m : List Addr) i j, RD G H m (g i j) (gv i j)) : OpS (GX X fa) (oI0 g) (rI0 gv) := fun m H M x y dx dy d M' Q hM rx ry e k => by
  unfold oI0 at e
  split at e
  · rename_i i j
    cases e
    cases rx
    cases ry
    exact ⟨i, j, rfl, rfl, k.here hM _ (hg2 _ _ _ i j)⟩
  · cases e
def oSub : D → D → Mem → R D := oI0 fun i j => .int (i - j)
theorem os_sub : OpS (GX X fa) oSub (rI0 fun i j => .int (i - j)) := os_I0 fun _ _ _ i j => .int _
def oLt : D → D → Mem → R D := oI0 fun i j => .bl (decide (i < j))
theorem os_lt : OpS (GX X fa) oLt (rI0 fun i j => .bl (decide (i < j))) := os_I0 fun _ _ _ i j => .bl _
def oLe : D → D → Mem → R D := oI0 fun i j => .bl (decide (i ≤ j))
theorem os_le : OpS (GX X fa) oLe (rI0 fun i j => .bl (decide (i ≤ j))) := os_I0 fun _ _ _ i j => .bl _
def oGt : D → D → Mem → R D := oI0 fun i j => .bl (decide (j < i))
theorem os_gt : OpS (GX X fa) oGt (rI0 fun i j => .bl (decide (j < i))) := os_I0 fun _ _ _ i j => .bl _
def oGe : D → D → Mem → R D := oI0 fun i j => .bl (decide (j ≤ i))
theorem os_ge : OpS (GX X fa) oGe (rI0 fun i j => .bl (decide (j ≤ i))) := os_I0 fun _ _ _ i j => .bl _
def cMul (i j : Int) : Bool := decide (i.natAbs.log2 + j.natAbs.log2 < 1000000)
def oMul : D → D → Mem → R D := oI cMul fun i j => .int (i * j)
theorem os_mul : OpS (GX X fa) oMul (rI CMulW fun i j => .int (i * j)) := os_I (fun i j h => by first | exact (of_decide_eq_true h : i.natAbs.log2 + j.natAbs.log2 < 1000000) | exact (of_decide_eq_true h : 0 < j ∧ j.natAbs.log2 < 9000) | exact (of_decide_eq_true h : 0 ≤ j ∧ j ≤ 1000000 ∧ i.natAbs < 2 ^ 64) | exact of_decide_eq_true h) (fun _ _ _ i j v r => by cases r; rfl) fun _ _ _ i j => .int _
def cDiv (_ j : Int) : Bool := decide (0 < j ∧ j.natAbs.log2 < 9000)
def oDiv : D → D → Mem → R D := oI cDiv fun i j => .int (i / j)
theorem os_div : OpS (GX X fa) oDiv (rI CDivW fun i j => .int (i / j)) := os_I (fun i j h => by first | exact (of_decide_eq_true h : i.natAbs.log2 + j.natAbs.log2 < 1000000) | exact (of_decide_eq_true h : 0 < j ∧ j.natAbs.log2 < 9000) | exact (of_decide_eq_true h : 0 ≤ j ∧ j ≤ 1000000 ∧ i.natAbs < 2 ^ 64) | exact of_decide_eq_true h) (fun _ _ _ i j v r => by cases r; rfl) fun _ _ _ i j => .int _
def oMod : D → D → Mem → R D := oI (fun _ j => decide (0 < j)) fun i j => .int (i % j)
theorem os_mod : OpS (GX X fa) oMod (rI (fun _ j => 0 < j) fun i j => .int (i % j)) := os_I (fun i j h => by first | exact (of_decide_eq_true h : i.natAbs.log2 + j.natAbs.log2 < 1000000) | exact (of_decide_eq_true h : 0 < j ∧ j.natAbs.log2 < 9000) | exact (of_decide_eq_true h : 0 ≤ j ∧ j ≤ 1000000 ∧ i.natAbs < 2 ^ 64) | exact of_decide_eq_true h) (fun _ _ _ i j v r => by cases r; rfl) fun _ _ _ i j => .int _
def CPowB (i j : Int) : Prop := 0 ≤ j ∧ (Builtin.Int.intBits i : Int) * j ≤ 2 ^ 27
instance (i j : Int) : Decidable (CPowB i j) := by unfold CPowB; infer_instance
theorem op_powB : OpR X (binaryOp .Pow) (rI CPowB fun i j => .int (i ^ j.toNat)) := opI fun _ _ _ _ _ _ _ hc q => PyProof.Rows.pow_int hc.1 hc.2 q
def cPow (i j : Int) : Bool := decide (CPowB i j)
def oPow : D → D → Mem → R D := oI cPow fun i j => .int (i ^ j.toNat)
theorem os_pow : OpS (GX X fa) oPow (rI CPowB fun i j => .int (i ^ j.toNat)) := os_I (fun i j h => of_decide_eq_true h) (fun _ _ _ i j v r => by cases r; rfl) fun _ _ _ i j => .int _
/-! + -/
def oAdd : D → D → Mem → R D := fun x y M => match x, y with
  | .int i, .int j => some (.int (i + j), M)
  | .str a, .str b => if a.length + b.length ≤ sizeLine then some (.str (a ++ b), M) else none
  | .tup xs, .tup ys => if xs.length + ys.length ≤ sizeLine then some (.tup (xs ++ ys), M) else none
  | .ref n, .ref k => match M[n]?, M[k]? with
    | some (.lst xs), some (.lst ys) => if xs.length + ys.length ≤ sizeLine then some (.ref M.length, M ++ [.lst (xs ++ ys)]) else none
    | _, _ => none
  | _, _ => none
abbrev rAdd4 (K : PySem.W.Frag) : R2 := orR (rI0 fun i j => .int (i + j)) (orR (fun x y H Q => ∃ i j, x = V.str i ∧ y = V.str j ∧ i.length + j.length ≤ sizeLine ∧ Q (.str (i ++ j)) H) (orR (rCatA K) rCat))
theorem opr_add4 : OpR X (binaryOp .Add) (rAdd4 X.K) := opr_or op_add (opr_or op_add_str (opr_or op_catA op_cat))
theorem os_add : OpS (GX X fa) oAdd (rAdd4 X.K) := fun m H M x y dx dy d M' Q hM rx ry e k => by
  unfold oAdd at e
  split at e
  · cases e; cases rx; cases ry; exact .inl ⟨_, _, rfl, rfl, k.here hM _ (.int _)⟩
  · split at e
    · rename_i h
      cases e; cases rx; cases ry
      exact .inr (.inl ⟨_, _, rfl, rfl, h, k.here hM _ (.str _)⟩)
    · cases e
  · split at e
    · rename_i xs ys h
      cases e
      cases rx with
      | @tup a _ vs ha rv =>
        cases ry with
        | @tup b _ ws hb rw' =>
          refine .inr (.inr (.inl ⟨a, b, vs, ws, rfl, rfl, ha, hb, by rw [← rv.length, ← rw'.length]; exact h, fun ev => ?_, fun ev ew => ?_, fun ev ew p hp => ?_⟩))
          · subst ev
            cases rv
            exact k.here hM _ (.tup hb rw')
          · subst ew
            cases rw'
            rw [List.append_nil] at k
            exact k.here hM _ (.tup ha rv)
          · refine k m _ (List.prefix_refl _) (Ext.new hp) (hM.new hp) _ (.tup (SqT.of upd_same) ?_)
            exact (rv.append rw').mono (List.prefix_refl _) (Ext.new hp)
    · cases e
  · rename_i n k'
    cases q1 : M[n]? with
    | none => rw [q1] at e; cases e
    | some o1 =>
      cases q2 : M[k']? with
      | none => rw [q1, q2] at e; cases o1 <;> cases e
      | some o2 =>
        rw [q1, q2] at e
        cases o1 with
        | lst xs =>
          cases o2 with
          | lst ys =>
            simp only at e
            split at e
            · rename_i h
              cases e
              cases rx with
              | @ref _ a ha =>
                cases ry with
                | @ref _ b hb =>
                  obtain ⟨vs, e1, r1⟩ := hM.at_ _ _ _ ha q1
                  obtain ⟨ws, e2, r2⟩ := hM.at_ _ _ _ hb q2
                  refine .inr (.inr (.inr ⟨a, b, vs, ws, rfl, rfl, e1, e2, by rw [← r1.length, ← r2.length]; exact h, fun p hp => ?_⟩))
                  exact fin_push k hM hp ⟨_, upd_same, (r1.append r2).mono (List.prefix_append _ _) (Ext.new hp)⟩ _ (ref_last hM)
            · cases e
          | _ => cases e
        | _ => cases e
  · cases e
/-! is None -/
def D.isNon : D → Bool
  | .non => true
  | _ => false
def oIs (neg : Bool) : D → D → Mem → R D := fun x y M => match y with
  | .non => some (.bl (if neg then !x.isNon else x.isNon), M)
  | _ => none
theorem isNon_iff {G : Gm} {H : Hp} {m : List Addr} {d : D} {v : V} (r : RD G H m d v) : decide (v = .non) = d.isNon := by
  cases r <;> first | rfl | exact decide_eq_false (fun z => by cases z)
theorem os_isN : OpS (GX X fa) (oIs false) (fun x y H Q => y = .non ∧ Q (.bl (decide (x = .non))) H) := fun m H M x y dx dy d M' Q hM rx ry e k => by
  cases ry with
  | non => cases e; exact ⟨rfl, by rw [isNon_iff rx]; exact k.here hM _ (.bl _)⟩
  | _ => cases e
theorem os_notN : OpS (GX X fa) (oIs true) (fun x y H Q => y = .non ∧ Q (.bl (!decide (x = .non))) H) := fun m H M x y dx dy d M' Q hM rx ry e k => by
  cases ry with
  | non => cases e; exact ⟨rfl, by rw [isNon_iff rx]; exact k.here hM _ (.bl _)⟩
  | _ => cases e
/-! items -/
def atD (xs : List D) (i : Int) : Option D := (L2.ixN xs.length i).bind fun j => xs[j]?
theorem atD_rel {G : Gm} {H : Hp} {m : List Addr} {xs : List D} {vs : List V} {i : Int} {d : D} (r : RDs G H m xs vs) (e : atD xs i = some d) : ∃ v, atI vs i = some v ∧ RD G H m d v := by
  unfold atD at e
  unfold atI
  rw [← r.length]
  cases q : L2.ixN xs.length i with
  | none => rw [q] at e; cases e
  | some j =>
    rw [q] at e
    exact r.get (show xs[j]? = some d from e)
def oIx : D → D → Mem → R D := fun x y M => match x, y with
  | .tup xs, .int i => (atD xs i).map fun d => (d, M)
  | .ref n, .int i => match lstAt M n with
    | some xs => (atD xs i).map fun d => (d, M)
    | none => none
  | _, _ => none
abbrev rIx2 (K : PySem.W.Frag) : R2 := orR (rIxL K) (rIxT K)
theorem ixr_or {r q : R2} (a : IxR X r) (b : IxR X q) : IxR X (orR r q) := fun va sl pins s σ H x y v u Q I rx ry h hs => Or.elim h (fun z => a va sl pins s σ H x y v u Q I rx ry z hs) (fun z => b va sl pins s σ H x y v u Q I rx ry z hs)
theorem ix_both : IxR X (rIx2 X.K) := ixr_or ix_list ix_tup
theorem os_ix : OpS (GX X fa) oIx (rIx2 X.K) := fun m H M x y dx dy d M' Q hM rx ry e k => by
  unfold oIx at e
  split at e
  · rename_i xs i
    cases q : atD xs i with
    | none => rw [q] at e; cases e
    | some d' =>
      rw [q] at e
      cases e
      cases ry
      cases rx with
      | @tup a _ vs ha rv =>
        obtain ⟨v, h1, h2⟩ := atD_rel rv q
        exact .inr ⟨a, vs, i, v, rfl, rfl, ha, h1, k.here hM _ h2⟩
  · rename_i n i
    cases q0 : lstAt M n with
    | none => rw [q0] at e; cases e
    | some xs =>
      rw [q0] at e
      simp only at e
      cases q : atD xs i with
      | none => rw [q] at e; cases e
      | some d' =>
        rw [q] at e
        cases e
        cases ry
        cases rx with
        | ref ha =>
          obtain ⟨vs, hs, rv⟩ := hM.lstAt q0 ha
          obtain ⟨v, h1, h2⟩ := atD_rel rv q
          exact .inl ⟨_, vs, i, v, rfl, rfl, hs, h1, k.here hM _ h2⟩
  · cases e
variable {a b e o i : Expr} {eva evb : Ev} {pos p : Pos}
theorem l_ix {r : R2} {f : D → D → Mem → R D} (hx : IxR X r) (os : OpS (GX X fa) f r) (ha : PE X a (TEof (GX X fa) eva)) (hb : PE X b (TEof (GX X fa) evb)) (hs : PlainIx b := by first | exact (fun _ _ => rfl) | exact (fun _ => rfl) | rfl) : PE X (.Subscript a b pos) (TEof (GX X fa) (eBin f eva evb)) :=
  (pe_ix hx ha hb hs).imp fun _ _ _ h => bin_split os h
end
end Mi
set_option Elab.async false
set_option linter.all false
set_option maxRecDepth 100000
/-! calls of built-ins by data; slices; items stored; dicts -/
namespace Mi
open PySem PySem.Spec PyProof.Rows L2
section
variable {X : Cx} {fa : Nat → Addr} {a b e o i : Expr} {eva evb evo evi : Ev} {pos p : Pos} {es : List Expr}

def fInt : List D → Mem → R D := fun ds M => match ds with
  | [.int i] => some (.int i, M)
  | [.bl b] => some (.int (if b then 1 else 0), M)
  | _ => none
theorem one_of {G : Gm} {H : Hp} {m : List Addr} {d : D} {xs : List V} (r : RDs G H m [d] xs) : ∃ v, xs = [v] ∧ RD G H m d v := by
  cases r with
  | cons h t => cases t; exact ⟨_, rfl, h⟩
theorem two_of {G : Gm} {H : Hp} {m : List Addr} {d e : D} {xs : List V} (r : RDs G H m [d, e] xs) : ∃ v w, xs = [v, w] ∧ RD G H m d v ∧ RD G H m e w := by
  cases r with
  | cons h t => cases t with
    | cons h2 t2 => cases t2; exact ⟨_, _, rfl, h, h2⟩
theorem cs_int : CaS (GX X fa) fInt (fun xs H Q => (∃ i, xs = [V.int i] ∧ Q (.int i) H) ∨ ∃ k, xs = [V.bl k] ∧ Q (.int (if k then 1 else 0)) H) := fun m H M xs ds d M' Q hM r e k => by
  unfold fInt at e
  split at e
  · cases e
    obtain ⟨v, rfl, rv⟩ := one_of r
    cases rv
    exact .inl ⟨_, rfl, k.here hM _ (.int _)⟩
  · cases e
    obtain ⟨v, rfl, rv⟩ := one_of r
    cases rv
    exact .inr ⟨_, rfl, k.here hM _ (.int _)⟩
  · cases e
def fAbs : List D → Mem → R D := fun ds M => match ds with
  | [.int i] => some (.int (if i < 0 then -i else i), M)
  | _ => none
theorem cs_abs : CaS (GX X fa) fAbs (fun xs H Q => ∃ i, xs = [V.int i] ∧ Q (.int (if i < 0 then -i else i)) H) := fun m H M xs ds d M' Q hM r e k => by
  unfold fAbs at e
  split at e
  · cases e
    obtain ⟨v, rfl, rv⟩ := one_of r
    cases rv
    exact ⟨_, rfl, k.here hM _ (.int _)⟩
  · cases e
def fMax : List D → Mem → R D := fun ds M => match ds with
  | [.int i, .int j] => some (.int (if j > i then j else i), M)
  | _ => none
theorem cs_max : CaS (GX X fa) fMax (fun xs H Q => ∃ i j, xs = [V.int i, V.int j] ∧ Q (.int (if j > i then j else i)) H) := fun m H M xs ds d M' Q hM r e k => by
  unfold fMax at e
  split at e
  · cases e
    obtain ⟨v, w, rfl, rv, rw'⟩ := two_of r
    cases rv
    cases rw'
    exact ⟨_, _, rfl, k.here hM _ (.int _)⟩
  · cases e
def fMin : List D → Mem → R D := fun ds M => match ds with
  | [.int i, .int j] => some (.int (if j < i then j else i), M)
  | _ => none
theorem cs_min : CaS (GX X fa) fMin (fun xs H Q => ∃ i j, xs = [V.int i, V.int j] ∧ Q (.int (if j < i then j else i)) H) := fun m H M xs ds d M' Q hM r e k => by
  unfold fMin at e
  split at e
  · cases e
    obtain ⟨v, w, rfl, rv, rw'⟩ := two_of r
    cases rv
    cases rw'
    exact ⟨_, _, rfl, k.here hM _ (.int _)⟩
  · cases e
/-- len -/
def fLen : List D → Mem → R D := fun ds M => match ds with
  | [.tup xs] => some (.int xs.length, M)
  | [.str x] => if x.length ≤ sizeLine then some (.int x.length, M) else none
  | [.ref n] => match M[n]? with
    | some (.dK kvs) => some (.int kvs.length, M)
    | _ => match lstAt M n with
      | some xs => some (.int xs.length, M)
      | none => none
  | _ => none
abbrev rLen2 (K : PySem.W.Frag) : List V → Hp → VK → Prop := orC (fun xs H Q => ∃ x n, xs = [x] ∧ LenV K x H n ∧ Q (.int n) H) (fun xs H Q => ∃ a kvs, xs = [V.ref a] ∧ H a = some (.dK kvs) ∧ Q (.int kvs.length) H)
theorem RKs.length {G : Gm} {H : Hp} {m : List Addr} : ∀ {ds : List (Key × D)} {vs : List (Key × V)}, RKs G H m ds vs → ds.length = vs.length
  | _, _, .nil => rfl
  | _, _, .cons _ t => by rw [List.length_cons, List.length_cons, RKs.length t]
theorem cs_len : CaS (GX X fa) fLen (rLen2 X.K) := fun m H M xs ds d M' Q hM r e k => by
  unfold fLen at e
  split at e
  · cases e
    obtain ⟨v, rfl, rv⟩ := one_of r
    cases rv with
    | @tup a _ vs ha rds => exact .inl ⟨_, vs.length, rfl, .inr ⟨vs, ha, rfl⟩, by rw [← rds.length]; exact k.here hM _ (.int _)⟩
  · split at e
    · rename_i h
      cases e
      obtain ⟨v, rfl, rv⟩ := one_of r
      cases rv
      exact .inl ⟨_, _, rfl, ⟨h, rfl⟩, k.here hM _ (.int _)⟩
    · cases e
  · obtain ⟨v, rfl, rv⟩ := one_of r
    cases rv with
    | ref ha =>
      split at e
      · rename_i kvs q
        cases e
        obtain ⟨kws, h1, h2⟩ := hM.at_ _ _ _ ha q
        exact .inr ⟨_, kws, rfl, h1, by rw [← h2.length]; exact k.here hM _ (.int _)⟩
      · split at e
        · rename_i xs q
          cases e
          obtain ⟨vs, h1, h2⟩ := hM.lstAt q ha
          exact .inl ⟨_, vs.length, rfl, .inl ⟨vs, h1, rfl⟩, by rw [← h2.length]; exact k.here hM _ (.int _)⟩
        · cases e
  · cases e
theorem cr_len2 : CallR X (.builtin "len") (rLen2 X.K) := car_or call_len call_lenD
/-- the items of a list or a tuple -/
def itemsOf (M : Mem) : D → Option (List D)
  | .tup xs => some xs
  | .ref n => lstAt M n
  | _ => none
/-- list(x) -/
def fList : List D → Mem → R D := fun ds M => match ds with
  | [x] => match itemsOf M x with
    | some xs => some (.ref M.length, M ++ [.lst xs])
    | none => none
  | _ => none
theorem cs_list : CaS (GX X fa) fList (fun xs H Q => ∃ p ys, xs = [V.ref p] ∧ (SqL X.K H p ys ∨ SqT X.K H p ys) ∧ ∀ l, H l = none → Q (.ref l) (upd H l (.lst ys))) := fun m H M xs ds d M' Q hM r e k => by
  unfold fList at e
  split at e
  · rename_i x
    split at e
    · rename_i ys q
      cases e
      obtain ⟨v, rfl, rv⟩ := one_of r
      cases rv with
      | @tup a _ vs ha rds =>
        cases q
        exact ⟨a, vs, rfl, .inr ha, fun l hl => fin_push k hM hl ⟨vs, upd_same, rds.mono (List.prefix_append _ _) (Ext.new hl)⟩ _ (ref_last hM)⟩
      | ref ha =>
        obtain ⟨vs, hs, rds⟩ := hM.lstAt q ha
        exact ⟨_, vs, rfl, .inl hs, fun l hl => fin_push k hM hl ⟨vs, upd_same, rds.mono (List.prefix_append _ _) (Ext.new hl)⟩ _ (ref_last hM)⟩
      | _ => cases q
    · cases e
  · cases e
/-- tuple(x) -/
def fTuple : List D → Mem → R D := fun ds M => match ds with
  | [x] => match itemsOf M x with
    | some xs => some (.tup xs, M)
    | none => none
  | _ => none
theorem cs_tuple : CaS (GX X fa) fTuple (fun xs H Q => ∃ p ys, xs = [V.ref p] ∧ ((SqL X.K H p ys ∧ ∀ l, H l = none → Q (.ref l) (upd H l (.tup ys))) ∨ (SqT X.K H p ys ∧ Q (.ref p) H))) := fun m H M xs ds d M' Q hM r e k => by
  unfold fTuple at e
  split at e
  · rename_i x
    split at e
    · rename_i ys q
      cases e
      obtain ⟨v, rfl, rv⟩ := one_of r
      cases rv with
      | @tup a _ vs ha rds =>
        cases q
        exact ⟨a, vs, rfl, .inr ⟨ha, k.here hM _ (.tup ha rds)⟩⟩
      | ref ha =>
        obtain ⟨vs, hs, rds⟩ := hM.lstAt q ha
        refine ⟨_, vs, rfl, .inl ⟨hs, fun l hl => ?_⟩⟩
        exact k m _ (List.prefix_refl _) (Ext.new hl) (hM.new hl) _ (.tup (SqT.of upd_same) (rds.mono (List.prefix_refl _) (Ext.new hl)))
      | _ => cases q
    · cases e
  · cases e
/-- all(list of bools), sum(list of ints) -/
def blsOf : List D → Option (List Bool)
  | [] => some []
  | .bl b :: r => (blsOf r).map (b :: ·)
  | _ => none
def intsOf : List D → Option (List Int)
  | [] => some []
  | .int b :: r => (intsOf r).map (b :: ·)
  | _ => none
theorem bls_rel {G : Gm} {H : Hp} {m : List Addr} : ∀ {ds : List D} {vs : List V} {bs : List Bool}, RDs G H m ds vs → blsOf ds = some bs → vs = bs.map V.bl
  | _, _, _, .nil, e => by cases e; rfl
  | _, _, _, .cons r t, e => by
    cases r with
    | bl b =>
      rename_i ds _
      unfold blsOf at e
      cases q : blsOf ds with
      | none => rw [q] at e; cases e
      | some bs =>
        rw [q] at e
        cases e
        rw [bls_rel t q]
        rfl
    | _ => cases e
theorem ints_rel {G : Gm} {H : Hp} {m : List Addr} : ∀ {ds : List D} {vs : List V} {bs : List Int}, RDs G H m ds vs → intsOf ds = some bs → vs = bs.map V.int
  | _, _, _, .nil, e => by cases e; rfl
  | _, _, _, .cons r t, e => by
    cases r with
    | int b =>
      rename_i ds _
      unfold intsOf at e
      cases q : intsOf ds with
      | none => rw [q] at e; cases e
      | some bs =>
        rw [q] at e
        cases e
        rw [ints_rel t q]
        rfl
    | _ => cases e
def fAll : List D → Mem → R D := fun ds M => match ds with
  | [.ref n] => match lstAt M n with
    | some xs => (blsOf xs).map fun bs => (.bl (bs.all id), M)
    | none => none
  | _ => none
theorem cs_all : CaS (GX X fa) fAll (rAll X.K) := fun m H M xs ds d M' Q hM r e k => by
  unfold fAll at e
  split at e
  · split at e
    · rename_i ys q
      cases q2 : blsOf ys with
      | none => rw [q2] at e; cases e
      | some bs =>
        rw [q2] at e
        cases e
        obtain ⟨v, rfl, rv⟩ := one_of r
        cases rv with
        | ref ha =>
          obtain ⟨vs, hs, rds⟩ := hM.lstAt q ha
          rw [bls_rel rds q2] at hs
          exact ⟨_, bs, rfl, hs, k.here hM _ (.bl _)⟩
    · cases e
  · cases e
def fAny : List D → Mem → R D := fun ds M => match ds with
  | [.ref n] => match lstAt M n with
    | some xs => (blsOf xs).map fun bs => (.bl (bs.any id), M)
    | none => none
  | _ => none
theorem cs_any : CaS (GX X fa) fAny (rAny X.K) := fun m H M xs ds d M' Q hM r e k => by
  unfold fAny at e
  split at e
  · split at e
    · rename_i ys q
      cases q2 : blsOf ys with
      | none => rw [q2] at e; cases e
      | some bs =>
        rw [q2] at e
        cases e
        obtain ⟨v, rfl, rv⟩ := one_of r
        cases rv with
        | ref ha =>
          obtain ⟨vs, hs, rds⟩ := hM.lstAt q ha
          rw [bls_rel rds q2] at hs
          exact ⟨_, bs, rfl, hs, k.here hM _ (.bl _)⟩
    · cases e
  · cases e
def fSum : List D → Mem → R D := fun ds M => match ds with
  | [.ref n] => match lstAt M n with
    | some xs => (intsOf xs).map fun bs => (.int bs.sum, M)
    | none => none
  | _ => none
theorem cs_sum : CaS (GX X fa) fSum (rSum X.K) := fun m H M xs ds d M' Q hM r e k => by
  unfold fSum at e
  split at e
  · split at e
    · rename_i ys q
      cases q2 : intsOf ys with
      | none => rw [q2] at e; cases e
      | some bs =>
        rw [q2] at e
        cases e
        obtain ⟨v, rfl, rv⟩ := one_of r
        cases rv with
        | ref ha =>
          obtain ⟨vs, hs, rds⟩ := hM.lstAt q ha
          rw [ints_rel rds q2] at hs
          exact ⟨_, bs, rfl, hs, k.here hM _ (.int _)⟩
    · cases e
  · cases e
/-- repr -/
def canShow (d : PyData) : Bool := d.canLay0 && decide (d.depth ≤ 64) && d.showable && decide (d.shown.length ≤ sizeLine)
def fRepr : List D → Mem → R D := fun ds M => match ds with
  | [x] => match toPy M fuelD x with
    | some d => if canShow d = true then some (.str d.shown, M) else none
    | none => none
  | _ => none
def rRepr (K : PySem.W.Frag) : List V → Hp → VK → Prop := fun xs H Q => ∃ x d, xs = [x] ∧ Dp K H x d ∧ canShow d = true ∧ Q (.str d.shown) H
theorem cr_repr (hg : X.A.guards = some []) (hu : X.A.units + 65 < cLine) : CallR X (.builtin "repr") (rRepr X.K) := by
  intro pins s σ H xs us Q I r h
  obtain ⟨x, d, rfl, hd, hc, q⟩ := h
  unfold canShow at hc
  simp only [Bool.and_eq_true, decide_eq_true_eq] at hc
  obtain ⟨⟨⟨hl, hp⟩, hs⟩, hz⟩ := hc
  obtain ⟨u, rfl, ru⟩ := vals1 r
  cases hd with
  | non => cases ru; exact PySem.P.repr_of_none ⟨.str _, H, I.tok _, ⟨_, rfl⟩, by rw [PyData.shown_none] at q; exact q⟩
  | bl b => cases ru; exact PySem.P.repr_of_bool ⟨.str _, H, I.tok _, ⟨_, rfl⟩, by rw [PyData.shown_bool] at q; exact q⟩
  | int i =>
    obtain ⟨t, rfl⟩ := ru
    refine PySem.P.repr_of_int (by simpa [PyData.showable] using hs) ⟨.str _, H, I.tok _, ⟨_, rfl⟩, by rw [PyData.shown_int] at q; exact q⟩
  | str z =>
    obtain ⟨t, rfl⟩ := ru
    rw [PyData.shown_str] at hz q
    exact PySem.P.repr_of_str ⟨.str _, H, I.tok _, ⟨_, rfl⟩, q⟩ hz
  | lst ha hb =>
    obtain ⟨as, rd⟩ := Dp.reads I _ _ _ (.lst ha hb) ru
    cases ru
    refine repr_of_reads' rd hs (PyData.noDict_hsm (PyData.hasDict_of_canLay _ hl)) hg (by omega) (fun _ _ z => z) (fun h' u tk hk => ?_) hz
    exact ⟨.str _, H, I.kept (t' := tk) hk, ⟨_, rfl⟩, q⟩
  | tup ha hb =>
    obtain ⟨as, rd⟩ := Dp.reads I _ _ _ (.tup ha hb) ru
    cases ru
    refine repr_of_reads' rd hs (PyData.noDict_hsm (PyData.hasDict_of_canLay _ hl)) hg (by omega) (fun _ _ z => z) (fun h' u tk hk => ?_) hz
    exact ⟨.str _, H, I.kept (t' := tk) hk, ⟨_, rfl⟩, q⟩
theorem cs_repr : CaS (GX X fa) fRepr (rRepr X.K) := fun m H M xs ds d M' Q hM r e k => by
  unfold fRepr at e
  split at e
  · split at e
    · rename_i x pd q
      split at e
      · rename_i hc
        cases e
        obtain ⟨v, rfl, rv⟩ := one_of r
        exact ⟨v, pd, rfl, toPy_dp hM _ _ _ _ q rv, hc, k.here hM _ (.str _)⟩
      · cases e
    · cases e
  · cases e
/-- list(range(n)) -/
def eLrg (ev : Ev) : Ev := fun ρ M => bindO (ev ρ M) fun d M1 => match d with
  | .int n => if n ≤ 16777216 ∧ 0 ≤ n then some (.ref M1.length, M1 ++ [.lst (rgD 0 n.toNat)]) else none
  | _ => none
theorem rgV_rel {G : Gm} {H : Hp} {m : List Addr} (n : Int) : RDs G H m (rgD 0 n.toNat) (rgV 0 n) := by
  unfold rgD rgV
  have e : (n - 0).toNat = n.toNat := by rw [Int.sub_zero]
  rw [e]
  generalize List.range n.toNat = l
  induction l with
  | nil => exact .nil
  | cons x l ih => exact .cons (.int _) ih
theorem l_listRg {pr pp : Pos} (hm1 : X.mg "range" = none) (hm2 : X.mg "list" = none) (ha : PE X a (TEof (GX X fa) eva)) (hc : X.calm = true := by rfl) (hg1 : Gl X "range" := by rfl) (hg2 : Gl X "list" := by rfl) (n1 : starEach [a] X.env = (false, eval a X.env) :: starEach [] X.env := by rfl)
    (n2 : starEach [.Call (.Name "range" pr) [a] [] pp] X.env = (false, eval (.Call (.Name "range" pr) [a] [] pp) X.env) :: starEach [] X.env := by rfl) : PE X (.Call (.Name "list" p) [.Call (.Name "range" pr) [a] [] pp] [] pos) (TEof (GX X fa) (eLrg eva)) := by
  refine (pe_listRg hc hg2 hm2 (prg_1 hg1 hm1 ha n1) n2).imp fun σ H Q ⟨m, M, ρ, d, M', hρ, hM, e, fin⟩ => ?_
  refine te_bind hρ hM e fin fun m1 H1 M1 d1 v hρ1 hM1 rd e1 fin1 p1 x1 => ?_
  cases rd with
  | int n =>
    simp only at e1
    split at e1
    · rename_i h
      cases e1
      refine ⟨n, rfl, RgOk.of_le (Int.le_refl 0) h.1 (by decide) h.2, fun q hq => ?_⟩
      exact fin_push fin1 hM1 hq ⟨_, upd_same, rgV_rel n⟩ _ (ref_last hM1)
    · cases e1
  | _ => cases e1

/-! slices: t[lo:hi], written ints or none -/
def cutD (xs : List D) (lo hi : Option Int) : List D := (xs.drop (HT.sIx xs.length 0 lo)).take (HT.sIx xs.length xs.length hi - HT.sIx xs.length 0 lo)
theorem cut_rel {G : Gm} {H : Hp} {m : List Addr} {xs : List D} {vs : List V} (r : RDs G H m xs vs) (lo hi : Option Int) : RDs G H m (cutD xs lo hi) (cutV vs lo hi) := by
  unfold cutD cutV
  rw [← r.length]
  exact (r.drop _).take _
def EvO := Loc → Mem → R (Option Int)
def poNone : EvO := fun _ M => some (none, M)
def poSome (ev : Ev) : EvO := fun ρ M => bindO (ev ρ M) fun d M1 => match d with
  | .int i => some (some i, M1)
  | _ => none
def TOof (G : Gm) (ev : EvO) : TO := fun σ H Q => ∃ m M ρ d M', Rho G H m ρ σ ∧ RM G H m M ∧ ev ρ M = some (d, M') ∧ Fin G m H M' fun _ H' => Q d H'
theorem PO.imp {X : Cx} {e : Option Expr} {t t' : TO} (h : PO X e t) (i : ∀ σ H Q, t' σ H Q → t σ H Q) : PO X e t' := ⟨fun p s σ H Q I q => h.run p s σ H Q I (i σ H Q q)⟩
theorem l_onone : PO X none (TOof (GX X fa) poNone) := PO.imp po_none fun σ H Q ⟨m, M, ρ, d, M', hρ, hM, e, fin⟩ => by cases e; exact fin.here hM
theorem l_osome (ha : PE X a (TEof (GX X fa) eva)) : PO X (some a) (TOof (GX X fa) (poSome eva)) := by
  refine PO.imp (po_some ha) fun σ H Q ⟨m, M, ρ, d, M', hρ, hM, e, fin⟩ => ?_
  refine te_bind hρ hM e fin fun m1 H1 M1 d1 v hρ1 hM1 rd e1 fin1 p1 x1 => ?_
  cases rd with
  | int n => cases e1; exact ⟨n, rfl, fin1.here hM1⟩
  | _ => cases e1
theorem to_bind {G : Gm} {α : Type} {m : List Addr} {M M' : Mem} {ρ : Loc} {σ : L2.St} {H : Hp} {r : α} {k : List Addr → Hp → Prop} {ev : EvO} {f : Option Int → Mem → R α} (hρ : Rho G H m ρ σ) (hM : RM G H m M) (e : bindO (ev ρ M) f = some (r, M')) (fin : Fin G m H M' k) {Q : Option Int → Hp → Prop}
    (next : ∀ m1 H1 M1 b, Rho G H1 m1 ρ σ → RM G H1 m1 M1 → f b M1 = some (r, M') → Fin G m1 H1 M' k → m <+: m1 → Ext G H H1 → Q b H1) : TOof G ev σ H Q := by
  cases q : ev ρ M with
  | none => rw [q] at e; cases e
  | some p =>
    obtain ⟨d, M1⟩ := p
    rw [q] at e
    exact ⟨m, M, ρ, d, M1, hρ, hM, q, fun m1 H1 a b c => next m1 H1 M1 d (hρ.mono a b) c e (fin.mono a b) a b⟩
def eSl (ev : Ev) (lo hi : EvO) : Ev := fun ρ M => bindO (ev ρ M) fun d M1 => bindO (lo ρ M1) fun l M2 => bindO (hi ρ M2) fun h M3 => match d with
  | .tup xs => some (.tup (cutD xs l h), M3)
  | .ref n => match lstAt M3 n with
    | some xs => some (.ref M3.length, M3 ++ [.lst (cutD xs l h)])
    | none => none
  | _ => none
def orS (r q : V → Option Int → Option Int → Hp → VK → Prop) : V → Option Int → Option Int → Hp → VK → Prop := fun x l h H Q => r x l h H Q ∨ q x l h H Q
theorem slr_or {r q : V → Option Int → Option Int → Hp → VK → Prop} (a : SlR X r) (b : SlR X q) : SlR X (orS r q) := fun pins s σ H x v vl vu lo hi sl Q I rx hs pl pu h => Or.elim h (fun z => a pins s σ H x v vl vu lo hi sl Q I rx hs pl pu z) fun z => b pins s σ H x v vl vu lo hi sl Q I rx hs pl pu z
theorem l_slice {lo hi : Option Expr} {evl evh : EvO} {p2 : Pos} (ha : PE X a (TEof (GX X fa) eva)) (hl : PO X lo (TOof (GX X fa) evl)) (hh : PO X hi (TOof (GX X fa) evh)) : PE X (.Subscript a (.Slice lo hi none p2) pos) (TEof (GX X fa) (eSl eva evl evh)) := by
  refine (pe_slice (slr_or sl_list sl_tupA) ha hl hh).imp fun σ H Q ⟨m, M, ρ, d, M', hρ, hM, e, fin⟩ => ?_
  refine te_bind hρ hM e fin fun m1 H1 M1 d1 v hρ1 hM1 rd e1 fin1 p1 x1 => ?_
  refine to_bind hρ1 hM1 e1 fin1 fun m2 H2 M2 l hρ2 hM2 e2 fin2 p2 x2 => ?_
  refine to_bind hρ2 hM2 e2 fin2 fun m3 H3 M3 h hρ3 hM3 e3 fin3 p3 x3 => ?_
  have rd3 := (rd.mono p2 x2).mono p3 x3
  cases rd3 with
  | @tup a xs vs ha rds =>
    cases e3
    refine .inr ⟨a, vs, rfl, ha, fun hw => ?_, fun hw p hp => ?_⟩
    · have hv : cutV vs l h = vs := by
        unfold cutV
        rw [hw.1, hw.2, Nat.sub_zero, List.drop_zero, List.take_length]
      have r := cut_rel rds l h
      rw [hv] at r
      exact fin3.here hM3 _ (.tup ha r)
    · exact fin3 m3 _ (List.prefix_refl _) (Ext.new hp) (hM3.new hp) _ (.tup (SqT.of upd_same) ((cut_rel rds l h).mono (List.prefix_refl _) (Ext.new hp)))
  | @ref n a ha =>
    simp only at e3
    cases q : lstAt M3 n with
    | none => rw [q] at e3; cases e3
    | some xs =>
      rw [q] at e3
      cases e3
      obtain ⟨vs, hs, rds⟩ := hM3.lstAt q ha
      exact .inl ⟨a, vs, rfl, hs, fun p hp => fin_push fin3 hM3 hp ⟨_, upd_same, (cut_rel rds l h).mono (List.prefix_append _ _) (Ext.new hp)⟩ _ (ref_last hM3)⟩
  | _ => cases e3

/-! xs[i] = e -/
def setL (M : Mem) (n : Nat) (k : Int) (d : D) : Option Mem := match M[n]? with
  | some (.lst xs) => (ixN xs.length k).map fun j => M.set n (.lst (xs.set j d))
  | _ => none
def sSub (evo evi eve : Ev) : Es := fun ρ M => bindO (eve ρ M) fun d M1 => bindO (evo ρ M1) fun o M2 => bindO (evi ρ M2) fun i M3 => match o, i with
  | .ref n, .int k => (setL M3 n k d).map fun M4 => (.next ρ, M4)
  | _, _ => none
theorem l_ssub {eve : Ev} {ps : Pos} (ho : PE X o (TEof (GX X fa) evo)) (hi : PE X i (TEof (GX X fa) evi)) (he : PE X e (TEof (GX X fa) eve)) (hs : swapsWithSole [.Subscript o i ps] e pos.line X.env = pure false := by rfl) (hw : swappedStores [.Subscript o i ps] e X.env = pure none := by rfl)
    (h1 : (assignEach [.Subscript o i ps] X.env).map (·.2) = [assign (.Subscript o i ps) X.env] := by rfl) (hA : ∀ v, assign (.Subscript o i ps) X.env v = (do
      let ov ← holding [v] (eval o X.env)
      let iv ← holding [v, ov] (eval i X.env)
      standAt ps
      holding [v, ov, iv] (setItem ov iv v)
      release [v, ov, iv] []) := by intro _; rfl) : PS X (.Assign [.Subscript o i ps] e pos) (TSof (GX X fa) (sSub evo evi eve)) := by
  refine (ps_asg he (pg_sub ho hi set_list hA) hs hw h1).imp fun D σ H ⟨m, M, ρ, out, M', hρ, hM, e, fin⟩ => ?_
  refine te_bind hρ hM e fin fun m1 H1 M1 d1 v hρ1 hM1 rd e1 fin1 p1 x1 => ?_
  refine te_bind hρ1 hM1 e1 fin1 fun m2 H2 M2 d2 w hρ2 hM2 rd2 e2 fin2 p2 x2 => ?_
  refine te_bind hρ2 hM2 e2 fin2 fun m3 H3 M3 d3 z hρ3 hM3 rd3 e3 fin3 p3 x3 => ?_
  have rdv := (rd.mono p2 x2).mono p3 x3
  have rdo := rd2.mono p3 x3
  cases rdo with
  | @ref n a ha =>
    cases rd3 with
    | int k =>
      simp only at e3
      unfold setL at e3
      split at e3
      · rename_i xs q
        cases q2 : ixN xs.length k with
        | none => rw [q2] at e3; cases e3
        | some j =>
          rw [q2] at e3
          cases e3
          obtain ⟨vs, g1, g2⟩ := hM3.at_ _ _ _ ha q
          have mu : Mut (H3 a) := by rw [g1]; trivial
          refine ⟨a, vs, k, j, rfl, rfl, g1, by rw [← g2.length]; exact q2, ?_⟩
          exact fin3 m3 _ (List.prefix_refl _) (Ext.write mu) (hM3.set ha q rfl rfl ⟨_, upd_same, (g2.set rdv j).mono (List.prefix_refl _) (Ext.write mu)⟩) σ (hρ3.mono (List.prefix_refl _) (Ext.write mu))
      · cases e3
    | _ => cases e3
  | _ => cases e3
/-! xs.append(e) -/
def eApp (evo eve : Ev) : Ev := fun ρ M => bindO (evo ρ M) fun o M1 => bindO (eve ρ M1) fun d M2 => match o with
  | .ref n => match M1[n]? with
    | some (.lst _) => (lput M2 n d).map fun M3 => (.non, M3)
    | _ => none
  | _ => none
theorem l_append {eve : Ev} {ap cp : Pos} (ho : PE X o (TEof (GX X fa) evo)) (he : PE X e (TEof (GX X fa) eve)) (hbase : attributeBase o "append" X.env (eval o X.env) = eval o X.env := by rfl)
    (hfew : ((backTo cp (starEach [e] X.env)).all (fun x => !x.1) && (backToKw cp (keywordEach [] X.env)).all (fun x => x.1.isSome)
      && decide ([e].length + ([] : List Keyword).length + (if ([] : List Keyword).isEmpty then 0 else 1) < 30)) = true := by rfl)
    (hline : (ap.endLine == cp.line) = true := by rfl) (hs : starEach [e] X.env = (false, eval e X.env) :: starEach [] X.env := by rfl) (hpl : (backTo cp (starEach [] X.env)).any (·.1) = false := by rfl) : PE X (.Call (.Attribute o "append" ap) [e] [] cp) (TEof (GX X fa) (eApp evo eve)) := by
  refine (pe_bm PySem.F.plainAttrs_list PySem.F.slot_list_append PySem.F.type_list_append mt_append ho (l_cons he l_nil hs) hbase hfew hline hs hpl).imp fun σ H Q ⟨m, M, ρ, d, M', hρ, hM, e, fin⟩ => ?_
  refine te_bind hρ hM e fin fun m1 H1 M1 d1 v hρ1 hM1 rd e1 fin1 p1 x1 => ?_
  cases rd with
  | @ref n a ha =>
    refine ⟨?_, ?_⟩
    · cases q : M1[n]? with
      | none =>
        cases q2 : eve ρ M1 with
        | none => rw [q2] at e1; cases e1
        | some pr =>
          rw [q2] at e1
          have e2 : (match M1[n]? with
            | some (.lst _) => (lput pr.2 n pr.1).map fun M3 => (D.non, M3)
            | _ => none) = some (d, M') := e1
          rw [q] at e2
          cases e2
      | some mo =>
        cases mo with
        | lst xs =>
          obtain ⟨vs, g1, g2⟩ := hM1.at_ _ _ _ ha q
          exact .inl ⟨rfl, vs, SqL.of g1⟩
        | _ =>
          cases q2 : eve ρ M1 with
          | none => rw [q2] at e1; cases e1
          | some pr =>
            rw [q2] at e1
            have e2 : (match M1[n]? with
              | some (.lst _) => (lput pr.2 n pr.1).map fun M3 => (D.non, M3)
              | _ => none) = some (d, M') := e1
            rw [q] at e2
            cases e2
    · cases q2 : eve ρ M1 with
      | none => rw [q2] at e1; cases e1
      | some pr =>
        obtain ⟨d2, M2⟩ := pr
        rw [q2] at e1
        have e2 : (match M1[n]? with
          | some (.lst _) => (lput M2 n d2).map fun M3 => (D.non, M3)
          | _ => none) = some (d, M') := e1
        refine ⟨m1, M1, ρ, [d2], M2, hρ1, hM1, by unfold eCons; rw [q2]; rfl, fun m2 H2 pm xm hM2 vs rds => ?_⟩
        obtain ⟨w, rfl, rw'⟩ := one_of rds
        cases q3 : lput M2 n d2 with
        | none =>
          rw [q3] at e2
          split at e2 <;> cases e2
        | some M3 =>
          rw [q3] at e2
          split at e2
          · cases e2
            obtain ⟨ws, g1, g2, g3, g4⟩ := hM2.lput q3 (pre_get pm ha) rw'
            exact ⟨a, ws, w, rfl, rfl, g1, g2, (fin1.mono pm xm) m2 _ (List.prefix_refl _) g4 g3 _ .non⟩
          · cases e2
  | _ =>
    cases q2 : eve ρ M1 with
    | none => rw [q2] at e1; cases e1
    | some pr => rw [q2] at e1; cases e1
end
end Mi
set_option Elab.async false
set_option linter.all false
set_option maxRecDepth 100000
/-! more rules by data: sequences walked, in, isinstance, chains, minus, three at once, truth, zip -/
namespace Mi
open PySem PySem.Spec PyProof.Rows L2
section
variable {X : Cx} {fa : Nat → Addr} {a b c e o i : Expr} {eva evb evc evo evi : Ev} {pos p : Pos} {es : List Expr}

/-! for over a list or a tuple, whichever it is -/
def iSeq (K : PySem.W.Frag) (tl : TE) : TI := fun σ H R => tl σ H fun x H1 => ∃ q, x = .ref q ∧ (((∃ xs, SqL K H1 q xs) ∧ R (Itl K q) H1) ∨ ((∃ xs, SqT K H1 q xs) ∧ R (Itt K q) H1))
theorem pi_seq {tg : Expr} {tl : TE} (hl : PE X a tl) : PI X tg a (iSeq X.K tl) := by
  constructor
  intro pins st σ H R I h
  refine thn (hl.run pins st σ H _ I h) ?_
  rintro v s1 ⟨x, H1, I1, r1, q1⟩
  have fp : ∀ {b : Addr}, b ∈ [s1.heap.objs.size] → FpOk X pins H1 b := by
    intro b hb
    have e : b = s1.heap.objs.size := by simpa using hb
    rw [e]
    exact I1.fpOk (Nat.le_refl _) (I1.hok.fresh (Nat.le_refl _))
  obtain ⟨q, e, q1⟩ := q1
  subst e
  cases r1
  rcases q1 with ⟨⟨xs, hq⟩, k⟩ | ⟨⟨xs, hq⟩, k⟩
  · obtain ⟨its, rv, pl, hz⟩ := I1.list hq
    apply wpAny_pyIter_list pl.isList
    exact ⟨_, [s1.heap.objs.size], _, _, H1, rfl, I1.kept (t' := s1.toks) (fun b o e => Heap.get?_push_of_some _ e), turn_list q _, ⟨_, Heap.get?_push_size _ rfl, rfl, rfl⟩, fun b hb => fp hb, k⟩
  · obtain ⟨its, rv, pt, hz⟩ := I1.tuple hq
    apply wpAny_pyIter_tuple (show s1.heap.IsTuple q its.toArray from pt)
    exact ⟨_, [s1.heap.objs.size], _, _, H1, rfl, I1.kept (t' := s1.toks) (fun b o e => Heap.get?_push_of_some _ e), turn_tuple q _, ⟨_, Heap.get?_push_size _ rfl, rfl, rfl⟩, fun b hb => fp hb, k⟩
def iSq (ev : Ev) : EvI := fun ρ M => bindO (ev ρ M) fun d M1 => match d with
  | .tup ds => some ((fun _ => some ds), M1)
  | .ref n => if (lstAt M1 n).isSome then some ((fun M2 => lstAt M2 n), M1) else none
  | _ => none
theorem l_iseq {tg : Expr} (he : PE X a (TEof (GX X fa) eva)) : PI X tg a (TIof (GX X fa) (iSq eva)) := by
  refine PI.imp (pi_seq he) fun σ H Rk ⟨m, M, ρ, get, M', hρ, hM, e, fin⟩ => ?_
  refine te_bind hρ hM e fin fun m1 H1 M1 d1 v hρ1 hM1 rd e1 fin1 p1 x1 => ?_
  cases rd with
  | @ref n a ha =>
    have e2 : (if (Mi.lstAt M1 n).isSome then some ((fun M2 => Mi.lstAt M2 n), M1) else none) = some (get, M') := e1
    split at e2
    · rename_i hs
      cases e2
      obtain ⟨ys, hy⟩ := Option.isSome_iff_exists.mp hs
      obtain ⟨vs, q1, q2⟩ := hM1.lstAt hy ha
      refine ⟨a, rfl, .inl ⟨⟨vs, q1⟩, fin1.here hM1 _ fun i H2 m2 M2 xs pm xm hM2 hx => ?_⟩⟩
      obtain ⟨ws, k1, k2⟩ := hM2.lstAt hx (pre_get pm ha)
      refine ⟨fun hn => ⟨ws, k1, by rw [← k2.length]; exact List.getElem?_eq_none_iff.mp hn⟩, fun d hd => ?_⟩
      obtain ⟨w, hw, rw'⟩ := k2.get hd
      refine ⟨⟨ws, w, k1, hw⟩, fun x H3 y => ?_⟩
      obtain ⟨rfl, y⟩ := y
      have ew := y ws k1
      rw [hw] at ew
      cases ew
      exact ⟨Ext.refl, hM2, rw'⟩
    · cases e2
  | @tup a ds vs ha rds =>
    cases e1
    refine ⟨a, rfl, .inr ⟨⟨vs, ha⟩, fin1.here hM1 _ fun i H2 m2 M2 xs pm xm hM2 hx => ?_⟩⟩
    cases hx
    have ha2 := xm.t _ _ ha
    have rds2 := rds.mono pm xm
    refine ⟨fun hn => ⟨vs, ha2, by rw [← rds.length]; exact List.getElem?_eq_none_iff.mp hn⟩, fun d hd => ?_⟩
    obtain ⟨w, hw, rw'⟩ := rds2.get hd
    refine ⟨⟨vs, w, ha2, hw⟩, fun x H3 y => ?_⟩
    obtain ⟨rfl, y⟩ := y
    have ew := y vs ha2
    rw [hw] at ew
    cases ew
    exact ⟨Ext.refl, hM2, rw'⟩
  | _ => cases e1

/-! x in y, y a list or a tuple of data, a dict -/
def keyD : D → Option Key
  | .int i => some (.inl i)
  | .str x => some (.inr x)
  | _ => none
theorem keyD_rel {G : Gm} {H : Hp} {m : List Addr} {d : D} {v : V} {k : Key} (r : RD G H m d v) (e : keyD d = some k) : v = kV k := by
  cases r <;> cases e <;> rfl
def valD (kvs : List (Key × D)) (k : Key) : Option D := (kvs.find? fun kv => decide (kv.1 = k)).map (·.2)
theorem valD_rel {G : Gm} {H : Hp} {m : List Addr} {k : Key} : ∀ {ds : List (Key × D)} {vs : List (Key × V)}, RKs G H m ds vs → (valD ds k = none → valV vs k = none) ∧ ∀ d, valD ds k = some d → ∃ v, valV vs k = some v ∧ RD G H m d v
  | _, _, .nil => ⟨fun _ => rfl, fun d e => by cases e⟩
  | _, _, @RKs.cons _ _ _ k' d v ds vs r t => by
    obtain ⟨h1, h2⟩ := valD_rel (k := k) t
    by_cases hk : k' = k
    · have e1 : valD ((k', d) :: ds) k = some d := by simp [valD, List.find?_cons, hk]
      have e2 : valV ((k', v) :: vs) k = some v := valV_pos hk
      refine ⟨fun z => (by rw [e1] at z; cases z), fun d' z => ?_⟩
      rw [e1] at z
      cases z
      exact ⟨v, e2, r⟩
    · have e1 : valD ((k', d) :: ds) k = valD ds k := by simp [valD, List.find?_cons, hk]
      have e2 : valV ((k', v) :: vs) k = valV vs k := valV_neg hk
      rw [e1, e2]
      exact ⟨h1, h2⟩
def inD (M : Mem) (x y : D) : Option Bool := match y with
  | .ref n => match M[n]? with
    | some (.dK kvs) => (keyD x).map fun k => (valD kvs k).isSome
    | _ => match toPy M fuelD x, toPy M fuelD y with
      | some d, some (.list ds) => if SeqAt.shaped d = true ∧ SeqAt.shaped (.list ds) = true then some (ds.any fun z => PyData.eqv z d) else none
      | _, _ => none
  | .tup _ => match toPy M fuelD x, toPy M fuelD y with
    | some d, some (.tuple ds) => if SeqAt.shaped d = true ∧ SeqAt.shaped (.tuple ds) = true then some (ds.any fun z => PyData.eqv z d) else none
    | _, _ => none
  | _ => none
def oIn (neg : Bool) : D → D → Mem → R D := fun x y M => (inD M x y).map fun b => (.bl (if neg then !b else b), M)
/-- what is asked of a membership by values -/
def rIn3 (K : PySem.W.Frag) (neg : Bool) : R2 := fun x y H Q =>
  (∃ d ds, Dp K H x d ∧ (Dp K H y (.list ds) ∧ SeqAt.shaped (.list ds) = true ∨ Dp K H y (.tuple ds) ∧ SeqAt.shaped (.tuple ds) = true) ∧ SeqAt.shaped d = true ∧ Q (.bl (if neg then !ds.any (fun z => PyData.eqv z d) else ds.any fun z => PyData.eqv z d)) H) ∨
  ∃ q ov, y = .ref q ∧ DGet H q x ov ∧ Q (.bl (if neg then !ov.isSome else ov.isSome)) H
theorem room_tup {A : Around} {ds : List PyData} {d : PyData} (h : SeqAt.shaped d = true) (hu : A.units + 65 < cLine) : A.units + 1 + min (PyData.depthAll ds) d.depth < cLine := by
  have h1 := SeqAt.depth_of_shaped h
  have h2 : min (PyData.depthAll ds) d.depth ≤ d.depth := Nat.min_le_right _ _
  omega
theorem canLay_tup {ds : List PyData} (h : SeqAt.shaped (.tuple ds) = true) : PyData.canLayAll0 ds = true := by
  have := SeqAt.canLay_of_shaped h
  simpa [PyData.canLay0] using this
theorem opr_in (hu : X.A.units + 65 < cLine) : OpR X (compareOp .In) (rIn3 X.K false) := by
  intro pins s σ H x y v u Q I rx ry h
  rcases h with ⟨d, ds, hd, hy, sd, q⟩ | ⟨a, ov, rfl, g, q⟩
  · obtain ⟨as, r1⟩ := Dp.reads I d x v hd rx
    rcases hy with ⟨he, se⟩ | ⟨he, se⟩
    · obtain ⟨bs, r2⟩ := Dp.reads I (.list ds) y u he ry
      exact SeqAt.in_list_reads r2 r1 (SeqAt.canLay_of_shaped se) (SeqAt.canLay_of_shaped sd) (room_in_shaped sd hu) ⟨.bl _, H, I, rfl, q⟩
    · obtain ⟨bs, r2⟩ := Dp.reads I (.tuple ds) y u he ry
      exact SeqAt.in_tuple_reads r2 r1 (canLay_tup se) (SeqAt.canLay_of_shaped sd) (room_tup sd hu) ⟨.bl _, H, I, rfl, q⟩
  · cases ry
    exact d_in (by omega) I g rx fun s' I' => ⟨.bl _, H, I', rfl, q⟩
theorem opr_notin (hu : X.A.units + 65 < cLine) : OpR X (compareOp .NotIn) (rIn3 X.K true) := by
  intro pins s σ H x y v u Q I rx ry h
  rcases h with ⟨d, ds, hd, hy, sd, q⟩ | ⟨a, ov, rfl, g, q⟩
  · obtain ⟨as, r1⟩ := Dp.reads I d x v hd rx
    rcases hy with ⟨he, se⟩ | ⟨he, se⟩
    · obtain ⟨bs, r2⟩ := Dp.reads I (.list ds) y u he ry
      exact SeqAt.notIn_list_reads r2 r1 (SeqAt.canLay_of_shaped se) (SeqAt.canLay_of_shaped sd) (room_in_shaped sd hu) ⟨.bl _, H, I, rfl, q⟩
    · obtain ⟨bs, r2⟩ := Dp.reads I (.tuple ds) y u he ry
      exact SeqAt.notIn_tuple_reads r2 r1 (canLay_tup se) (SeqAt.canLay_of_shaped sd) (room_tup sd hu) ⟨.bl _, H, I, rfl, q⟩
  · cases ry
    exact d_notIn (by omega) I g rx fun s' I' => ⟨.bl _, H, I', rfl, q⟩
theorem os_in3 {neg : Bool} : OpS (GX X fa) (oIn neg) (rIn3 X.K neg) := fun m H M x y dx dy d M' Q hM rx ry e k => by
  unfold oIn at e
  cases q : inD M dx dy with
  | none => rw [q] at e; cases e
  | some b =>
    rw [q] at e
    cases e
    unfold inD at q
    split at q
    · rename_i n
      split at q
      · rename_i kvs q2
        cases q3 : keyD dx with
        | none => rw [q3] at q; cases q
        | some key =>
          rw [q3] at q
          cases q
          cases ry with
          | @ref _ a ha =>
            obtain ⟨kws, g1, g2⟩ := hM.at_ _ _ _ ha q2
            have ev := keyD_rel rx q3
            subst ev
            have hv := valD_rel (k := key) g2
            refine .inr ⟨a, valV kws key, rfl, DGet.k g1, ?_⟩
            have e2 : (valV kws key).isSome = (valD kvs key).isSome := by
              cases q4 : valD kvs key with
              | none => rw [hv.1 q4]; rfl
              | some d4 => obtain ⟨w, h1, _⟩ := hv.2 d4 q4; rw [h1]; rfl
            rw [e2]
            exact k.here hM _ (.bl _)
      · split at q
        · rename_i pd ds q1 q2
          split at q
          · rename_i hs
            cases q
            exact .inl ⟨pd, ds, toPy_dp hM _ _ _ _ q1 rx, .inl ⟨toPy_dp hM _ _ _ _ q2 ry, hs.2⟩, hs.1, k.here hM _ (.bl _)⟩
          · cases q
        · cases q
    · split at q
      · rename_i pd ds q1 q2
        split at q
        · rename_i hs
          cases q
          exact .inl ⟨pd, ds, toPy_dp hM _ _ _ _ q1 rx, .inr ⟨toPy_dp hM _ _ _ _ q2 ry, hs.2⟩, hs.1, k.here hM _ (.bl _)⟩
        · cases q
      · cases q
    · cases q
theorem os_in : OpS (GX X fa) (oIn false) (rIn3 X.K false) := os_in3
theorem os_notin : OpS (GX X fa) (oIn true) (rIn3 X.K true) := os_in3

/-! isinstance(x, T), T a built-in type by its name -/
inductive Ty where
  | int | str | bool | tuple | list | dict
  deriving DecidableEq
def Ty.name : Ty → String
  | .int => "int" | .str => "str" | .bool => "bool" | .tuple => "tuple" | .list => "list" | .dict => "dict"
def tyOf (M : Mem) : D → Option String
  | .non => some "NoneType"
  | .bl _ => some "bool"
  | .int _ => some "int"
  | .str _ => some "str"
  | .tup _ => some "tuple"
  | .ref n => match M[n]? with
    | some (.lst _) => some "list"
    | some (.dK _) => some "dict"
    | _ => none
  | .fn _ => none
def isTy (M : Mem) (d : D) (t : Ty) : Option Bool := (tyOf M d).map fun n => n == t.name || (n == "bool" && t == .int)
theorem kit_all (K : PySem.W.Frag) : ∀ n ∈ ["NoneType", "bool", "int", "str", "tuple", "list", "dict"], ∀ t : Ty, PySem.W.kitOne K (.type n) (.type t.name) = some (n == t.name || (n == "bool" && t == .int)) := by
  intro n hn t
  simp only [List.mem_cons, List.not_mem_nil, or_false] at hn
  rcases hn with rfl | rfl | rfl | rfl | rfl | rfl | rfl <;> cases t <;> first | rfl | decide +kernel
theorem tyOf_rel {G : Gm} {H : Hp} {m : List Addr} {M : Mem} {d : D} {v : V} {n : String} (hM : RM G H m M) (r : RD G H m d v) (e : tyOf M d = some n) : TyX G.K H v (.type n) ∧ n ∈ ["NoneType", "bool", "int", "str", "tuple", "list", "dict"] := by
  cases r with
  | non => cases e; exact ⟨.base .non, by simp⟩
  | bl b => cases e; exact ⟨.base (.bl b), by simp⟩
  | int b => cases e; exact ⟨.base (.int b), by simp⟩
  | str b => cases e; exact ⟨.base (.str b), by simp⟩
  | tup h _ =>
    cases e
    refine ⟨?_, by simp⟩
    rcases h with (h | ⟨ob, h⟩) | ⟨o, its, n, h1, h2, _⟩
    · exact .base (.tup h)
    · exact .fTuple h
    · exact .kTuple h1 h2
  | @ref j a ha =>
    have e' : (match M[j]? with
      | some (.lst _) => some "list"
      | some (.dK _) => some "dict"
      | _ => none) = some n := e
    cases q : M[j]? with
    | none => rw [q] at e'; cases e'
    | some mo =>
      rw [q] at e'
      cases mo with
      | lst xs =>
        cases e'
        obtain ⟨vs, g1, _⟩ := hM.at_ _ _ _ ha q
        exact ⟨.base (.lst g1), by simp⟩
      | dK kvs =>
        cases e'
        obtain ⟨vs, g1, _⟩ := hM.at_ _ _ _ ha q
        exact ⟨.base (.dK g1), by simp⟩
      | flst xs => cases e'
      | fdK xs => cases e'
  | fn _ => cases e
/-- the type's name, read -/
def eIsi (t : Ty) (ev : Ev) : Ev := fun ρ M => bindO (ev ρ M) fun d M1 => (isTy M1 d t).map fun b => (.bl b, M1)
theorem l_isi (t : Ty) {x : Str} {p2 : Pos} (hi : X.mg "isinstance" = none) (ht : X.mg x = none) (hv : bootBuiltins x = some (.type t.name)) (ha : PE X a (TEof (GX X fa) eva)) (hg : Gl X "isinstance" := by rfl) (hg2 : Gl X x := by rfl) (hn : x ≠ "__name__" := by decide) (hd : (x == ("__debug__" : Str)) = false := by decide)
    (s1 : starEach [a, .Name x p2] X.env = (false, eval a X.env) :: starEach [.Name x p2] X.env := by rfl) (s2 : starEach [.Name x p2] X.env = (false, eval (.Name x p2) X.env) :: starEach [] X.env := by rfl) (hpl : (backTo pos (starEach [.Name x p2] X.env)).any (·.1) = false := by rfl) :
    PE X (.Call (.Name "isinstance" p) [a, .Name x p2] [] pos) (TEof (GX X fa) (eIsi t eva)) := by
  refine (pe_callB call_isi hg hi boot_isinstance (pa_cons ha (pa_cons (pe_bltn (v := .ty t.name) hg2 ht hv rfl hn hd) pa_nil s2) s1) (by decide) (by decide) s1 hpl).imp fun σ H Q ⟨m, M, ρ, d, M', hρ, hM, e, fin⟩ => ?_
  refine te_bind hρ hM e fin fun m1 H1 M1 d1 v hρ1 hM1 rd e1 fin1 p1 x1 => ?_
  unfold isTy at e1
  cases q : tyOf M1 d1 with
  | none => rw [q] at e1; cases e1
  | some n =>
    rw [q] at e1
    cases e1
    obtain ⟨h1, h2⟩ := tyOf_rel hM1 rd q
    exact ⟨v, .ty t.name, .type n, .type t.name, _, rfl, .ty _, h1, kit_all X.K n h2 t, fin1.here hM1 _ (.bl _)⟩

/-! a op b op c -/
def eChain (f g : D → D → Mem → R D) (x y z : Ev) : Ev := fun ρ M => bindO (x ρ M) fun a M1 => bindO (y ρ M1) fun b M2 => bindO (f a b M2) fun c M3 => match c with
  | .bl true => bindO (z ρ M3) fun e M4 => g b e M4
  | .bl false => some (.bl false, M3)
  | _ => none
theorem chain_split {r q : R2} {f g : D → D → Mem → R D} (os : OpS (GX X fa) f r) (ot : OpS (GX X fa) g q) {σ : L2.St} {H : Hp} {Q : VK} (h : TEof (GX X fa) (eChain f g eva evb evc) σ H Q) : tChain r q (TEof (GX X fa) eva) (TEof (GX X fa) evb) (TEof (GX X fa) evc) σ H Q := by
  obtain ⟨m, M, ρ, d, M', hρ, hM, e, fin⟩ := h
  refine te_bind hρ hM e fin fun m1 H1 M1 d1 v hρ1 hM1 rd e1 fin1 p1 x1 => ?_
  refine te_bind hρ1 hM1 e1 fin1 fun m2 H2 M2 d2 w hρ2 hM2 rd2 e2 fin2 p2 x2 => ?_
  cases q1 : f d1 d2 M2 with
  | none => rw [q1] at e2; cases e2
  | some pr =>
    obtain ⟨c, M3⟩ := pr
    rw [q1] at e2
    refine os m2 H2 M2 v w d1 d2 c M3 _ hM2 (rd.mono p2 x2) rd2 q1 fun m3 H3 p3 x3 hM3 z rz => ?_
    cases rz with
    | bl bb =>
      refine ⟨bb, rfl, ?_⟩
      have fin3 := fin2.mono p3 x3
      cases bb with
      | false =>
        have e3 : some (D.bl false, M3) = some (d, M') := e2
        rw [if_neg (by decide)]
        cases e3
        exact fin3.here hM3 _ (.bl false)
      | true =>
        have e3 : bindO (evc ρ M3) (fun e M4 => g d2 e M4) = some (d, M') := e2
        rw [if_pos rfl]
        refine te_bind (hρ2.mono p3 x3) hM3 e3 fin3 fun m4 H4 M4 d4 u hρ4 hM4 rd4 e4 fin4 p4 x4 => ?_
        exact ot m4 H4 M4 w u d2 d4 d M' Q hM4 ((rd2.mono p3 x3).mono p4 x4) rd4 e4 fin4
    | _ => cases e2
theorem l_chain {op op' : CmpOp} {r q : R2} {f g : D → D → Mem → R D} (ho : OpR X (compareOp op) r) (os : OpS (GX X fa) f r) (ho' : OpR X (compareOp op') q) (ot : OpS (GX X fa) g q) (ha : PE X a (TEof (GX X fa) eva)) (hb : PE X b (TEof (GX X fa) evb)) (hc : PE X c (TEof (GX X fa) evc))
    (hm : lastMarks [op, op'] [b, c] = false := by with_unfolding_all rfl) : PE X (.Compare a [op, op'] [b, c] pos) (TEof (GX X fa) (eChain f g eva evb evc)) :=
  (pe_chain ho ho' ha hb hc hm).imp fun _ _ _ h => chain_split os ot h
theorem l_tchain {op op' : CmpOp} {r q : R2} {f g : D → D → Mem → R D} (ho : OpR X (compareOp op) r) (os : OpS (GX X fa) f r) (ho' : OpR X (compareOp op') q) (ot : OpS (GX X fa) g q) (ha : PE X a (TEof (GX X fa) eva)) (hb : PE X b (TEof (GX X fa) evb)) (hc : PE X c (TEof (GX X fa) evc))
    (hm : lastMarks [op, op'] [b, c] = false := by with_unfolding_all rfl) : PT X (.Compare a [op, op'] [b, c] pos) (TTof (GX X fa) (bOf (eChain f g eva evb evc))) :=
  (pt_chain ho ho' ha hb hc hm).imp fun _ _ _ h => chain_split os ot (bOf_split h)

/-! -x -/
def eNeg (ev : Ev) : Ev := fun ρ M => bindO (ev ρ M) fun d M1 => match d with
  | .int i => some (.int (-i), M1)
  | _ => none
theorem l_neg (ha : PE X a (TEof (GX X fa) eva)) : PE X (.UnaryOp .USub a pos) (TEof (GX X fa) (eNeg eva)) := by
  refine (pe_un un_neg ha).imp fun σ H Q ⟨m, M, ρ, d, M', hρ, hM, e, fin⟩ => ?_
  refine te_bind hρ hM e fin fun m1 H1 M1 d1 v hρ1 hM1 rd e1 fin1 p1 x1 => ?_
  cases rd with
  | int i => cases e1; exact ⟨i, rfl, fin1.here hM1 _ (.int _)⟩
  | _ => cases e1

/-! a, b, c = x, y, z -/
def sPar3 (i j l : Nat) (evs : EvL) : Es := fun ρ M => bindO (evs ρ M) fun ds M1 => match ds with
  | [d, e, f] => some (.next (((ρ.set i (some d)).set j (some e)).set l (some f)), M1)
  | _ => none
theorem l_par3 (i j l : Nat) {x y z : Str} {evs : EvL} {px py pz pt : Pos} {kt k2 pt2} (hN : X.N.Nodup) (ha : PA X [a, b, c] (TAof (GX X fa) evs)) (hc : X.calm = true := by rfl) (hi : X.N[i]? = some x := by rfl) (hj : X.N[j]? = some y := by rfl) (hl : X.N[l]? = some z := by rfl) (hij : i ≠ j := by decide) (hil : i ≠ l := by decide) (hjl : j ≠ l := by decide)
    (hx : X.env.scope.names.lookup x = some .local := by rfl) (hy : X.env.scope.names.lookup y = some .local := by rfl) (hz : X.env.scope.names.lookup z = some .local := by rfl)
    (hw : swappedStores [.Tuple [.Name x px, .Name y py, .Name z pz] kt pt] (.Tuple [a, b, c] k2 pt2) X.env = pure (some [x, y, z]) := by rfl)
    (hs : swapsWithSole [.Tuple [.Name x px, .Name y py, .Name z pz] kt pt] (.Tuple [a, b, c] k2 pt2) pos.line X.env = pure false := by rfl) :
    PS X (.Assign [.Tuple [.Name x px, .Name y py, .Name z pz] kt pt] (.Tuple [a, b, c] k2 pt2) pos) (TSof (GX X fa) (sPar3 i j l evs)) := by
  refine (ps_par3 hc hN hi hj hl hij hil hjl hx hy hz ha hw hs).imp fun D σ H ⟨m, M, ρ, o, M', hρ, hM, e, fin⟩ => ?_
  refine ta_bind hρ hM e fin fun m1 H1 M1 ds vs hρ1 hM1 rds e1 fin1 p1 x1 => ?_
  cases rds with
  | nil => cases e1
  | cons r1 t1 =>
    cases t1 with
    | nil => cases e1
    | cons r2 t2 =>
      cases t2 with
      | nil => cases e1
      | cons r3 t3 =>
        cases t3 with
        | nil =>
          cases e1
          exact ⟨_, _, _, rfl, fin1.here hM1 _ (((hρ1.set i r1).set j r2).set l r3)⟩
        | cons _ _ => cases e1

/-! an expression as a test, by its truth -/
def truD (M : Mem) : D → Option Bool
  | .non => some false
  | .bl b => some b
  | .int i => some (i != 0)
  | .str y => if y.length ≤ sizeLine then some ((y.length : Int) != 0) else none
  | .tup xs => some (!xs.isEmpty)
  | .ref n => match M[n]? with
    | some (.lst xs) => some (!xs.isEmpty)
    | some (.flst xs) => some (!xs.isEmpty)
    | some (.dK kvs) => some (!kvs.isEmpty)
    | _ => none
  | .fn _ => none
theorem RDs.empty {G : Gm} {H : Hp} {m : List Addr} {ds : List D} {vs : List V} (r : RDs G H m ds vs) : ds.isEmpty = vs.isEmpty := by cases r <;> rfl
theorem truD_rel {G : Gm} {H : Hp} {m : List Addr} {M : Mem} {d : D} {v : V} {b : Bool} (hM : RM G H m M) (r : RD G H m d v) (e : truD M d = some b) : TruV G.K v H b := by
  cases r with
  | non => cases e; rfl
  | bl _ => cases e; rfl
  | int _ => cases e; rfl
  | str y =>
    have e' : (if y.length ≤ sizeLine then some ((y.length : Int) != 0) else none) = some b := e
    split at e'
    · rename_i h; cases e'; exact ⟨h, rfl⟩
    · cases e'
  | tup h rds => cases e; exact .inr (.inl ⟨_, h, by rw [rds.empty]⟩)
  | @ref j a ha =>
    have e' : (match M[j]? with
      | some (.lst xs) => some (!xs.isEmpty)
      | some (.flst xs) => some (!xs.isEmpty)
      | some (.dK kvs) => some (!kvs.isEmpty)
      | _ => none) = some b := e
    cases q : M[j]? with
    | none => rw [q] at e'; cases e'
    | some mo =>
      rw [q] at e'
      cases mo with
      | lst xs =>
        cases e'
        obtain ⟨vs, g1, g2⟩ := hM.at_ _ _ _ ha q
        exact .inl ⟨vs, SqL.of g1, by rw [g2.empty]⟩
      | flst xs =>
        cases e'
        obtain ⟨vs, g1, g2⟩ := hM.lstAt (show lstAt M j = some xs by unfold lstAt; rw [q]) ha
        exact .inl ⟨vs, g1, by rw [g2.empty]⟩
      | dK kvs =>
        cases e'
        obtain ⟨kws, g1, g2⟩ := hM.at_ _ _ _ ha q
        exact .inr (.inr ⟨kws, g1, by cases g2 <;> rfl⟩)
      | fdK kvs => cases e'
  | fn _ => cases e
def bTru (ev : Ev) : EvB := fun ρ M => bindO (ev ρ M) fun d M1 => (truD M1 d).map fun b => (b, M1)
theorem l_truth (ha : PE X a (TEof (GX X fa) eva)) (he : ∀ whole, isTrue a X.env whole = (do let v ← whole; standAt a.pos; holding [v] (truthy v)) := by intro _; rfl) : PT X a (TTof (GX X fa) (bTru eva)) := by
  refine (pt_truth ha he).imp fun σ H Q ⟨m, M, ρ, d, M', hρ, hM, e, fin⟩ => ?_
  refine te_bind hρ hM e fin fun m1 H1 M1 d1 v hρ1 hM1 rd e1 fin1 p1 x1 => ?_
  cases q : truD M1 d1 with
  | none => rw [q] at e1; cases e1
  | some bb =>
    rw [q] at e1
    cases e1
    exact ⟨_, truD_rel hM1 rd q, fin1.here hM1⟩
/-- x or y, x and y by truth -/
def eOrT (x y : Ev) : Ev := fun ρ M => bindO (x ρ M) fun d M1 => match truD M1 d with
  | some true => some (d, M1)
  | some false => y ρ M1
  | none => none
def eAndT (x y : Ev) : Ev := fun ρ M => bindO (x ρ M) fun d M1 => match truD M1 d with
  | some false => some (d, M1)
  | some true => y ρ M1
  | none => none
theorem l_orT {rest : List Expr} (ha : PE X a (TEof (GX X fa) eva)) (hb : PE X (.BoolOp .Or (b :: rest) pos) (TEof (GX X fa) evb)) : PE X (.BoolOp .Or (a :: b :: rest) pos) (TEof (GX X fa) (eOrT eva evb)) := by
  refine (pe_orT ha hb).imp fun σ H Q ⟨m, M, ρ, d, M', hρ, hM, e, fin⟩ => ?_
  refine te_bind hρ hM e fin fun m1 H1 M1 d1 v hρ1 hM1 rd e1 fin1 p1 x1 => ?_
  cases q : truD M1 d1 with
  | none => rw [q] at e1; cases e1
  | some bb =>
    rw [q] at e1
    refine ⟨bb, truD_rel hM1 rd q, ?_⟩
    cases bb with
    | true => rw [if_pos rfl]; cases e1; exact fin1.here hM1 _ rd
    | false => rw [if_neg (by decide)]; exact ⟨m1, M1, ρ, d, M', hρ1, hM1, e1, fin1⟩
theorem l_andT {rest : List Expr} (ha : PE X a (TEof (GX X fa) eva)) (hb : PE X (.BoolOp .And (b :: rest) pos) (TEof (GX X fa) evb)) : PE X (.BoolOp .And (a :: b :: rest) pos) (TEof (GX X fa) (eAndT eva evb)) := by
  refine (pe_andT ha hb).imp fun σ H Q ⟨m, M, ρ, d, M', hρ, hM, e, fin⟩ => ?_
  refine te_bind hρ hM e fin fun m1 H1 M1 d1 v hρ1 hM1 rd e1 fin1 p1 x1 => ?_
  cases q : truD M1 d1 with
  | none => rw [q] at e1; cases e1
  | some bb =>
    rw [q] at e1
    refine ⟨bb, truD_rel hM1 rd q, ?_⟩
    cases bb with
    | false => rw [if_neg (by decide)]; cases e1; exact fin1.here hM1 _ rd
    | true => rw [if_pos rfl]; exact ⟨m1, M1, ρ, d, M', hρ1, hM1, e1, fin1⟩
end
end Mi
set_option Elab.async false
set_option linter.all false
set_option maxRecDepth 100000
/-! sorted of data -/
namespace Mi
open PySem PySem.Spec PyProof.Rows L2
def alikeB (ds : List PyData) : Bool := ds.all fun d => ds.all fun e => PySem.W.alike d e
def sortableB (ds : List PyData) : Bool := (ds.all fun d => match d with
  | .tuple (_ :: _) => true
  | _ => false) || ds.all fun d => match d with
  | .none => false
  | .tuple _ => false
  | _ => true
def okSort (ds : List PyData) : Bool := alikeB ds && sortableB ds && ds.all fun d => decide (d.depth ≤ 64)
theorem alike_of {ds : List PyData} (h : alikeB ds = true) : PySem.W.AllAlike ds := fun d hd e he => List.all_eq_true.mp (List.all_eq_true.mp h d hd) e he
theorem sortable_of {ds : List PyData} (h : sortableB ds = true) : PySem.W.Sortable ds := by
  unfold sortableB at h
  rcases (Bool.or_eq_true _ _).mp h with h | h
  · left
    intro d hd
    have q := List.all_eq_true.mp h d hd
    cases d with
    | tuple xs =>
      cases xs with
      | nil => cases q
      | cons x r => exact ⟨x, r, rfl⟩
    | _ => cases q
  · right
    intro d hd
    have q := List.all_eq_true.mp h d hd
    cases d with
    | none => cases q
    | tuple xs => cases q
    | _ => exact ⟨fun z => (by cases z), fun xs z => by cases z⟩
section
variable {X : Cx} {fa : Nat → Addr}
def rSortD (K : PySem.W.Frag) : List V → Hp → VK → Prop := fun xs H Q => ∃ (a : Addr) (bs : List (V × PyData)), xs = [V.ref a] ∧ SqL K H a (bs.map (·.1)) ∧ (∀ b ∈ bs, Dp K H b.1 b.2) ∧ okSort (bs.map (·.2)) = true ∧
  ∀ p, H p = none → Q (.ref p) (upd H p (.lst ((bs.mergeSort (PySem.W.dataLe false (·.2))).map (·.1))))
theorem each_vals : ∀ {bs : List (V × PyData)} {us : List Value}, Vals (bs.map (·.1)) us → PySem.W.EachIs (fun (v : Value) (b : V × PyData) => RelV b.1 v) us bs
  | [], _, .nil => .nil
  | _ :: _, _, .cons h t => .cons h (each_vals t)
theorem vals_each : ∀ {bs : List (V × PyData)} {us : List Value}, PySem.W.EachIs (fun (v : Value) (b : V × PyData) => RelV b.1 v) us bs → Vals (bs.map (·.1)) us
  | _, _, .nil => .nil
  | _, _, .cons h t => .cons h (vals_each t)
theorem each_reads {pins : List (Addr × Obj)} {σ : L2.St} {H : Hp} {st : Shared} (I : Inv X pins σ H st) : ∀ {bs : List (V × PyData)} {us : List Value}, Vals (bs.map (·.1)) us → (∀ b ∈ bs, Dp X.K H b.1 b.2) → PySem.W.EachIs (fun (v : Value) (b : V × PyData) => ∃ as, Reads st.heap v b.2 as) us bs
  | [], _, .nil, _ => .nil
  | b :: bs, _, .cons h t, k => .cons (Dp.reads I _ _ _ (k b List.mem_cons_self) h) (each_reads I t fun c hc => k c (List.mem_cons_of_mem _ hc))
theorem cr_sortD (hu : X.A.units + 70 < cLine) : CallR X (.builtin "sorted") (rSortD X.K) := by
  intro pins st σ H xs us Q I r h
  obtain ⟨a, bs, rfl, hs, hd, hok, q⟩ := h
  obtain ⟨u, rfl, ru⟩ := vals1 r
  cases (show u = Value.ref a from ru)
  obtain ⟨its, rv, pl, hz⟩ := I.list hs
  unfold okSort at hok
  simp only [Bool.and_eq_true] at hok
  obtain ⟨⟨h1, h2⟩, h3⟩ := hok
  refine PySem.W.sorted_data (R := fun v b => RelV b.1 v) (enc := fun b : V × PyData => b.2) pl.isList (each_vals rv) (each_reads I rv hd) (alike_of h1) (sortable_of h2) (by rw [List.length_map] at hz; exact hz) (fun b hb => ?_) fun out hl hE => ?_
  · have := of_decide_eq_true (List.all_eq_true.mp h3 b.2 (List.mem_map.mpr ⟨b, hb, rfl⟩))
    omega
  · refine ⟨.ref (st.heap.objs.size + 1), _, I.laid (a := st.heap.objs.size + 1) (o := .lst ((bs.mergeSort (PySem.W.dataLe false (·.2))).map (·.1))) (t' := st.toks) (fun b o e => sortedAll_old e) (Nat.le_succ _) ?_, rfl, q _ (I.hok.fresh (Nat.le_succ _))⟩
    obtain ⟨n, hn⟩ := sortedAll_at st.heap its out.toArray
    refine ⟨?_, out, n, vals_each hE, hn⟩
    rw [List.length_map, List.length_mergeSort]
    rw [List.length_map] at hz
    exact hz
def sortD (xs : List D) (ps : List PyData) : List D := ((xs.zip ps).mergeSort (PySem.W.dataLe false (·.2))).map (·.1)
def fSort : List D → Mem → R D := fun ds M => match ds with
  | [.ref n] => match lstAt M n with
    | some xs => match toPys M fuelD xs with
      | some ps => if okSort ps = true then some (.ref M.length, M ++ [.lst (sortD xs ps)]) else none
      | none => none
    | none => none
  | _ => none
theorem triples {G : Gm} {H : Hp} {m : List Addr} : ∀ {ds : List D} {vs : List V} {ps : List PyData}, RDs G H m ds vs → DpAll G.K H vs ps →
    ∃ T : List (V × D × PyData), T.map (·.1) = vs ∧ T.map (·.2.1) = ds ∧ T.map (·.2.2) = ps ∧ ∀ t ∈ T, RD G H m t.2.1 t.1 ∧ Dp G.K H t.1 t.2.2
  | _, _, _, .nil, .nil => ⟨[], rfl, rfl, rfl, fun _ z => by cases z⟩
  | _, _, _, @RDs.cons _ _ _ d ds v vs r t, @DpAll.cons _ _ _ _ p ps q u => by
    obtain ⟨T, e1, e2, e3, k⟩ := triples t u
    refine ⟨(v, d, p) :: T, by rw [List.map_cons, e1], by rw [List.map_cons, e2], by rw [List.map_cons, e3], fun x hx => ?_⟩
    rcases List.mem_cons.mp hx with rfl | hx
    · exact ⟨r, q⟩
    · exact k x hx
theorem rds_map {G : Gm} {H : Hp} {m : List Addr} : ∀ {T : List (V × D × PyData)}, (∀ t ∈ T, RD G H m t.2.1 t.1) → RDs G H m (T.map (·.2.1)) (T.map (·.1))
  | [], _ => .nil
  | t :: T, h => .cons (h t List.mem_cons_self) (rds_map fun x hx => h x (List.mem_cons_of_mem _ hx))
theorem zip_maps {α β γ : Type} (f : α → β) (g : α → γ) (T : List α) : (T.map f).zip (T.map g) = T.map fun t => (f t, g t) := by
  induction T with
  | nil => rfl
  | cons t T ih => simp [ih]
theorem cs_sortD : CaS (GX X fa) fSort (rSortD X.K) := fun m H M xs ds d M' Q hM r e k => by
  unfold fSort at e
  split at e
  · rename_i n
    cases q1 : lstAt M n with
    | none => rw [q1] at e; cases e
    | some ys =>
      rw [q1] at e
      simp only at e
      cases q2 : toPys M fuelD ys with
      | none => rw [q2] at e; cases e
      | some ps =>
        rw [q2] at e
        simp only at e
        split at e
        · rename_i hok
          cases e
          obtain ⟨v, rfl, rv⟩ := one_of r
          cases rv with
          | @ref _ a ha =>
            obtain ⟨vs, hs, rds⟩ := hM.lstAt q1 ha
            obtain ⟨T, e1, e2, e3, hT⟩ := triples rds (toPys_dp hM _ _ _ _ q2 rds)
            have le3 : V × D × PyData → V × D × PyData → Bool := PySem.W.dataLe false (·.2.2)
            have hV : ((T.map fun t => (t.1, t.2.2)).mergeSort (PySem.W.dataLe false (·.2))).map (·.1) = (T.mergeSort (PySem.W.dataLe false (·.2.2))).map (·.1) := by
              rw [← List.map_mergeSort (r := PySem.W.dataLe false (·.2.2)) (s := PySem.W.dataLe false (·.2)) (f := fun t : V × D × PyData => (t.1, t.2.2)) (l := T) (fun _ _ _ _ => rfl), List.map_map]
              rfl
            have hD : sortD ys ps = (T.mergeSort (PySem.W.dataLe false (·.2.2))).map (·.2.1) := by
              unfold sortD
              rw [← e2, ← e3, zip_maps, ← List.map_mergeSort (r := PySem.W.dataLe false (·.2.2)) (s := PySem.W.dataLe false (·.2)) (f := fun t : V × D × PyData => (t.2.1, t.2.2)) (l := T) (fun _ _ _ _ => rfl), List.map_map]
              rfl
            refine ⟨a, T.map fun t => (t.1, t.2.2), rfl, ?_, ?_, ?_, fun p hp => ?_⟩
            · rw [List.map_map]
              rw [← e1] at hs
              exact hs
            · intro b hb
              obtain ⟨t, ht, rfl⟩ := List.mem_map.mp hb
              exact (hT t ht).2
            · rw [List.map_map]
              rw [← e3] at hok
              exact hok
            · rw [hV]
              refine fin_push k hM hp ⟨_, upd_same, ?_⟩ _ (ref_last hM)
              rw [hD]
              exact (rds_map fun t ht => (hT t (List.mem_mergeSort.mp ht)).1).mono (List.prefix_append _ _) (Ext.new hp)
        · cases e
  · cases e
end
end Mi
set_option Elab.async false
set_option linter.all false
set_option maxRecDepth 100000
/-! stars in displays; dicts with keys that are numbers or texts -/
namespace Mi
open PySem PySem.Spec PyProof.Rows L2
section
variable {X : Cx} {fa : Nat → Addr} {a b c e o i : Expr} {eva evb evc evo evi : Ev} {pos p : Pos} {es : List Expr}
def eConsS (ev : Ev) (evs : EvL) : EvL := fun ρ M => bindO (ev ρ M) fun d M1 => match itemsOf M1 d with
  | some xs => bindO (evs ρ M1) fun ds M2 => some (xs ++ ds, M2)
  | none => none
theorem l_consS {evs : EvL} (ha : PE X a (TEof (GX X fa) eva)) (hr : PA X es (TAof (GX X fa) evs)) (hs : starEach (.Starred a p :: es) X.env = (true, eval a X.env) :: starEach es X.env := by rfl) : PA X (.Starred a p :: es) (TAof (GX X fa) (eConsS eva evs)) := by
  refine (StX.pa_star ha hr hs).imp fun σ H Q ⟨m, M, ρ, d, M', hρ, hM, e, fin⟩ => ?_
  refine te_bind hρ hM e fin fun m1 H1 M1 d1 v hρ1 hM1 rd e1 fin1 p1 x1 => ?_
  cases q : itemsOf M1 d1 with
  | none => rw [q] at e1; cases e1
  | some xs =>
    rw [q] at e1
    have key : ∃ a vs, v = .ref a ∧ (SqT X.K H1 a vs ∨ SqL X.K H1 a vs) ∧ RDs (GX X fa) H1 m1 xs vs := by
      cases rd with
      | @tup a _ vs ha rds => cases q; exact ⟨a, vs, rfl, .inl ha, rds⟩
      | ref ha => obtain ⟨vs, hs, rds⟩ := hM1.lstAt q ha; exact ⟨_, vs, rfl, .inr hs, rds⟩
      | _ => cases q
    obtain ⟨a, vs, e3, h3, rds⟩ := key
    refine ⟨a, vs, e3, h3, ?_⟩
    refine ta_bind hρ1 hM1 e1 fin1 fun m2 H2 M2 d2 ws hρ2 hM2 rds2 e2 fin2 p2 x2 => ?_
    cases e2
    exact fin2.here hM2 _ ((rds.mono p2 x2).append rds2)
/-! {} -/
def eDnew : Ev := fun _ M => some (.ref M.length, M ++ [.dK []])
theorem l_dnew : PE X (.Dict [] [] pos) (TEof (GX X fa) eDnew) := pe_dnewK.imp fun σ H Q ⟨m, M, ρ, d, M', hρ, hM, e, fin⟩ => by
  cases e
  exact fun q hq => fin_push fin hM hq ⟨[], upd_same, .nil⟩ _ (ref_last hM)
/-! d[k] -/
def oDget : D → D → Mem → R D := fun x y M => match x with
  | .ref n => match M[n]?, keyD y with
    | some (.dK kvs), some k => (valD kvs k).map fun d => (d, M)
    | _, _ => none
  | _ => none
theorem l_dget (hu : X.A.units + 1 < cLine) (ho : PE X o (TEof (GX X fa) evo)) (hi : PE X i (TEof (GX X fa) evi)) (hs : NoSl i := by first | exact (fun _ _ => rfl) | rfl) : PE X (.Subscript o i pos) (TEof (GX X fa) (eBin oDget evo evi)) := by
  refine (pe_dget hu ho hi hs).imp fun σ H Q ⟨m, M, ρ, d, M', hρ, hM, e, fin⟩ => ?_
  refine te_bind hρ hM e fin fun m1 H1 M1 d1 v hρ1 hM1 rd e1 fin1 p1 x1 => ?_
  refine te_bind hρ1 hM1 e1 fin1 fun m2 H2 M2 d2 w hρ2 hM2 rd2 e2 fin2 p2 x2 => ?_
  have rd' := rd.mono p2 x2
  cases rd' with
  | @ref n a ha =>
    cases q : M2[n]? with
    | none => simp [oDget, q] at e2
    | some mo =>
      cases q2 : keyD d2 with
      | none => cases mo <;> simp [oDget, q, q2] at e2
      | some key =>
        cases mo with
        | dK kvs =>
          simp only [oDget, q, q2] at e2
          cases q3 : valD kvs key with
          | none => rw [q3] at e2; cases e2
          | some dv =>
            rw [q3] at e2
            cases e2
            obtain ⟨kws, g1, g2⟩ := hM2.at_ _ _ _ ha q
            obtain ⟨z, h1, h2⟩ := (valD_rel (k := key) g2).2 _ q3
            have ew := keyD_rel rd2 q2
            subst ew
            exact ⟨a, z, rfl, by rw [← h1]; exact DGet.k g1, fin2.here hM2 _ h2⟩
        | _ => simp [oDget, q, q2] at e2
  | _ => cases e2
/-! d[k] = v -/
def putD (kvs : List (Key × D)) (k : Key) (v : D) : List (Key × D) :=
  if (kvs.any fun kv => decide (kv.1 = k)) = true then kvs.map (fun kv => if kv.1 = k then (kv.1, v) else kv) else kvs ++ [(k, v)]
theorem any_rel {G : Gm} {H : Hp} {m : List Addr} {k : Key} : ∀ {ds : List (Key × D)} {vs : List (Key × V)}, RKs G H m ds vs → (ds.any fun kv => decide (kv.1 = k)) = (vs.any fun kv => decide (kv.1 = k))
  | _, _, .nil => rfl
  | _, _, .cons r t => by rw [List.any_cons, List.any_cons, any_rel t]
theorem RKs.append {G : Gm} {H : Hp} {m : List Addr} : ∀ {ds es : List (Key × D)} {vs ws : List (Key × V)}, RKs G H m ds vs → RKs G H m es ws → RKs G H m (ds ++ es) (vs ++ ws)
  | _, _, _, _, .nil, s => s
  | _, _, _, _, .cons r t, s => .cons r (RKs.append t s)
theorem map_rel {G : Gm} {H : Hp} {m : List Addr} {k : Key} {d : D} {v : V} (r : RD G H m d v) : ∀ {ds : List (Key × D)} {vs : List (Key × V)}, RKs G H m ds vs → RKs G H m (ds.map fun kv => if kv.1 = k then (kv.1, d) else kv) (vs.map fun kv => if kv.1 = k then (kv.1, v) else kv)
  | _, _, .nil => .nil
  | _, _, @RKs.cons _ _ _ k' d' v' ds vs r' t' => by
    rw [List.map_cons, List.map_cons]
    by_cases h : k' = k
    · rw [if_pos h, if_pos h]; exact .cons r (map_rel r t')
    · rw [if_neg h, if_neg h]; exact .cons r' (map_rel r t')
theorem put_rel {G : Gm} {H : Hp} {m : List Addr} {k : Key} {d : D} {v : V} (r : RD G H m d v) {ds : List (Key × D)} {vs : List (Key × V)} (t : RKs G H m ds vs) : RKs G H m (putD ds k d) (putK vs k v) := by
  unfold putD putK
  rw [any_rel t]
  split
  · exact map_rel r t
  · exact t.append (.cons r .nil)
def sDput (evo evi eve : Ev) : Es := fun ρ M => bindO (eve ρ M) fun d M1 => bindO (evo ρ M1) fun o M2 => bindO (evi ρ M2) fun i M3 => match o with
  | .ref n => match M3[n]?, keyD i with
    | some (.dK kvs), some k => if kvs.length < sizeLine then some (.next ρ, M3.set n (.dK (putD kvs k d))) else none
    | _, _ => none
  | _ => none
theorem l_dput {eve : Ev} {ps : Pos} (hu : X.A.units + 1 < cLine) (ho : PE X o (TEof (GX X fa) evo)) (hi : PE X i (TEof (GX X fa) evi)) (he : PE X e (TEof (GX X fa) eve)) (hs : swapsWith e (some (.Subscript o i ps)) pos.line X.env = pure false := by rfl) : PS X (.Assign [.Subscript o i ps] e pos) (TSof (GX X fa) (sDput evo evi eve)) := by
  refine (ps_dput hu ho hi he hs).imp fun D σ H ⟨m, M, ρ, out, M', hρ, hM, e, fin⟩ => ?_
  refine te_bind hρ hM e fin fun m1 H1 M1 d1 v hρ1 hM1 rd e1 fin1 p1 x1 => ?_
  refine te_bind hρ1 hM1 e1 fin1 fun m2 H2 M2 d2 w hρ2 hM2 rd2 e2 fin2 p2 x2 => ?_
  refine te_bind hρ2 hM2 e2 fin2 fun m3 H3 M3 d3 z hρ3 hM3 rd3 e3 fin3 p3 x3 => ?_
  have rdv := (rd.mono p2 x2).mono p3 x3
  have rdo := rd2.mono p3 x3
  cases rdo with
  | @ref n a ha =>
    simp only at e3
    cases q : M3[n]? with
    | none => simp [q] at e3
    | some mo =>
      cases q2 : keyD d3 with
      | none => cases mo <;> simp [q, q2] at e3
      | some key =>
        cases mo with
        | dK kvs =>
          simp only [q, q2] at e3
          split at e3
          · rename_i hl
            cases e3
            obtain ⟨kws, g1, g2⟩ := hM3.at_ _ _ _ ha q
            have ew := keyD_rel rd3 q2
            subst ew
            have mu : Mut (H3 a) := by rw [g1]; trivial
            refine ⟨a, _, rfl, DPut.k g1 (by rw [← g2.length]; exact hl), ?_⟩
            exact fin3 m3 _ (List.prefix_refl _) (Ext.write mu) (hM3.set ha q rfl rfl ⟨_, upd_same, (put_rel rdv g2).mono (List.prefix_refl _) (Ext.write mu)⟩) σ (hρ3.mono (List.prefix_refl _) (Ext.write mu))
          · cases e3
        | _ => simp [q, q2] at e3
  | _ => cases e3
/-! d.get(k, x), d.pop(k) -/
def eDget2 (evo evi evc : Ev) : Ev := fun ρ M => bindO (evo ρ M) fun o M1 => match o with
  | .ref n => match M1[n]? with
    | some (.dK _) => bindO (evi ρ M1) fun i M2 => bindO (evc ρ M2) fun c M3 => match M3[n]?, keyD i with
      | some (.dK kvs), some k => some ((valD kvs k).getD c, M3)
      | _, _ => none
    | _ => none
  | _ => none
theorem l_dget2 {ap cp : Pos} (hu : X.A.units + 1 < cLine) (ho : PE X o (TEof (GX X fa) evo)) (hi : PE X i (TEof (GX X fa) evi)) (hc : PE X c (TEof (GX X fa) evc)) (hm : M2 X o "get" ap i c cp := by exact ⟨rfl, rfl, rfl, rfl⟩) : PE X (.Call (.Attribute o "get" ap) [i, c] [] cp) (TEof (GX X fa) (eDget2 evo evi evc)) := by
  refine (pe_dget2 hu ho hi hc hm).imp fun σ H Q ⟨m, M, ρ, d, M', hρ, hM, e, fin⟩ => ?_
  refine te_bind hρ hM e fin fun m1 H1 M1 d1 v hρ1 hM1 rd e1 fin1 p1 x1 => ?_
  cases rd with
  | @ref n a ha =>
    simp only at e1
    cases q : M1[n]? with
    | none => simp [q] at e1
    | some mo =>
      cases mo with
      | dK kvs0 =>
        simp only [q] at e1
        obtain ⟨kws0, g0, _⟩ := hM1.at_ _ _ _ ha q
        refine ⟨a, rfl, .inl ⟨kws0, .inl g0⟩, ?_⟩
        refine te_bind hρ1 hM1 e1 fin1 fun m2 H2 M2 d2 w hρ2 hM2 rd2 e2 fin2 p2 x2 => ?_
        refine te_bind hρ2 hM2 e2 fin2 fun m3 H3 M3 d3 z hρ3 hM3 rd3 e3 fin3 p3 x3 => ?_
        cases q3 : M3[n]? with
        | none => simp [q3] at e3
        | some mo3 =>
          cases q4 : keyD d2 with
          | none => cases mo3 <;> simp [q3, q4] at e3
          | some key =>
            cases mo3 with
            | dK kvs =>
              simp only [q3, q4] at e3
              cases e3
              obtain ⟨kws, g1, g2⟩ := hM3.at_ _ _ _ (pre_get (p2.trans p3) ha) q3
              have ew := keyD_rel (rd2.mono p3 x3) q4
              subst ew
              have hv := valD_rel (k := key) g2
              refine ⟨valV kws key, DGet.k g1, ?_⟩
              cases q5 : valD kvs key with
              | none =>
                rw [hv.1 q5]
                exact fin3.here hM3 _ (by rw [q5]; exact rd3)
              | some d5 =>
                obtain ⟨y, h1, h2⟩ := hv.2 d5 q5
                rw [h1]
                exact fin3.here hM3 _ (by rw [q5]; exact h2)
            | _ => simp [q3, q4] at e3
      | _ => simp [q] at e1
  | _ => cases e1
def dropD (kvs : List (Key × D)) (k : Key) : List (Key × D) := kvs.filter fun kv => decide (kv.1 ≠ k)
theorem drop_rel {G : Gm} {H : Hp} {m : List Addr} {k : Key} : ∀ {ds : List (Key × D)} {vs : List (Key × V)}, RKs G H m ds vs → RKs G H m (dropD ds k) (dropK vs k)
  | _, _, .nil => .nil
  | _, _, @RKs.cons _ _ _ k' d v ds vs r t => by
    unfold dropD dropK
    by_cases h : k' = k
    · rw [List.filter_cons_of_neg (by simp [h]), List.filter_cons_of_neg (by simp [h])]
      exact drop_rel t
    · rw [List.filter_cons_of_pos (by simp [h]), List.filter_cons_of_pos (by simp [h])]
      exact .cons r (drop_rel t)
def eDpop1 (evo evi : Ev) : Ev := fun ρ M => bindO (evo ρ M) fun o M1 => match o with
  | .ref n => match M1[n]? with
    | some (.dK _) => bindO (evi ρ M1) fun i M2 => match M2[n]?, keyD i with
      | some (.dK kvs), some k => (valD kvs k).map fun d => (d, M2.set n (.dK (dropD kvs k)))
      | _, _ => none
    | _ => none
  | _ => none
theorem l_dpop1 {ap cp : Pos} (ho : PE X o (TEof (GX X fa) evo)) (hi : PE X i (TEof (GX X fa) evi)) (hm : M1 X o "pop" ap i cp := by exact ⟨rfl, rfl, rfl, rfl⟩) : PE X (.Call (.Attribute o "pop" ap) [i] [] cp) (TEof (GX X fa) (eDpop1 evo evi)) := by
  refine (pe_dpop1 ho hi hm).imp fun σ H Q ⟨m, M, ρ, d, M', hρ, hM, e, fin⟩ => ?_
  refine te_bind hρ hM e fin fun m1 H1 M1 d1 v hρ1 hM1 rd e1 fin1 p1 x1 => ?_
  cases rd with
  | @ref n a ha =>
    simp only at e1
    cases q : M1[n]? with
    | none => simp [q] at e1
    | some mo =>
      cases mo with
      | dK kvs0 =>
        simp only [q] at e1
        obtain ⟨kws0, g0, _⟩ := hM1.at_ _ _ _ ha q
        refine ⟨a, rfl, .inl ⟨kws0, .inl g0⟩, ?_⟩
        refine te_bind hρ1 hM1 e1 fin1 fun m2 H2 M2 d2 w hρ2 hM2 rd2 e2 fin2 p2 x2 => ?_
        cases q3 : M2[n]? with
        | none => simp [q3] at e2
        | some mo3 =>
          cases q4 : keyD d2 with
          | none => cases mo3 <;> simp [q3, q4] at e2
          | some key =>
            cases mo3 with
            | dK kvs =>
              simp only [q3, q4] at e2
              cases q5 : valD kvs key with
              | none => rw [q5] at e2; cases e2
              | some dv =>
                rw [q5] at e2
                cases e2
                have ha2 := pre_get p2 ha
                obtain ⟨kws, g1, g2⟩ := hM2.at_ _ _ _ ha2 q3
                have ew := keyD_rel rd2 q4
                subst ew
                obtain ⟨y, h1, h2⟩ := (valD_rel (k := key) g2).2 _ q5
                have mu : Mut (H2 a) := by rw [g1]; trivial
                refine ⟨kws, key, y, g1, rfl, h1, ?_⟩
                exact fin2 m2 _ (List.prefix_refl _) (Ext.write mu) (hM2.set ha2 q3 rfl rfl ⟨_, upd_same, (drop_rel g2).mono (List.prefix_refl _) (Ext.write mu)⟩) _ (h2.mono (List.prefix_refl _) (Ext.write mu))
            | _ => simp [q3, q4] at e2
      | _ => simp [q] at e1
  | _ => cases e1
end
end Mi
set_option Elab.async false
set_option linter.all false
set_option maxRecDepth 100000
/-! dicts gone over: locks, items, values, keys; list(d.items()), dict(pairs) -/
namespace Mi
open PySem PySem.Spec PyProof.Rows L2
def kD : Key → D
  | .inl i => .int i
  | .inr s => .str s
theorem kD_rel {G : Gm} {H : Hp} {m : List Addr} (k : Key) : RD G H m (kD k) (kV k) := by
  cases k with
  | inl i => exact .int i
  | inr s => exact .str s
theorem RKs.get {G : Gm} {H : Hp} {m : List Addr} : ∀ {ds : List (Key × D)} {vs : List (Key × V)} {i : Nat} {k : Key} {d : D}, RKs G H m ds vs → ds[i]? = some (k, d) → ∃ v, vs[i]? = some (k, v) ∧ RD G H m d v
  | _, _, _, _, _, .nil, e => by simp at e
  | _, _, 0, _, _, .cons r _, e => by simp at e; obtain ⟨rfl, rfl⟩ := e; exact ⟨_, rfl, r⟩
  | _, _, i + 1, _, _, .cons _ t, e => by simpa using RKs.get (i := i) t (by simpa using e)
theorem lock_in {G : Gm} {H : Hp} {m : List Addr} {M : Mem} {n : Nat} {a : Addr} {kvs : List (Key × D)} (hM : RM G H m M) (ea : m[n]? = some a) (q : M[n]? = some (.dK kvs)) :
    ∃ kws, H a = some (.dK kws) ∧ ∀ od, RM G (upd H a (.frz od (.dK kws))) m (M.set n (.fdK kvs)) ∧ Ext G H (upd H a (.frz od (.dK kws))) := by
  obtain ⟨kws, g1, g2⟩ := hM.at_ _ _ _ ea q
  have mu : Mut (H a) := by rw [g1]; trivial
  refine ⟨kws, g1, fun od => ⟨?_, Ext.write mu⟩⟩
  exact hM.swap ea q rfl rfl (Ext.write mu).t (fun ob xs z => by rw [g1] at z; cases z) ⟨od, kws, upd_same, g2.mono (List.prefix_refl _) (Ext.write mu)⟩
theorem lock_out {G : Gm} {H H' : Hp} {m' : List Addr} {M2 : Mem} {n : Nat} {a : Addr} {od : Obj} {kws : List (Key × V)} {kvs2 : List (Key × D)} (h0 : H a = some (.dK kws)) (x : Ext G (upd H a (.frz od (.dK kws))) H') (x0 : Ext G H (upd H a (.frz od (.dK kws)))) (hM : RM G H' m' M2) (ea : m'[n]? = some a) (q : M2[n]? = some (.fdK kvs2)) :
    H' a = some (.frz od (.dK kws)) ∧ RM G (upd H' a (.dK kws)) m' (M2.set n (.dK kvs2)) ∧ ExT G H' (upd H' a (.dK kws)) ∧ Ext G H (upd H' a (.dK kws)) := by
  have e1 : H' a = some (.frz od (.dK kws)) := x.z _ _ _ upd_same
  obtain ⟨ob, kws', g1, g2⟩ := hM.at_ _ _ _ ea q
  rw [e1] at g1
  cases g1
  have xt : ExT G H' (upd H' a (.dK kws)) := ExT.at_ (fun xs z => by rw [e1] at z; cases z) (fun ob xs z => by rw [e1] at z; cases z)
  refine ⟨e1, ?_, xt, ⟨fun b xs s => xt _ _ (x.t _ _ (x0.t _ _ s)), fun b ob u s => ?_⟩⟩
  · exact hM.swap ea q rfl rfl xt (fun ob xs z => by rw [e1] at z; cases z) ⟨kws, upd_same, g2.monoT (List.prefix_refl _) xt⟩
  · have hb : b ≠ a := fun z => by rw [z, h0] at s; cases s
    rw [upd_ne hb]
    exact x.z _ _ _ (by rw [upd_ne hb]; exact s)
section
variable {X : Cx} {fa : Nat → Addr} {a b c e o i : Expr} {eva evb evc evo evi who ev : Ev} {pos p : Pos} {es : List Expr} {apos cpos : Pos}
def eLock (who ev : Ev) : Ev := fun ρ M => match who ρ M with
  | some (.ref n, _) => match M[n]? with
    | some (.dK kvs) => match ev ρ (M.set n (.fdK kvs)) with
      | some (d, M2) => match M2[n]? with
        | some (.fdK kvs2) => some (d, M2.set n (.dK kvs2))
        | _ => none
      | none => none
    | _ => none
  | _ => none
theorem eLock_inv {ev : Ev} {ρ : Loc} {M M' : Mem} {d : D} (e : eLock who ev ρ M = some (d, M')) : ∃ n kvs M2 kvs2, M[n]? = some (.dK kvs) ∧ ev ρ (M.set n (.fdK kvs)) = some (d, M2) ∧ M2[n]? = some (.fdK kvs2) ∧ M' = M2.set n (.dK kvs2) := by
  unfold eLock at e
  split at e
  · split at e
    · rename_i n M1 q1 kvs q2
      split at e
      · rename_i d2 M2 q3
        split at e
        · rename_i kvs2 q4
          cases e
          exact ⟨_, _, _, _, q2, q3, q4, rfl⟩
        · cases e
      · cases e
    · cases e
  · cases e
theorem l_lockE (who : Ev) (h : PE X e (TEof (GX X fa) ev)) : PE X e (TEof (GX X fa) (eLock who ev)) := by
  refine (pe_lock h).imp fun σ H Q ⟨m, M, ρ, d, M', hρ, hM, e, fin⟩ => ?_
  obtain ⟨n, kvs, M2, kvs2, q1, q2, q3, rfl⟩ := eLock_inv e
  obtain ⟨a, ha, _⟩ := hM.addr q1
  obtain ⟨kws, h0, h1⟩ := lock_in hM ha q1
  refine ⟨a, _, h0, trivial, fun od => ?_⟩
  obtain ⟨h2, x0⟩ := h1 od
  refine ⟨m, M.set n (.fdK kvs), ρ, d, M2, hρ.mono (List.prefix_refl _) x0, h2, q2, fun m' H' pm xm hM' v rd => ?_⟩
  obtain ⟨k1, k2, k3, k4⟩ := lock_out h0 xm x0 hM' (pre_get pm ha) q3
  exact ⟨k1, fin m' _ pm k4 k2 v (rd.monoT (List.prefix_refl _) k3)⟩
def sLock (who : Ev) (ev : Es) : Es := fun ρ M => match who ρ M with
  | some (.ref n, _) => match M[n]? with
    | some (.dK kvs) => match ev ρ (M.set n (.fdK kvs)) with
      | some (d, M2) => match M2[n]? with
        | some (.fdK kvs2) => some (d, M2.set n (.dK kvs2))
        | _ => none
      | none => none
    | _ => none
  | _ => none
theorem sLock_inv {ev : Es} {ρ : Loc} {M M' : Mem} {d : Fl} (e : sLock who ev ρ M = some (d, M')) : ∃ n kvs M2 kvs2, M[n]? = some (.dK kvs) ∧ ev ρ (M.set n (.fdK kvs)) = some (d, M2) ∧ M2[n]? = some (.fdK kvs2) ∧ M' = M2.set n (.dK kvs2) := by
  unfold sLock at e
  split at e
  · split at e
    · rename_i n M1 q1 kvs q2
      split at e
      · rename_i d2 M2 q3
        split at e
        · rename_i kvs2 q4
          cases e
          exact ⟨_, _, _, _, q2, q3, q4, rfl⟩
        · cases e
      · cases e
    · cases e
  · cases e
theorem l_lockS (who : Ev) {st : Stmt} {ev : Es} (h : PS X st (TSof (GX X fa) ev)) : PS X st (TSof (GX X fa) (sLock who ev)) := by
  refine (ps_lock h).imp fun D σ H ⟨m, M, ρ, d, M', hρ, hM, e, fin⟩ => ?_
  obtain ⟨n, kvs, M2, kvs2, q1, q2, q3, rfl⟩ := sLock_inv e
  obtain ⟨a, ha, _⟩ := hM.addr q1
  obtain ⟨kws, h0, h1⟩ := lock_in hM ha q1
  refine ⟨a, _, h0, trivial, fun od => ?_⟩
  obtain ⟨h2, x0⟩ := h1 od
  refine ⟨m, M.set n (.fdK kvs), ρ, d, M2, hρ.mono (List.prefix_refl _) x0, h2, q2, fun m' H' pm xm hM' => ?_⟩
  obtain ⟨k1, k2, k3, k4⟩ := lock_out h0 xm x0 hM' (pre_get pm ha) q3
  have f := fin m' _ pm k4 k2
  cases d with
  | next ρ' => exact fun σ' hρ' => ⟨k1, f σ' (hρ'.monoT (List.prefix_refl _) k3)⟩
  | ret d => exact fun v rd => ⟨k1, f v (rd.monoT (List.prefix_refl _) k3)⟩
  | brk ρ' => exact fun σ' hρ' => ⟨k1, f σ' (hρ'.monoT (List.prefix_refl _) k3)⟩
  | cont ρ' => exact fun σ' hρ' => ⟨k1, f σ' (hρ'.monoT (List.prefix_refl _) k3)⟩
/-! what is walked -/
def fdAt (M : Mem) (n : Nat) : Option (List (Key × D)) := match M[n]? with
  | some (.fdK kvs) => some kvs
  | _ => none
theorem fdAt_inv {M : Mem} {n : Nat} {kvs : List (Key × D)} (e : fdAt M n = some kvs) : M[n]? = some (.fdK kvs) := by
  unfold fdAt at e
  split at e
  · rename_i q; cases e; exact q
  · cases e
def iDict (f : Key × D → D) (ev : Ev) : EvI := fun ρ M => bindO (ev ρ M) fun d M1 => match d with
  | .ref n => if (fdAt M1 n).isSome then some ((fun M2 => (fdAt M2 n).map fun kvs => kvs.map f), M1) else none
  | _ => none
def fItem : Key × D → D := fun kv => .tup [kD kv.1, kv.2]
def fVal : Key × D → D := fun kv => kv.2
def fKey : Key × D → D := fun kv => kD kv.1
theorem iDict_inv {f : Key × D → D} {ρ : Loc} {M M' : Mem} {get : Src} (n : Nat) (e : (if (fdAt M n).isSome then some ((fun M2 => (fdAt M2 n).map fun kvs => kvs.map f), M) else none) = some (get, M')) : (∃ kvs, M[n]? = some (.fdK kvs)) ∧ get = (fun M2 => (fdAt M2 n).map fun kvs => kvs.map f) ∧ M' = M := by
  split at e
  · rename_i h
    cases e
    obtain ⟨kvs, hk⟩ := Option.isSome_iff_exists.mp h
    exact ⟨⟨kvs, fdAt_inv hk⟩, rfl, rfl⟩
  · cases e
theorem fd_here {G : Gm} {H H2 : Hp} {m2 : List Addr} {M2 : Mem} {n : Nat} {a : Addr} {ob : Obj} {kws : List (Key × V)} {f : Key × D → D} {xs : List D} (h : H a = some (.frz ob (.dK kws))) (xm : Ext G H H2) (ha : m2[n]? = some a) (hM : RM G H2 m2 M2) (e : ((fdAt M2 n).map fun kvs => kvs.map f) = some xs) :
    H2 a = some (.frz ob (.dK kws)) ∧ ∃ kvs, xs = kvs.map f ∧ RKs G H2 m2 kvs kws := by
  have e1 := xm.z _ _ _ h
  cases q : fdAt M2 n with
  | none => rw [q] at e; cases e
  | some kvs =>
    rw [q] at e
    cases e
    obtain ⟨ob', kws', g1, g2⟩ := hM.at_ _ _ _ ha (fdAt_inv q)
    rw [e1] at g1
    cases g1
    exact ⟨e1, kvs, rfl, g2⟩
theorem l_iitems {elts : List Expr} {kk : Nat} {tpos : Pos} (he : PE X e (TEof (GX X fa) ev)) (hbase : attributeBase e "items" X.env (eval e X.env) = eval e X.env := by rfl) (hline : (apos.endLine == cpos.line) = true := by rfl) :
    PI X (.Tuple elts kk tpos) (.Call (.Attribute e "items" apos) [] [] cpos) (TIof (GX X fa) (iDict fItem ev)) := by
  refine PI.imp (pi_items he hbase hline) fun σ H Rk ⟨m, M, ρ, get, M', hρ, hM, e, fin⟩ => ?_
  refine te_bind hρ hM e fin fun m1 H1 M1 d1 v hρ1 hM1 rd e1 fin1 p1 x1 => ?_
  cases rd with
  | @ref n a ha =>
    obtain ⟨⟨kvs, q⟩, rfl, rfl⟩ := iDict_inv (ρ := ρ) n e1
    obtain ⟨ob, kws, g1, g2⟩ := hM1.at_ _ _ _ ha q
    refine ⟨a, ob, kws, rfl, g1, fin1.here hM1 _ fun i H2 m2 M2 xs pm xm hM2 hx => ?_⟩
    obtain ⟨k1, kvs2, rfl, k2⟩ := fd_here g1 xm (pre_get pm ha) hM2 hx
    refine ⟨fun hn => ⟨k1, ?_⟩, fun d hd => ?_⟩
    · rw [List.getElem?_map, Option.map_eq_none_iff] at hn
      rw [← k2.length]
      exact List.getElem?_eq_none_iff.mp hn
    · rw [List.getElem?_map, Option.map_eq_some_iff] at hd
      obtain ⟨⟨k, dv⟩, hk, rfl⟩ := hd
      obtain ⟨v, hv, rv⟩ := k2.get hk
      refine ⟨⟨k1, (List.getElem?_eq_some_iff.mp hv).1⟩, fun x H3 ⟨T, k', v', y1, y2, y3, y4⟩ => ?_⟩
      rw [hv] at y1
      cases y1
      subst y2 y4
      exact ⟨Ext.new y3, hM2.new y3, .tup (.inl (.inl upd_same)) (.cons (kD_rel k) (.cons (rv.mono (List.prefix_refl _) (Ext.new y3)) .nil))⟩
  | _ => cases e1
theorem l_ivals {tg : Expr} (he : PE X e (TEof (GX X fa) ev)) (hbase : attributeBase e "values" X.env (eval e X.env) = eval e X.env := by rfl) (hline : (apos.endLine == cpos.line) = true := by rfl) :
    PI X tg (.Call (.Attribute e "values" apos) [] [] cpos) (TIof (GX X fa) (iDict fVal ev)) := by
  refine PI.imp (pi_values he hbase hline) fun σ H Rk ⟨m, M, ρ, get, M', hρ, hM, e, fin⟩ => ?_
  refine te_bind hρ hM e fin fun m1 H1 M1 d1 v hρ1 hM1 rd e1 fin1 p1 x1 => ?_
  cases rd with
  | @ref n a ha =>
    obtain ⟨⟨kvs, q⟩, rfl, rfl⟩ := iDict_inv (ρ := ρ) n e1
    obtain ⟨ob, kws, g1, g2⟩ := hM1.at_ _ _ _ ha q
    refine ⟨a, ob, kws, rfl, g1, fin1.here hM1 _ fun i H2 m2 M2 xs pm xm hM2 hx => ?_⟩
    obtain ⟨k1, kvs2, rfl, k2⟩ := fd_here g1 xm (pre_get pm ha) hM2 hx
    refine ⟨fun hn => ⟨k1, ?_⟩, fun d hd => ?_⟩
    · rw [List.getElem?_map, Option.map_eq_none_iff] at hn
      rw [← k2.length]
      exact List.getElem?_eq_none_iff.mp hn
    · rw [List.getElem?_map, Option.map_eq_some_iff] at hd
      obtain ⟨⟨k, dv⟩, hk, rfl⟩ := hd
      obtain ⟨v, hv, rv⟩ := k2.get hk
      refine ⟨⟨k1, (List.getElem?_eq_some_iff.mp hv).1⟩, fun x H3 ⟨y0, k', y1⟩ => ?_⟩
      subst y0
      rw [hv] at y1
      cases y1
      exact ⟨Ext.refl, hM2, rv⟩
  | _ => cases e1
theorem wk_keys {G : Gm} {m1 : List Addr} {H1 : Hp} {n : Nat} {a : Addr} {ob : Obj} {kws : List (Key × V)} (ha : m1[n]? = some a) (g1 : H1 a = some (.frz ob (.dK kws))) : Wk G (Itk a ob kws) m1 H1 (fun M2 => (fdAt M2 n).map fun kvs => kvs.map fKey) := fun i H2 m2 M2 xs pm xm hM2 hx => by
  obtain ⟨k1, kvs2, rfl, k2⟩ := fd_here g1 xm (pre_get pm ha) hM2 hx
  refine ⟨fun hn => ⟨k1, ?_⟩, fun d hd => ?_⟩
  · rw [List.getElem?_map, Option.map_eq_none_iff] at hn
    rw [← k2.length]
    exact List.getElem?_eq_none_iff.mp hn
  · rw [List.getElem?_map, Option.map_eq_some_iff] at hd
    obtain ⟨⟨k, dv⟩, hk, rfl⟩ := hd
    obtain ⟨v, hv, rv⟩ := k2.get hk
    refine ⟨⟨k1, (List.getElem?_eq_some_iff.mp hv).1⟩, fun x H3 ⟨y0, k', v', y1, y2⟩ => ?_⟩
    subst y0 y2
    rw [hv] at y1
    cases y1
    exact ⟨Ext.refl, hM2, kD_rel k⟩
theorem l_ikeysM {tg : Expr} (he : PE X e (TEof (GX X fa) ev)) (hbase : attributeBase e "keys" X.env (eval e X.env) = eval e X.env := by rfl) (hline : (apos.endLine == cpos.line) = true := by rfl) :
    PI X tg (.Call (.Attribute e "keys" apos) [] [] cpos) (TIof (GX X fa) (iDict fKey ev)) := by
  refine PI.imp (pi_keysM he hbase hline) fun σ H Rk ⟨m, M, ρ, get, M', hρ, hM, e, fin⟩ => ?_
  refine te_bind hρ hM e fin fun m1 H1 M1 d1 v hρ1 hM1 rd e1 fin1 p1 x1 => ?_
  cases rd with
  | @ref n a ha =>
    obtain ⟨⟨kvs, q⟩, rfl, rfl⟩ := iDict_inv (ρ := ρ) n e1
    obtain ⟨ob, kws, g1, g2⟩ := hM1.at_ _ _ _ ha q
    exact ⟨a, ob, kws, rfl, g1, fin1.here hM1 _ (wk_keys ha g1)⟩
  | _ => cases e1
theorem l_ikeys {tg : Expr} (he : PE X e (TEof (GX X fa) ev)) : PI X tg e (TIof (GX X fa) (iDict fKey ev)) := by
  refine PI.imp (pi_keys he) fun σ H Rk ⟨m, M, ρ, get, M', hρ, hM, e, fin⟩ => ?_
  refine te_bind hρ hM e fin fun m1 H1 M1 d1 v hρ1 hM1 rd e1 fin1 p1 x1 => ?_
  cases rd with
  | @ref n a ha =>
    obtain ⟨⟨kvs, q⟩, rfl, rfl⟩ := iDict_inv (ρ := ρ) n e1
    obtain ⟨ob, kws, g1, g2⟩ := hM1.at_ _ _ _ ha q
    exact ⟨a, ob, rfl, .inl ⟨kws, g1, fin1.here hM1 _ (wk_keys ha g1)⟩⟩
  | _ => cases e1
end
end Mi
set_option Elab.async false
set_option linter.all false
set_option maxRecDepth 100000
/-! dict(pairs), list(d.items()) -/
namespace Mi
open PySem PySem.Spec PyProof.Rows L2
/-- pairs (k, v) of a list of tuples -/
def pairsOf : List D → Option (List (Key × D))
  | [] => some []
  | .tup [k, v] :: ds => match keyD k, pairsOf ds with
    | some key, some r => some ((key, v) :: r)
    | _, _ => none
  | _ :: _ => none
def mergeD (kvs more : List (Key × D)) : List (Key × D) := more.foldl (fun acc kv => putD acc kv.1 kv.2) kvs
theorem merge_rel {G : Gm} {H : Hp} {m : List Addr} : ∀ {more : List (Key × D)} {mv : List (Key × V)} {kvs : List (Key × D)} {vs : List (Key × V)}, RKs G H m more mv → RKs G H m kvs vs → RKs G H m (mergeD kvs more) (mergeK vs mv)
  | _, _, _, _, .nil, q => q
  | _, _, kvs, vs, @RKs.cons _ _ _ k d v ds ws r t, q => merge_rel (kvs := putD kvs k d) (vs := putK vs k v) t (put_rel r q)
theorem pairs_rel {G : Gm} {H : Hp} {m : List Addr} : ∀ {ds : List D} {vs : List V} {kds : List (Key × D)}, RDs G H m ds vs → pairsOf ds = some kds →
    ∃ (ps : List Addr) (kvs : List (Key × V)), vs = ps.map V.ref ∧ Paired (fun p (kv : Key × V) => SqT G.K H p [kV kv.1, kv.2]) ps kvs ∧ RKs G H m kds kvs
  | [], _, _, .nil, e => by cases e; exact ⟨[], [], rfl, .nil, .nil⟩
  | d :: ds, _, kds, .cons r t, e => by
    unfold pairsOf at e
    split at e
    · rename_i z; cases z
    · rename_i k v ds' z
      cases z
      cases q1 : keyD k with
      | none => rw [q1] at e; cases e
      | some key =>
        cases q2 : pairsOf ds with
        | none => rw [q1, q2] at e; cases e
        | some rest =>
          rw [q1, q2] at e
          cases e
          obtain ⟨ps, kvs, e1, e2, e3⟩ := pairs_rel t q2
          cases r with
          | @tup a _ vs ha rds =>
            cases rds with
            | cons r1 t1 =>
              cases t1 with
              | cons r2 t2 =>
                cases t2
                have ek := keyD_rel r1 q1
                subst ek
                exact ⟨a :: ps, (key, _) :: kvs, by rw [e1]; rfl, .cons ha e2, .cons r2 e3⟩
    · cases e
section
variable {X : Cx} {fa : Nat → Addr} {a b c e o i : Expr} {eva evb evc evo evi who ev : Ev} {pos p : Pos} {es : List Expr} {apos cpos : Pos}
def rDictP (K : PySem.W.Frag) : List V → Hp → VK → Prop := fun xs H Q => ∃ (a : Addr) (ps : List Addr) (kvs : List (Key × V)), xs = [.ref a] ∧ SqL K H a (ps.map V.ref) ∧ Paired (fun p kv => SqT K H p [kV kv.1, kv.2]) ps kvs ∧ ∀ p, H p = none → Q (.ref p) (upd H p (.dK (mergeK [] kvs)))
def fDict : List D → Mem → R D := fun ds M => match ds with
  | [.ref n] => match lstAt M n with
    | some xs => match pairsOf xs with
      | some kds => some (.ref M.length, M ++ [.dK (mergeD [] kds)])
      | none => none
    | none => none
  | _ => none
theorem cs_dictP : CaS (GX X fa) fDict (rDictP X.K) := fun m H M xs ds d M' Q hM r e k => by
  unfold fDict at e
  split at e
  · rename_i n
    cases q1 : lstAt M n with
    | none => rw [q1] at e; cases e
    | some ys =>
      rw [q1] at e
      simp only at e
      cases q2 : pairsOf ys with
      | none => rw [q2] at e; cases e
      | some kds =>
        rw [q2] at e
        simp only at e
        cases e
        obtain ⟨v, rfl, rv⟩ := one_of r
        cases rv with
        | @ref _ a ha =>
          obtain ⟨vs, hs, rds⟩ := hM.lstAt q1 ha
          obtain ⟨ps, kvs, rfl, e2, e3⟩ := pairs_rel rds q2
          exact ⟨a, ps, kvs, rfl, hs, e2, fun p hp => fin_push k hM hp ⟨_, upd_same, (merge_rel e3 .nil).mono (List.prefix_append _ _) (Ext.new hp)⟩ _ (ref_last hM)⟩
  · cases e
/-! an object more, and other new ones -/
theorem RM.pushA {G : Gm} {H H' : Hp} {m : List Addr} {M : Mem} {p : Addr} {o : MO} (h : RM G H m M) (hp : H p = none) (hk : ∀ b u, H b = some u → H' b = some u) (hx : Ext G H H') (r : RO G H' (m ++ [p]) p o) : RM G H' (m ++ [p]) (M ++ [o]) := by
  have split : ∀ (n : Nat) (a : Addr) (ob : MO), (m ++ [p])[n]? = some a → (M ++ [o])[n]? = some ob → (m[n]? = some a ∧ M[n]? = some ob) ∨ (n = m.length ∧ a = p ∧ ob = o) := fun n a ob e1 e2 => by
    by_cases hn : n < m.length
    · rw [List.getElem?_append_left hn] at e1
      rw [List.getElem?_append_left (by rw [← h.len]; exact hn)] at e2
      exact .inl ⟨e1, e2⟩
    · have hl : n < (m ++ [p]).length := (List.getElem?_eq_some_iff.mp e1).1
      rw [List.length_append, List.length_singleton] at hl
      have en : n = m.length := by omega
      subst en
      rw [List.getElem?_append_right (Nat.le_refl _), Nat.sub_self] at e1
      rw [List.getElem?_append_right (by rw [h.len]; exact Nat.le_refl _), h.len, Nat.sub_self] at e2
      simp only [List.getElem?_cons_zero, Option.some.injEq] at e1 e2
      exact .inr ⟨rfl, e1.symm, e2.symm⟩
  refine ⟨by rw [List.length_append, List.length_append, h.len, List.length_singleton, List.length_singleton], fun i j a u v e1 e2 f1 f2 mu mv => ?_, fun n a ob e1 e2 => ?_⟩
  · rcases split i a u e1 f1 with ⟨x1, x2⟩ | ⟨x1, x2, x3⟩
    · rcases split j a v e2 f2 with ⟨y1, y2⟩ | ⟨y1, y2, y3⟩
      · exact h.nd i j a u v x1 y1 x2 y2 mu mv
      · subst y2
        exact absurd hp ((h.at_ i a u x1 x2).ownH mu)
    · rcases split j a v e2 f2 with ⟨y1, y2⟩ | ⟨y1, y2, y3⟩
      · subst x2
        exact absurd hp ((h.at_ j a v y1 y2).ownH mv)
      · rw [x1, y1]
  · rcases split n a ob e1 e2 with ⟨x1, x2⟩ | ⟨x1, x2, x3⟩
    · refine (h.at_ n a ob x1 x2).stay (List.prefix_append _ _) hx fun q => ?_
      cases z : H a with
      | none => exact absurd z q
      | some u => exact hk a u z
    · subst x2 x3
      exact r
theorem Ext.grow {G : Gm} {H H' : Hp} (hk : ∀ b u, H b = some u → H' b = some u) : Ext G H H' := ⟨fun a xs q => by
  rcases q with (q | ⟨ob, q⟩) | q
  · exact .inl (.inl (hk _ _ q))
  · exact .inl (.inr ⟨ob, hk _ _ q⟩)
  · exact .inr q, fun a ob u q => hk _ _ q⟩
/-- the pairs of a dict, laid as tuples -/
theorem items_rel {G : Gm} {H H' : Hp} {m m' : List Addr} (pm : m <+: m') (hx : Ext G H H') : ∀ {kds : List (Key × D)} {kvs : List (Key × V)} {ts : List Addr}, RKs G H m kds kvs → Paired (fun (t : Addr) (q : Key × V) => H' t = some (.tup [kV q.1, q.2])) ts kvs → RDs G H' m' (kds.map fItem) (ts.map V.ref)
  | _, _, _, .nil, .nil => .nil
  | _, _, _, .cons r t, .cons e s => .cons (.tup (.inl (.inl e)) (.cons (kD_rel _) (.cons (r.mono pm hx) .nil))) (items_rel pm hx t s)
/-- list(d.items()) -/
def e_listItems (ev : Ev) : Ev := fun ρ M => bindO (ev ρ M) fun d M1 => match d with
  | .ref n => match M1[n]? with
    | some (.dK kvs) => some (.ref M1.length, M1 ++ [.lst (kvs.map fItem)])
    | _ => none
  | _ => none
theorem l_listItems (hm : X.mg "list" = none) (he : PE X e (TEof (GX X fa) ev)) (hc : X.calm = true := by rfl) (hg : Gl X "list" := by rfl) (hbase : attributeBase e "items" X.env (eval e X.env) = eval e X.env := by rfl) (hline : (apos.endLine == cpos.line) = true := by rfl)
    (hs : starEach [.Call (.Attribute e "items" apos) [] [] cpos] X.env = (false, eval (.Call (.Attribute e "items" apos) [] [] cpos) X.env) :: starEach [] X.env := by rfl) :
    PE X (.Call (.Name "list" p) [.Call (.Attribute e "items" apos) [] [] cpos] [] pos) (TEof (GX X fa) (e_listItems ev)) := by
  refine (LiI.pe_listItems hc he hg hm boot_list hbase hline hs).imp fun σ H Q ⟨m, M, ρ, d, M', hρ, hM, e, fin⟩ => ?_
  refine te_bind hρ hM e fin fun m1 H1 M1 d1 v hρ1 hM1 rd e1 fin1 p1 x1 => ?_
  cases rd with
  | @ref n a ha =>
    simp only at e1
    split at e1
    · rename_i kvs q
      cases e1
      obtain ⟨kws, g1, g2⟩ := hM1.at_ _ _ _ ha q
      refine ⟨a, kws, rfl, g1, fun H' p ts hk hp _ _ h1 h2 => ?_⟩
      have hx : Ext (GX X fa) H1 H' := Ext.grow hk
      exact fin1 _ _ (List.prefix_append _ _) hx (hM1.pushA hp hk hx ⟨_, h1, items_rel (List.prefix_append _ _) hx g2 h2⟩) _ (ref_last hM1)
    · cases e1
  | _ => cases e1
end
end Mi
set_option Elab.async false
set_option linter.all false
set_option maxRecDepth 100000
/-! list(d.values()), list(d.keys()), list(d), sorted(d.items()) -/
namespace Mi
open PySem PySem.Spec PyProof.Rows L2
section
variable {X : Cx} {fa : Nat → Addr} {a b c e o i : Expr} {eva evb evc evo evi who ev : Ev} {pos p : Pos} {es : List Expr} {apos cpos : Pos} {te : TE}
def tListVals (te : TE) : TE := fun σ H Q => te σ H fun x H1 => ∃ (d : Addr) (kvs : List (Key × V)), x = .ref d ∧ H1 d = some (.dK kvs) ∧ ∀ p, H1 p = none → Q (.ref p) (upd H1 p (.lst (kvs.map (·.2))))
theorem pe_listVals (hc : X.calm = true) (he : PE X e te) (hg : Gl X "list") (hm : X.mg "list" = none) (hv : bootBuiltins "list" = some (.type "list")) (hbase : attributeBase e "values" X.env (eval e X.env) = eval e X.env := by rfl) (hline : (apos.endLine == cpos.line) = true := by rfl)
    (hs : starEach [.Call (.Attribute e "values" apos) [] [] cpos] X.env = (false, eval (.Call (.Attribute e "values" apos) [] [] cpos) X.env) :: starEach [] X.env := by rfl) :
    PE X (.Call (.Name "list" p) [.Call (.Attribute e "values" apos) [] [] cpos] [] pos) (tListVals te) := by
  refine ⟨fun pins s σ H Q I hq => ?_⟩
  refine wpAny_Call_Name_kw (ld_blt I hg hm hv ?_)
  refine PyProof.Rows.callWith_type1 ?_ hs rfl
  rw [hs]
  show wpAny _ _ (spliced ((false, eval (.Call (.Attribute e "values" apos) [] [] cpos) X.env) :: backTo pos (starEach [] X.env))) _ _ s
  refine Calls.spliced_cons ?_
  refine wpAny_Call_method (T := "dict") (id := "dict.values") hbase rfl hline F.plainAttrs_dict F.slot_dict_values F.type_dict_values (thn (he.run pins s σ H _ I hq) fun u s1 ⟨x, H1, I1, rx, d, kvs, ex, hd, q⟩ => ?_)
  subst ex
  obtain rfl : u = Value.ref d := rx
  obtain ⟨hz, hs0, vs, kv, hdo⟩ := I1.hok d _ hd
  obtain ⟨ep, hat⟩ := hdo.dictAt
  have lk : kvs.length = vs.length := Paired.length kv
  have I2 : Inv X pins σ H1 { s1 with heap := s1.heap.push { cls := .type "dict_values", data := .fields #[.ref d] } } := I1.kept (t' := s1.toks) fun b ob q => Heap.get?_push_of_some _ q
  refine ⟨hdo.typeIs, hdo.mapOf.noDict, ?_⟩
  show wpAny _ _ (callWith cpos (.builtin "dict.values") [.ref d] [] []) _ X.xe s1
  refine method_meetsIn F.slot_dict_values F.entry_dict_values rfl (PySem.evalArgs_none ⟨rfl, hdo.typeIs, F.args_dict_values_1 _, _, meets_dict_values (mixKind X.prog X.w) d hs0, ⟨vs, hdo⟩, ?_⟩)
  refine Calls.spliced_nil ?_
  refine PySem.W.kdl_call (PySem.W.kdl_values (knd := mixKind X.prog X.w) (kvs := vs) (ep := ep) (r := s1.heap.objs.size) (d := d)) (I1.ok.hd hc) ⟨⟨_, Heap.get?_push_size _ rfl, rfl, rfl⟩, hat.push _⟩ (by rw [← lk]; exact hz) fun h' tk acc' c' hkeep hS hacc => ?_
  refine ⟨.ref _, _, I2.laid (o := .lst (kvs.map (·.2))) hkeep (Nat.le_refl _) (show ObjOk X.prog X.w _ _ _ (.lst (kvs.map (·.2))) from ⟨?_, acc'.toList, c', ?_, ?_⟩), rfl, q _ (I2.hok.fresh (Nat.le_refl _))⟩
  · rw [List.length_map]; exact hz
  · have el : acc'.toList.length = acc'.size := by simp
    refine vals_of_at (by rw [List.length_map, el, hacc.1, lk]) fun j x w h1 h2 => ?_
    obtain ⟨k, hky⟩ := hacc.2 j w (by rw [← Array.getElem?_toList]; exact h2)
    rw [List.getElem?_map, Option.map_eq_some_iff] at h1
    obtain ⟨kx, h1, rfl⟩ := h1
    obtain ⟨qv, g1, g2, g3⟩ := LiI.paired_get kv h1
    rw [hky] at g1
    cases g1
    exact g3
  · rw [Array.toArray_toList]; exact hS
/-- list(d.values()) -/
def e_listValues (ev : Ev) : Ev := fun ρ M => bindO (ev ρ M) fun d M1 => match d with
  | .ref n => match M1[n]? with
    | some (.dK kvs) => some (.ref M1.length, M1 ++ [.lst (kvs.map fVal)])
    | _ => none
  | _ => none
theorem vals_rel {G : Gm} {H : Hp} {m : List Addr} : ∀ {kds : List (Key × D)} {kvs : List (Key × V)}, RKs G H m kds kvs → RDs G H m (kds.map fVal) (kvs.map (·.2))
  | _, _, .nil => .nil
  | _, _, .cons r t => .cons r (vals_rel t)
theorem l_listValues (hm : X.mg "list" = none) (he : PE X e (TEof (GX X fa) ev)) (hc : X.calm = true := by rfl) (hg : Gl X "list" := by rfl) (hbase : attributeBase e "values" X.env (eval e X.env) = eval e X.env := by rfl) (hline : (apos.endLine == cpos.line) = true := by rfl)
    (hs : starEach [.Call (.Attribute e "values" apos) [] [] cpos] X.env = (false, eval (.Call (.Attribute e "values" apos) [] [] cpos) X.env) :: starEach [] X.env := by rfl) :
    PE X (.Call (.Name "list" p) [.Call (.Attribute e "values" apos) [] [] cpos] [] pos) (TEof (GX X fa) (e_listValues ev)) := by
  refine (pe_listVals hc he hg hm boot_list hbase hline hs).imp fun σ H Q ⟨m, M, ρ, d, M', hρ, hM, e, fin⟩ => ?_
  refine te_bind hρ hM e fin fun m1 H1 M1 d1 v hρ1 hM1 rd e1 fin1 p1 x1 => ?_
  cases rd with
  | @ref n a ha =>
    simp only at e1
    split at e1
    · rename_i kvs q
      cases e1
      obtain ⟨kws, g1, g2⟩ := hM1.at_ _ _ _ ha q
      exact ⟨a, kws, rfl, g1, fun p hp => fin_push fin1 hM1 hp ⟨_, upd_same, (vals_rel g2).mono (List.prefix_append _ _) (Ext.new hp)⟩ _ (ref_last hM1)⟩
    · cases e1
  | _ => cases e1
/-- list(d): the keys -/
def fListD : List D → Mem → R D := fun ds M => match ds with
  | [.ref n] => match M[n]? with
    | some (.dK kvs) => some (.ref M.length, M ++ [.lst (kvs.map fKey)])
    | _ => none
  | _ => none
theorem keys_rel {G : Gm} {H H' : Hp} {m m' : List Addr} : ∀ {kds : List (Key × D)} {kvs : List (Key × V)}, RKs G H m kds kvs → RDs G H' m' (kds.map fKey) (kvs.map fun kv => kV kv.1)
  | _, _, .nil => .nil
  | _, _, .cons r t => .cons (kD_rel _) (keys_rel t)
theorem cs_listD : CaS (GX X fa) fListD rListD := fun m H M xs ds d M' Q hM r e k => by
  unfold fListD at e
  split at e
  · split at e
    · rename_i n kvs q
      cases e
      obtain ⟨v, rfl, rv⟩ := one_of r
      cases rv with
      | @ref _ a ha =>
        obtain ⟨kws, g1, g2⟩ := hM.at_ _ _ _ ha q
        exact ⟨a, kws, rfl, g1, fun p hp => fin_push k hM hp ⟨_, upd_same, keys_rel g2⟩ _ (ref_last hM)⟩
    · cases e
  · cases e
end
end Mi
set_option Elab.async false
set_option linter.all false
set_option maxRecDepth 100000
/-! sorted(d.items()) -/
namespace Mi
open PySem PySem.Spec PyProof.Rows L2
def keyP : Key → PyData
  | .inl i => .int i
  | .inr s => .str s
def pairP {α : Type} (b : (Key × α) × PyData) : PyData := .tuple [keyP b.1.1, b.2]
theorem each_all {β : Type} {P : Value → β → Prop} (f : β → Value) : ∀ {zs : List β}, (∀ z ∈ zs, P (f z) z) → PySem.W.EachIs P (zs.map f) zs
  | [], _ => .nil
  | z :: zs, h => .cons (h z List.mem_cons_self) (each_all f fun y hy => h y (List.mem_cons_of_mem _ hy))
theorem each_fun {β : Type} (f : β → Value) : ∀ {out : List Value} {zs : List β}, PySem.W.EachIs (fun v z => v = f z) out zs → out = zs.map f
  | _, _, .nil => rfl
  | _, _, .cons h t => by rw [h, each_fun f t]; rfl
theorem paired_all {β : Type} {P : Addr → β → Prop} {γ : Type} (g : γ → Addr) (k : γ → β) : ∀ {zs : List γ}, (∀ z ∈ zs, P (g z) (k z)) → Paired P (zs.map g) (zs.map k)
  | [], _ => .nil
  | z :: zs, h => .cons (h z List.mem_cons_self) (paired_all g k fun y hy => h y (List.mem_cons_of_mem _ hy))
section
variable {X : Cx} {fa : Nat → Addr} {a b c e o i : Expr} {eva evb evc evo evi who ev : Ev} {pos p : Pos} {es : List Expr} {apos cpos : Pos} {te : TE}
def tSortItems (K : PySem.W.Frag) (te : TE) : TE := fun σ H Q => te σ H fun x H1 => ∃ (d : Addr) (bs : List ((Key × V) × PyData)), x = .ref d ∧ H1 d = some (.dK (bs.map (·.1))) ∧ (∀ b ∈ bs, Dp K H1 b.1.2 b.2) ∧ okSort (bs.map pairP) = true ∧
  ∀ (H' : Hp) (p : Addr) (ts : List Addr), (∀ b o, H1 b = some o → H' b = some o) → H1 p = none → H' p = some (.lst (ts.map V.ref)) → Paired (fun (t : Addr) (q : Key × V) => H' t = some (.tup [kV q.1, q.2])) ts ((bs.mergeSort (PySem.W.dataLe false pairP)).map (·.1)) → Q (.ref p) H'
theorem kV_reads {h : Heap} {k : Key} {v : Value} (hk : keyIs k v = true) : Reads h v (keyP k) [] := by
  have r := keyIs_rel hk
  cases k with
  | inl i => obtain ⟨t, rfl⟩ := r; exact .int i t
  | inr s => obtain ⟨t, rfl⟩ := r; exact .str s t
theorem pe_sortItems (hu : X.A.units + 70 < cLine) (hc : X.calm = true) (he : PE X e te) (hg : Gl X "sorted") (hm : X.mg "sorted" = none) (hbase : attributeBase e "items" X.env (eval e X.env) = eval e X.env := by rfl) (hline : (apos.endLine == cpos.line) = true := by rfl)
    (hs : starEach [.Call (.Attribute e "items" apos) [] [] cpos] X.env = [(false, eval (.Call (.Attribute e "items" apos) [] [] cpos) X.env)] := by rfl) :
    PE X (.Call (.Name "sorted" p) [.Call (.Attribute e "items" apos) [] [] cpos] [] pos) (tSortItems X.K te) := by
  refine ⟨fun pins s0 σ H Q I0 hq => ?_⟩
  refine wpAny_Call_Name_kw (ld_blt I0 hg hm (u := .builtin "sorted") (by first | rfl | decide +kernel) ?_ (by first | decide +kernel | decide) (by first | decide +kernel | decide))
  rw [hs]
  refine PySem.callWith_builtin1 (wpAny_Call_method0_late hbase hline (thn (he.run pins s0 σ H _ I0 hq) fun v s1 ⟨x, H1, I1, r1, d, bs, ex, hd, hDp, hok, q⟩ => ?_))
  subst ex
  obtain rfl : v = Value.ref d := r1
  obtain ⟨hz, hs0, vs, kv, hdo⟩ := I1.hok d _ hd
  obtain ⟨ep, hat⟩ := hdo.dictAt
  have lk : (bs.map (·.1)).length = vs.length := Paired.length kv
  rw [List.length_map] at lk hz
  have hat' := hat
  obtain ⟨ob, es, ho, hex, hdat, hko, hpr, hnd⟩ := hat'
  refine ⟨"dict", "dict.items", F.plainAttrs_dict, F.slot_dict_items, F.type_dict_items, hdo.typeIs, hdo.mapOf.noDict, Calls.callWith_builtin rfl (PySem.evalArgs_none ?_)⟩
  refine call_meetsIn F.slot_dict_items hdo.typeIs F.entry_dict_items (F.args_dict_items_1 _) (meets_dict_items (mixKind X.prog X.w) d hs0) ⟨⟨vs, hdo⟩, ?_⟩
  have I : Inv X pins σ H1 { s1 with heap := s1.heap.push { cls := .type "dict_items", data := .fields #[.ref d] } } := I1.kept (t' := s1.toks) fun b ob q => Heap.get?_push_of_some _ q
  have hview : (s1.heap.push { cls := .type "dict_items", data := .fields #[.ref d] }).IsItemsView s1.heap.objs.size d := ⟨_, Heap.get?_push_size _ rfl, rfl, rfl⟩
  have hraw : DT.Raw (s1.heap.push { cls := .type "dict_items", data := .fields #[.ref d] }) d es ep := ⟨ob, Heap.get?_push_of_some _ ho, hex, hdat⟩
  generalize hsn : ({ s1 with heap := s1.heap.push { cls := .type "dict_items", data := .fields #[.ref d] } } : Shared) = s at I
  have hsh : s1.heap.push { cls := .type "dict_items", data := .fields #[.ref d] } = s.heap := by rw [← hsn]
  rw [hsh] at hview hraw
  show wpAny (model X.prog X.w) X.A (call (.builtin "sorted") [.ref s1.heap.objs.size]) (EP X pins σ Q) X.xe s
  have hle : es.size = vs.length := by rw [← hpr.length]; simp
  refine DT.sortedI (es := es) (ep := ep) (I.ok.hd hc) hview hraw (by rw [hle, ← lk]; exact hz) fun h' tk as hk hlt hl hG => ?_
  have lab : as.length = bs.length := by omega
  have nd : as.Nodup := List.Pairwise.imp (fun h => Nat.ne_of_lt h) hG.rise
  -- what stands at each place
  have pr : ∀ (j : Nat) (t : Addr), as[j]? = some t → ∃ (b : (Key × V) × PyData) (key x : Value), bs[j]? = some b ∧ keyIs b.1.1 key = true ∧ RelV b.1.2 x ∧ h'.get? t = some { cls := .type "tuple", data := .seq #[key, x] } := by
    intro j t hj
    obtain ⟨en, he', hg'⟩ := hG.pairs j t hj
    have hjl : j < bs.length := by rw [← lab]; exact (List.getElem?_eq_some_iff.mp hj).1
    obtain ⟨b, hb⟩ : ∃ b, bs[j]? = some b := ⟨bs[j], List.getElem?_eq_getElem hjl⟩
    have hb1 : (bs.map (·.1))[j]? = some b.1 := by rw [List.getElem?_map, hb]; rfl
    obtain ⟨qv, g1, g2, g3⟩ := LiI.paired_get kv hb1
    obtain ⟨hkey, hval⟩ := hpr.get? (e := en) (by rw [← he', Array.getElem?_toList]) g1
    refine ⟨b, en.key, en.val, hb, ?_, ?_, hg'⟩
    · rw [g2]; exact hkey
    · rw [hval]; exact g3
  -- the heap of the sort
  have hob : (h'.push { cls := .type "list", data := .seq (as.map Value.ref).toArray }).get? h'.objs.size = some (seqObj "list" (as.map Value.ref).toArray 0) := Heap.get?_push_size _ rfl
  have kb : ∀ b o, s.heap.get? b = some o → (h'.push { cls := .type "list", data := .seq (as.map Value.ref).toArray }).get? b = some o := fun b o e => Heap.get?_push_of_some _ (hk b o e)
  have ne0 : ∀ b o, h'.get? b = some o → b ≠ h'.objs.size := fun b o e => Nat.ne_of_lt (Heap.lt_size e)
  generalize hh2 : h'.push { cls := .type "list", data := .seq (as.map Value.ref).toArray } = h2 at hob kb ⊢
  have ka : ∀ b o, h'.get? b = some o → h2.get? b = some o := fun b o e => by rw [← hh2]; exact Heap.get?_push_of_some _ e
  have zmem : ∀ z ∈ as.zip bs, ∃ j : Nat, as[j]? = some z.1 ∧ bs[j]? = some z.2 := fun z hz => by
    obtain ⟨j, hj⟩ := List.mem_iff_getElem?.mp hz
    exact ⟨j, List.getElem?_zip_eq_some.mp hj⟩
  have zm : as.map Value.ref = (as.zip bs).map fun z => Value.ref z.1 := by
    have e : (as.zip bs).map (·.1) = as := List.map_fst_zip (by omega)
    have e2 : (as.zip bs).map (fun z => Value.ref z.1) = ((as.zip bs).map (·.1)).map Value.ref := by rw [List.map_map]; rfl
    rw [e2, e]
  have zb : (as.zip bs).map (·.2) = bs := List.map_snd_zip (by omega)
  have zd : (as.zip bs).map (fun z => pairP z.2) = bs.map pairP := by
    have e2 : (as.zip bs).map (fun z => pairP z.2) = ((as.zip bs).map (·.2)).map pairP := by rw [List.map_map]; rfl
    rw [e2, zb]
  have hob' := hob
  rw [zm] at hob'
  unfold okSort at hok
  simp only [Bool.and_eq_true] at hok
  obtain ⟨⟨o1, o2⟩, o3⟩ := hok
  have er : ∀ z ∈ as.zip bs, ∃ rs, Reads h2 (Value.ref z.1) (pairP z.2) rs ∧ h'.objs.size ∉ rs := fun z hz => by
    obtain ⟨j, j1, j2⟩ := zmem z hz
    obtain ⟨b, key, x, e1, e2, e3, e4⟩ := pr j z.1 j1
    rw [j2] at e1
    cases e1
    obtain ⟨rs, hr⟩ := Dp.reads I _ _ _ (hDp z.2 (List.mem_of_getElem? j2)) e3
    have hin := PyProof.On.reads_mem_get hr
    refine ⟨[] ++ (rs ++ []), .tuple (ka _ _ e4) rfl rfl (.cons (kV_reads e2) (.cons (PyProof.Rows.Reads.keeps kb hr) .nil)), fun hmem => ?_⟩
    simp only [List.nil_append, List.append_nil] at hmem
    obtain ⟨ob2, hob2⟩ := hin _ hmem
    exact Nat.lt_irrefl _ (Nat.lt_trans hlt (Heap.lt_size hob2))
  refine PySem.W.list_sort_data (s := { s with heap := h2, toks := tk }) (R := fun v (z : Addr × ((Key × V) × PyData)) => v = Value.ref z.1) (bs := as.zip bs) (enc := fun z : Addr × ((Key × V) × PyData) => pairP z.2) hob' (each_all (fun z : Addr × ((Key × V) × PyData) => Value.ref z.1) fun z _ => rfl) (each_all (fun z : Addr × ((Key × V) × PyData) => Value.ref z.1) er) (by rw [zd]; exact alike_of o1) (by rw [zd]; exact sortable_of o2)
    (by rw [List.length_zip]; omega) (fun z hz => ?_) fun out hlo hE => ?_
  · have hz2 : pairP z.2 ∈ bs.map pairP := by
      obtain ⟨j, j1, j2⟩ := zmem z hz
      exact List.mem_map.mpr ⟨z.2, List.mem_of_getElem? j2, rfl⟩
    have := of_decide_eq_true (List.all_eq_true.mp o3 _ hz2)
    show X.A.units + 1 + 1 + (pairP z.2).depth < cLine
    omega
  · have hout := each_fun _ hE
    have pz : ((as.zip bs).mergeSort (PySem.W.dataLe false fun z => pairP z.2)).Perm (as.zip bs) := List.mergeSort_perm _ _
    generalize hzs : (as.zip bs).mergeSort (PySem.W.dataLe false fun z => pairP z.2) = zs at hout pz
    have hzb : zs.map (·.2) = bs.mergeSort (PySem.W.dataLe false pairP) := by
      rw [← hzs, List.map_mergeSort (r := PySem.W.dataLe false fun z : Addr × ((Key × V) × PyData) => pairP z.2) (s := PySem.W.dataLe false pairP) (f := fun z : Addr × ((Key × V) × PyData) => z.2) (l := as.zip bs) (fun _ _ _ _ => rfl), zb]
    show EP X pins σ Q (.ref h'.objs.size) { s with heap := sortedHeap h2 h'.objs.size ((as.zip bs).map fun z => Value.ref z.1) out.toArray, toks := tk }
    rw [← zm]
    have kF : ∀ b o, b ≠ h'.objs.size → h2.get? b = some o → (sortedHeap h2 h'.objs.size (as.map Value.ref) out.toArray).get? b = some o := fun b o hb e => (PyProof.Rows.sortedHeap_old hb (Heap.lt_size e)).trans e
    have kS : ∀ b o, s.heap.get? b = some o → (sortedHeap h2 h'.objs.size (as.map Value.ref) out.toArray).get? b = some o := fun b o e => kF b o (ne0 _ _ (hk b o e)) (kb b o e)
    obtain ⟨eF, heF⟩ := PyProof.Rows.sortedHeap_at (vs := as.map Value.ref) (out := out.toArray) hob
    have J1 : Inv X pins σ H1 { s with heap := sortedHeap h2 h'.objs.size (as.map Value.ref) out.toArray, toks := tk } := I.kept (t' := tk) kS
    have hn0 : H1 h'.objs.size = none := I.hok.fresh (Nat.le_of_lt hlt)
    have hlen : (zs.map fun z => V.ref z.1).length ≤ sizeLine := by
      rw [List.length_map, pz.length_eq, List.length_zip]
      omega
    have rv : Vals (zs.map fun z => V.ref z.1) out := by
      rw [hout]
      exact vals_maps (fun z : Addr × ((Key × V) × PyData) => V.ref z.1) (fun z => Value.ref z.1) zs fun _ _ => rfl
    have J2 : Inv X pins σ (upd H1 h'.objs.size (.lst (zs.map fun z => V.ref z.1))) { s with heap := sortedHeap h2 h'.objs.size (as.map Value.ref) out.toArray, toks := tk } :=
      J1.take (h' := sortedHeap h2 h'.objs.size (as.map Value.ref) out.toArray) (t' := tk) (fun b ob _ e => e) (I.fpOk (Nat.le_of_lt hlt) hn0) ⟨hlen, out, eF, rv, heF⟩
    obtain ⟨H2, J3, g, qt⟩ := L2.DX.takeT (P := fun t vs => ∃ (j : Nat) (b : (Key × V) × PyData), as[j]? = some t ∧ bs[j]? = some b ∧ vs = [kV b.1.1, b.1.2]) I as _ J2 nd fun t ht => by
      obtain ⟨j, hj⟩ := List.mem_iff_getElem?.mp ht
      obtain ⟨b, key, x, e1, e2, e3, e4⟩ := pr j t hj
      have hbl : s.heap.objs.size ≤ t := Nat.le_of_lt (hG.above t ht)
      refine ⟨hbl, ?_, _, ⟨j, b, hj, e1, rfl⟩, fun H3 => ⟨(by rw [sizeLine_eq]; show 2 ≤ 16777216; omega), [key, x], .cons (keyIs_rel e2) (.cons e3 .nil), ⟨_, kF _ _ (ne0 _ _ e4) (ka _ _ e4), rfl, 0, rfl⟩⟩⟩
      rw [upd_ne (ne0 _ _ e4)]
      exact I.hok.fresh hbl
    have gr : ∀ b o, H1 b = some o → H2 b = some o := fun b o e => g b o (by rw [upd_ne (ne_of_none e hn0)]; exact e)
    refine ⟨.ref h'.objs.size, H2, J3, rfl, q H2 h'.objs.size (zs.map (·.1)) gr hn0 (by rw [List.map_map]; exact g _ _ upd_same) ?_⟩
    rw [← hzb, List.map_map]
    refine paired_all (fun z : Addr × ((Key × V) × PyData) => z.1) (fun z => z.2.1) fun z hz' => ?_
    obtain ⟨i, i1, i2⟩ := zmem z (pz.mem_iff.mp hz')
    obtain ⟨vs', ⟨j, b, j1, j2, ev⟩, hH⟩ := qt z.1 (List.mem_of_getElem? i1)
    have eij : i = j := (List.getElem?_inj (List.getElem?_eq_some_iff.mp i1).1 nd).mp (i1.trans j1.symm)
    subst eij
    rw [i2] at j2
    cases j2
    rw [hH, ev]
/-- sorted(d.items()) -/
def e_sortedItems (ev : Ev) : Ev := fun ρ M => bindO (ev ρ M) fun d M1 => match d with
  | .ref n => match M1[n]? with
    | some (.dK kvs) => match toPys M1 fuelD (kvs.map fVal) with
      | some ps => if okSort ((kvs.zip ps).map pairP) = true then some (.ref M1.length, M1 ++ [.lst (((kvs.zip ps).mergeSort (PySem.W.dataLe false pairP)).map fun b => fItem b.1)]) else none
      | none => none
    | _ => none
  | _ => none
/-- pairs on both sides, and what they read as -/
theorem quads {G : Gm} {H : Hp} {m : List Addr} : ∀ {kds : List (Key × D)} {kvs : List (Key × V)} {ps : List PyData}, RKs G H m kds kvs → DpAll G.K H (kvs.map (·.2)) ps →
    ∃ T : List ((Key × V) × (Key × D) × PyData), T.map (·.1) = kvs ∧ T.map (·.2.1) = kds ∧ T.map (·.2.2) = ps ∧ ∀ t ∈ T, t.1.1 = t.2.1.1 ∧ RD G H m t.2.1.2 t.1.2 ∧ Dp G.K H t.1.2 t.2.2
  | _, _, _, .nil, .nil => ⟨[], rfl, rfl, rfl, fun _ z => by cases z⟩
  | _, _, _, @RKs.cons _ _ _ k d v ds vs r t, @DpAll.cons _ _ _ _ p ps q u => by
    obtain ⟨T, e1, e2, e3, k'⟩ := quads t u
    refine ⟨((k, v), (k, d), p) :: T, by rw [List.map_cons, e1], by rw [List.map_cons, e2], by rw [List.map_cons, e3], fun x hx => ?_⟩
    rcases List.mem_cons.mp hx with rfl | hx
    · exact ⟨rfl, r, q⟩
    · exact k' x hx
theorem rks_map {G : Gm} {H : Hp} {m : List Addr} : ∀ {T : List ((Key × V) × (Key × D) × PyData)}, (∀ t ∈ T, t.1.1 = t.2.1.1 ∧ RD G H m t.2.1.2 t.1.2) → RKs G H m (T.map (·.2.1)) (T.map (·.1))
  | [], _ => .nil
  | ⟨(k, v), (k', d), p⟩ :: T, h => by
    obtain ⟨e, r⟩ := h _ List.mem_cons_self
    cases e
    exact .cons r (rks_map fun x hx => h x (List.mem_cons_of_mem _ hx))
theorem l_sortedItems (hu : X.A.units + 70 < cLine) (hm : X.mg "sorted" = none) (he : PE X e (TEof (GX X fa) ev)) (hc : X.calm = true := by rfl) (hg : Gl X "sorted" := by rfl) (hbase : attributeBase e "items" X.env (eval e X.env) = eval e X.env := by rfl) (hline : (apos.endLine == cpos.line) = true := by rfl)
    (hs : starEach [.Call (.Attribute e "items" apos) [] [] cpos] X.env = [(false, eval (.Call (.Attribute e "items" apos) [] [] cpos) X.env)] := by rfl) :
    PE X (.Call (.Name "sorted" p) [.Call (.Attribute e "items" apos) [] [] cpos] [] pos) (TEof (GX X fa) (e_sortedItems ev)) := by
  refine (pe_sortItems hu hc he hg hm hbase hline hs).imp fun σ H Q ⟨m, M, ρ, d, M', hρ, hM, e, fin⟩ => ?_
  refine te_bind hρ hM e fin fun m1 H1 M1 d1 v hρ1 hM1 rd e1 fin1 p1 x1 => ?_
  cases rd with
  | @ref n a ha =>
    simp only at e1
    split at e1
    · rename_i kvs q
      split at e1
      · rename_i ps q2
        split at e1
        · rename_i hok
          cases e1
          obtain ⟨kws, g1, g2⟩ := hM1.at_ _ _ _ ha q
          obtain ⟨T, t1, t2, t3, hT⟩ := quads g2 (toPys_dp hM1 _ _ _ _ q2 (vals_rel g2))
          have eB : kvs.zip ps = T.map fun t => (t.2.1, t.2.2) := by rw [← t2, ← t3, zip_maps]
          have eP : (T.map fun t => (t.1, t.2.2)).map pairP = (kvs.zip ps).map pairP := by
            rw [eB, List.map_map, List.map_map]
            refine List.map_congr_left fun t ht => ?_
            show PyData.tuple [keyP t.1.1, t.2.2] = PyData.tuple [keyP t.2.1.1, t.2.2]
            rw [(hT t ht).1]
          refine ⟨a, T.map fun t => (t.1, t.2.2), rfl, ?_, ?_, ?_, fun H' p ts hk hp h1 h2 => ?_⟩
          · rw [List.map_map]
            rw [← t1] at g1
            exact g1
          · intro b hb
            obtain ⟨t, ht, rfl⟩ := List.mem_map.mp hb
            exact (hT t ht).2.2
          · rw [eP]; exact hok
          · have hx : Ext (GX X fa) H1 H' := Ext.grow hk
            have le : ∀ t ∈ T, ∀ u ∈ T, PySem.W.dataLe false (fun t : (Key × V) × (Key × D) × PyData => pairP (t.1, t.2.2)) t u = PySem.W.dataLe false pairP (t.2.1, t.2.2) (u.2.1, u.2.2) := fun t ht u hu => by
              have e1 : pairP (t.1, t.2.2) = pairP (t.2.1, t.2.2) := by
                show PyData.tuple [keyP t.1.1, t.2.2] = PyData.tuple [keyP t.2.1.1, t.2.2]
                rw [(hT t ht).1]
              have e2 : pairP (u.1, u.2.2) = pairP (u.2.1, u.2.2) := by
                show PyData.tuple [keyP u.1.1, u.2.2] = PyData.tuple [keyP u.2.1.1, u.2.2]
                rw [(hT u hu).1]
              show PySem.W.dataLe false (fun b : PyData => b) (pairP (t.1, t.2.2)) (pairP (u.1, u.2.2)) = PySem.W.dataLe false (fun b : PyData => b) (pairP (t.2.1, t.2.2)) (pairP (u.2.1, u.2.2))
              rw [e1, e2]
            have hV : ((T.map fun t => (t.1, t.2.2)).mergeSort (PySem.W.dataLe false pairP)).map (·.1) = (T.mergeSort (PySem.W.dataLe false fun t => pairP (t.1, t.2.2))).map (·.1) := by
              rw [← List.map_mergeSort (r := PySem.W.dataLe false fun t : (Key × V) × (Key × D) × PyData => pairP (t.1, t.2.2)) (s := PySem.W.dataLe false pairP) (f := fun t : (Key × V) × (Key × D) × PyData => (t.1, t.2.2)) (l := T) (fun _ _ _ _ => rfl), List.map_map]
              rfl
            have hD : ((kvs.zip ps).mergeSort (PySem.W.dataLe false pairP)).map (fun b => fItem b.1) = ((T.mergeSort (PySem.W.dataLe false fun t => pairP (t.1, t.2.2))).map (·.2.1)).map fItem := by
              rw [eB, ← List.map_mergeSort (r := PySem.W.dataLe false fun t : (Key × V) × (Key × D) × PyData => pairP (t.1, t.2.2)) (s := PySem.W.dataLe false pairP) (f := fun t : (Key × V) × (Key × D) × PyData => (t.2.1, t.2.2)) (l := T) le, List.map_map, List.map_map]
              rfl
            rw [hV] at h2
            refine fin1 _ _ (List.prefix_append _ _) hx (hM1.pushA hp hk hx ⟨_, h1, ?_⟩) _ (ref_last hM1)
            rw [hD]
            exact items_rel (List.prefix_append _ _) hx (rks_map fun t ht => ⟨(hT t (List.mem_mergeSort.mp ht)).1, (hT t (List.mem_mergeSort.mp ht)).2.1⟩) h2
        · cases e1
      · cases e1
    · cases e1
  | _ => cases e1
end
end Mi
namespace Mi
open PySem PySem.Spec PyProof.Rows L2
def orD (f g : List D → Mem → R D) : List D → Mem → R D := fun ds M => match f ds M with
  | some r => some r
  | none => g ds M
theorem cs_or {G : Gm} {f g : List D → Mem → R D} {r q : List V → Hp → VK → Prop} (a : CaS G f r) (b : CaS G g q) : CaS G (orD f g) (orC r q) := fun m H M xs ds d M' Q hM rd e k => by
  unfold orD at e
  cases z : f ds M with
  | some y => rw [z] at e; cases e; exact .inl (a m H M xs ds d M' Q hM rd z k)
  | none => rw [z] at e; exact .inr (b m H M xs ds d M' Q hM rd e k)
end Mi
set_option Elab.async false
set_option linter.all false
set_option maxRecDepth 100000
/-! places that are not come to, texts' methods, zip, enumerate -/
namespace Mi
open PySem PySem.Spec PyProof.Rows L2
section
variable {X : Cx} {fa : Nat → Addr} {a b c e o i : Expr} {eva evb evc evo evi who ev : Ev} {pos p : Pos} {es : List Expr} {apos cpos : Pos} {te : TE}
/-! what is not come to -/
def sStuck : Es := fun _ _ => none
def eStuck : Ev := fun _ _ => none
theorem l_stuckS {st : Stmt} : PS X st (TSof (GX X fa) sStuck) := ⟨fun p s σ H D I ⟨_, _, _, _, _, _, _, e, _⟩ => (by cases e)⟩
theorem l_stuckE : PE X e (TEof (GX X fa) eStuck) := ⟨fun p s σ H Q I ⟨_, _, _, _, _, _, _, e, _⟩ => (by cases e)⟩
/-! texts' methods -/
def eM0 (f : Str → Option D) (ev : Ev) : Ev := fun ρ M => bindO (ev ρ M) fun d M1 => match d with
  | .str x => (f x).map fun y => (y, M1)
  | _ => none
/-- a text's method of none: what it answers isn't made -/
structure M0Of (X : Cx) (fa : Nat → Addr) (r : V → List V → Hp → VK → Prop) (f : Str → Option D) : Prop where
  ok : ∀ (x : Str) (d : D) (H : Hp) (Q : VK), f x = some d → (∀ v, (∀ m, RD (GX X fa) H m d v) → Q v H) → r (.str x) [] H Q
theorem l_m0 {id : String} {name : Str} {r : V → List V → Hp → VK → Prop} {f : Str → Option D} (slot : Slot "str" name id) (ty : typeOf (.builtin id) = pure (.type "method_descriptor")) (rule : MtR X id r) (h : M0Of X fa r f) (he : PE X e (TEof (GX X fa) ev))
    (hbase : attributeBase e name X.env (eval e X.env) = eval e X.env := by rfl) (hline : (apos.endLine == pos.line) = true := by rfl) : PE X (.Call (.Attribute e name apos) [] [] pos) (TEof (GX X fa) (eM0 f ev)) := by
  refine (pe_m0 slot ty rule he hbase hline).imp fun σ H Q ⟨m, M, ρ, d, M', hρ, hM, e, fin⟩ => ?_
  refine te_bind hρ hM e fin fun m1 H1 M1 d1 v hρ1 hM1 rd e1 fin1 p1 x1 => ?_
  cases rd with
  | str x =>
    have e2 : (f x).map (fun y => (y, M1)) = some (d, M') := e1
    cases q : f x with
    | none => rw [q] at e2; cases e2
    | some y =>
      rw [q] at e2
      cases e2
      exact ⟨⟨_, rfl⟩, h.ok x _ H1 Q q fun v hv => fin1.here hM1 v (hv m1)⟩
  | _ => cases e1
def mIsalnum (x : Str) : Option D := some (.bl (Txt.isalnum x))
def mIsascii (x : Str) : Option D := some (.bl (Txt.isascii x))
def mLower (x : Str) : Option D := if x.length ≤ 5592405 then some (.str (Txt.lower x)) else none
def mUpper (x : Str) : Option D := if x.length ≤ 5592405 then some (.str (Txt.upper x)) else none
theorem l_isalnum (he : PE X e (TEof (GX X fa) ev)) (hbase : attributeBase e "isalnum" X.env (eval e X.env) = eval e X.env := by rfl) (hline : (apos.endLine == pos.line) = true := by rfl) : PE X (.Call (.Attribute e "isalnum" apos) [] [] pos) (TEof (GX X fa) (eM0 mIsalnum ev)) :=
  l_m0 F.slot_str_isalnum F.type_str_isalnum mt_isalnum ⟨fun x d H Q q h => by cases q; exact ⟨x, rfl, rfl, trivial, h _ fun m => .bl _⟩⟩ he hbase hline
theorem l_isascii (he : PE X e (TEof (GX X fa) ev)) (hbase : attributeBase e "isascii" X.env (eval e X.env) = eval e X.env := by rfl) (hline : (apos.endLine == pos.line) = true := by rfl) : PE X (.Call (.Attribute e "isascii" apos) [] [] pos) (TEof (GX X fa) (eM0 mIsascii ev)) :=
  l_m0 F.slot_str_isascii F.type_str_isascii mt_isascii ⟨fun x d H Q q h => by cases q; exact ⟨x, rfl, rfl, trivial, h _ fun m => .bl _⟩⟩ he hbase hline
theorem l_lower (he : PE X e (TEof (GX X fa) ev)) (hbase : attributeBase e "lower" X.env (eval e X.env) = eval e X.env := by rfl) (hline : (apos.endLine == pos.line) = true := by rfl) : PE X (.Call (.Attribute e "lower" apos) [] [] pos) (TEof (GX X fa) (eM0 mLower ev)) :=
  l_m0 F.slot_str_lower F.type_str_lower mt_lower ⟨fun x d H Q q h => by
    unfold mLower at q
    split at q
    · rename_i hl; cases q; exact ⟨x, rfl, rfl, hl, h _ fun m => .str _⟩
    · cases q⟩ he hbase hline
theorem l_upper (he : PE X e (TEof (GX X fa) ev)) (hbase : attributeBase e "upper" X.env (eval e X.env) = eval e X.env := by rfl) (hline : (apos.endLine == pos.line) = true := by rfl) : PE X (.Call (.Attribute e "upper" apos) [] [] pos) (TEof (GX X fa) (eM0 mUpper ev)) :=
  l_m0 F.slot_str_upper F.type_str_upper mt_upper ⟨fun x d H Q q h => by
    unfold mUpper at q
    split at q
    · rename_i hl; cases q; exact ⟨x, rfl, rfl, hl, h _ fun m => .str _⟩
    · cases q⟩ he hbase hline
/-! zip, enumerate -/
def zipG (f : Mem → Option (List D)) (g : Mem → Option (List D)) : Src := fun M => match f M, g M with
  | some xs, some ys => some ((xs.zip ys).map fun z => .tup [z.1, z.2])
  | _, _ => none
def iZp (evs : EvL) : EvI := fun ρ M => bindO (evs ρ M) fun ds M1 => match ds with
  | [.ref n, .ref k] => if (lstAt M1 n).isSome ∧ (lstAt M1 k).isSome then some (zipG (fun M2 => lstAt M2 n) fun M2 => lstAt M2 k, M1) else none
  | [.tup xs, .tup ys] => some (zipG (fun _ => some xs) fun _ => some ys, M1)
  | _ => none
theorem zip_get {xs ys : List D} {i : Nat} {d : D} (h : ((xs.zip ys).map fun z => Mi.D.tup [z.1, z.2])[i]? = some d) : ∃ x y, xs[i]? = some x ∧ ys[i]? = some y ∧ d = .tup [x, y] := by
  rw [List.getElem?_map, Option.map_eq_some_iff] at h
  obtain ⟨z, hz, rfl⟩ := h
  obtain ⟨h1, h2⟩ := List.getElem?_zip_eq_some.mp hz
  exact ⟨_, _, h1, h2, rfl⟩
theorem zip_none {xs ys : List D} {i : Nat} (h : ((xs.zip ys).map fun z => Mi.D.tup [z.1, z.2])[i]? = none) : xs.length ≤ i ∨ ys.length ≤ i := by
  rw [List.getElem?_eq_none_iff, List.length_map, List.length_zip] at h
  omega
theorem pair_yld {G : Gm} {H H3 : Hp} {m : List Addr} {M : Mem} {T : Addr} {x y : D} {v w : V} (hM : RM G H m M) (hT : H T = none) (e : H3 = upd H T (.tup [v, w])) (rx : RD G H m x v) (ry : RD G H m y w) : Ext G H H3 ∧ RM G H3 m M ∧ RD G H3 m (.tup [x, y]) (.ref T) := by
  subst e
  exact ⟨Ext.new hT, hM.new hT, .tup (.inl (.inl upd_same)) (.cons (rx.mono (List.prefix_refl _) (Ext.new hT)) (.cons (ry.mono (List.prefix_refl _) (Ext.new hT)) .nil))⟩
theorem l_izip {e2 : Expr} {elts : List Expr} {kk : Nat} {tpos : Pos} {evs : EvL} (hm : X.mg "zip" = none) (ha : PA X [e, e2] (TAof (GX X fa) evs)) (hg : Gl X "zip" := by rfl)
    (hs : starEach [e, e2] X.env = (false, eval e X.env) :: starEach [e2] X.env := by rfl) (hpl : (backTo pos (starEach [e2] X.env)).any (·.1) = false := by rfl) :
    PI X (.Tuple elts kk tpos) (.Call (.Name "zip" p) [e, e2] [] pos) (TIof (GX X fa) (iZp evs)) := by
  refine PI.imp (RZ.pi_zipA hg hm ha hs hpl) fun σ H Rk ⟨m, M, ρ, get, M', hρ, hM, e, fin⟩ => ?_
  refine ta_bind hρ hM e fin fun m1 H1 M1 ds vs hρ1 hM1 rds e1 fin1 p1 x1 => ?_
  split at e1
  · rename_i n k
    obtain ⟨v, w, rfl, r1, r2⟩ := two_of rds
    split at e1
    · rename_i hs
      cases e1
      cases r1 with
      | @ref _ a ha =>
        cases r2 with
        | @ref _ b hb =>
          obtain ⟨xs0, hx0⟩ := Option.isSome_iff_exists.mp hs.1
          obtain ⟨ys0, hy0⟩ := Option.isSome_iff_exists.mp hs.2
          obtain ⟨us0, q1, q2⟩ := hM1.lstAt hx0 ha
          obtain ⟨ws0, q3, q4⟩ := hM1.lstAt hy0 hb
          refine ⟨a, b, us0, ws0, rfl, .inl ⟨q1, q3, fin1.here hM1 _ fun i H2 m2 M2 zs pm xm hM2 hz => ?_⟩⟩
          have hz : (match lstAt M2 n, lstAt M2 k with
            | some xs, some ys => some ((xs.zip ys).map fun z => Mi.D.tup [z.1, z.2])
            | _, _ => none) = some zs := hz
          cases hx : lstAt M2 n with
          | none => rw [hx] at hz; cases hz
          | some xs =>
            cases hy : lstAt M2 k with
            | none => rw [hx, hy] at hz; cases hz
            | some ys =>
              rw [hx, hy] at hz
              cases hz
              obtain ⟨us, k1, k2⟩ := hM2.lstAt hx (pre_get pm ha)
              obtain ⟨ws, k3, k4⟩ := hM2.lstAt hy (pre_get pm hb)
              refine ⟨fun hn => ⟨us, ws, k1, k3, by rw [← k2.length, ← k4.length]; exact zip_none hn⟩, fun d hd => ?_⟩
              obtain ⟨x, y, hx1, hy1, rfl⟩ := zip_get hd
              obtain ⟨u, hu, ru⟩ := k2.get hx1
              obtain ⟨w, hw, rw'⟩ := k4.get hy1
              refine ⟨⟨us, ws, u, w, k1, k3, hu, hw⟩, fun z H3 ⟨T, x', y', z1, z2, z3, z4, z5⟩ => ?_⟩
              have ex := z4 us k1
              have ey := z5 ws k3
              rw [hu] at ex
              rw [hw] at ey
              cases ex
              cases ey
              subst z1
              exact pair_yld hM2 z2 z3 ru rw'
    · cases e1
  · rename_i xs ys
    obtain ⟨v, w, rfl, r1, r2⟩ := two_of rds
    cases e1
    cases r1 with
    | @tup a _ us0 ha rx =>
      cases r2 with
      | @tup b _ ws0 hb ry =>
        refine ⟨a, b, us0, ws0, rfl, .inr ⟨ha, hb, fin1.here hM1 _ fun i H2 m2 M2 zs pm xm hM2 hz => ?_⟩⟩
        cases hz
        have rx2 := rx.mono pm xm
        have ry2 := ry.mono pm xm
        have ha2 := xm.t _ _ ha
        have hb2 := xm.t _ _ hb
        refine ⟨fun hn => ⟨us0, ws0, ha2, hb2, by rw [← rx.length, ← ry.length]; exact zip_none hn⟩, fun d hd => ?_⟩
        obtain ⟨x, y, hx1, hy1, rfl⟩ := zip_get hd
        obtain ⟨u, hu, ru⟩ := rx2.get hx1
        obtain ⟨w, hw, rw'⟩ := ry2.get hy1
        refine ⟨⟨us0, ws0, u, w, ha2, hb2, hu, hw⟩, fun z H3 ⟨T, x', y', z1, z2, z3, z4, z5⟩ => ?_⟩
        have ex := z4 us0 ha2
        have ey := z5 ws0 hb2
        rw [hu] at ex
        rw [hw] at ey
        cases ex
        cases ey
        subst z1
        exact pair_yld hM2 z2 z3 ru rw'
  · cases e1
def enumD (xs : List D) : List D := xs.zipIdx.map fun z => .tup [.int (z.2 : Nat), z.1]
theorem enum_get {xs : List D} {i : Nat} {d : D} (h : (enumD xs)[i]? = some d) : ∃ x, xs[i]? = some x ∧ d = .tup [.int (i : Nat), x] := by
  unfold enumD at h
  rw [List.getElem?_map, List.getElem?_zipIdx, Option.map_map, Option.map_eq_some_iff] at h
  obtain ⟨x, hx, rfl⟩ := h
  exact ⟨x, hx, by simp⟩
theorem enum_none {xs : List D} {i : Nat} (h : (enumD xs)[i]? = none) : xs.length ≤ i := by
  unfold enumD at h
  rw [List.getElem?_eq_none_iff, List.length_map, List.length_zipIdx] at h
  exact h
def iEn (evs : EvL) : EvI := fun ρ M => bindO (evs ρ M) fun ds M1 => match ds with
  | [.ref n] => if (lstAt M1 n).isSome then some ((fun M2 => (lstAt M2 n).map enumD), M1) else none
  | _ => none
theorem l_ienum {elts : List Expr} {kk : Nat} {tpos : Pos} {evs : EvL} (hm : X.mg "enumerate" = none) (ha : PA X [e] (TAof (GX X fa) evs)) (hg : Gl X "enumerate" := by rfl) (hs : starEach [e] X.env = [(false, eval e X.env)] := by rfl) :
    PI X (.Tuple elts kk tpos) (.Call (.Name "enumerate" p) [e] [] pos) (TIof (GX X fa) (iEn evs)) := by
  refine PI.imp (pi_enum hg hm ha hs) fun σ H Rk ⟨m, M, ρ, get, M', hρ, hM, e, fin⟩ => ?_
  refine ta_bind hρ hM e fin fun m1 H1 M1 ds vs hρ1 hM1 rds e1 fin1 p1 x1 => ?_
  split at e1
  · rename_i n
    obtain ⟨v, rfl, r1⟩ := one_of rds
    split at e1
    · rename_i hs
      cases e1
      cases r1 with
      | @ref _ a ha =>
        obtain ⟨xs0, hx0⟩ := Option.isSome_iff_exists.mp hs
        obtain ⟨us0, q1, q2⟩ := hM1.lstAt hx0 ha
        refine ⟨a, us0, rfl, q1, fin1.here hM1 _ fun i H2 m2 M2 zs pm xm hM2 hz => ?_⟩
        cases hx : lstAt M2 n with
        | none => simp only [hx] at hz; cases hz
        | some xs =>
          simp only [hx, Option.map_some, Option.some.injEq] at hz
          subst hz
          obtain ⟨us, k1, k2⟩ := hM2.lstAt hx (pre_get pm ha)
          refine ⟨fun hn => ⟨us, k1, by rw [← k2.length]; exact enum_none hn⟩, fun d hd => ?_⟩
          obtain ⟨x, hx1, rfl⟩ := enum_get hd
          obtain ⟨u, hu, ru⟩ := k2.get hx1
          refine ⟨⟨us, u, k1, hu⟩, fun z H3 ⟨T, x', z1, z2, z3, z4⟩ => ?_⟩
          have ex := z4 us k1
          rw [hu] at ex
          cases ex
          subst z1
          exact pair_yld hM2 z2 z3 (.int _) ru
    · cases e1
  · cases e1
end
end Mi
set_option Elab.async false
set_option linter.all false
set_option maxRecDepth 100000
/-! while; lists' extend, pop; [::-1] -/
namespace Mi
open PySem PySem.Spec PyProof.Rows L2
section
variable {X : Cx} {fa : Nat → Addr} {a b c e o i : Expr} {eva evb evc evo evi eve who ev : Ev} {pos p : Pos} {es : List Expr} {apos cpos : Pos} {te : TE}
def whileN (t : EvB) (b : Es) : Nat → Loc → Mem → R Fl
  | 0, _, _ => none
  | f + 1, ρ, M => match t ρ M with
    | none => none
    | some (false, M1) => some (.next ρ, M1)
    | some (true, M1) => match b ρ M1 with
      | none => none
      | some (.next ρ2, M2) => whileN t b f ρ2 M2
      | some (.cont ρ2, M2) => whileN t b f ρ2 M2
      | some (.brk ρ2, M2) => some (.next ρ2, M2)
      | some (.ret d, M2) => some (.ret d, M2)
def fuelW : Nat := 2 ^ 64
def sWhile (t : EvB) (b : Es) : Es := fun ρ M => whileN t b fuelW ρ M
theorem l_while {body : List Stmt} {t : EvB} {bd : Es} (hp : PassesOwn (model X.prog X.w) X.A X.env X.xe) (hc : PT X c (TTof (GX X fa) t)) (hb : PSs X body (TSof (GX X fa) bd)) : PS X (.While c body [] pos) (TSof (GX X fa) (sWhile t bd)) := by
  refine (ps_while hp hc hb).imp fun D σ H ⟨m, M, ρ, o, M', hρ, hM, e, fin⟩ => ?_
  unfold sWhile at e
  refine ⟨fun n σ H => ∃ m2 M2 ρ2, Rho (GX X fa) H m2 ρ2 σ ∧ RM (GX X fa) H m2 M2 ∧ whileN t bd n ρ2 M2 = some (o, M') ∧ Fin (GX X fa) m2 H M' (EndsOk (GX X fa) D o), ⟨fuelW, m, M, ρ, hρ, hM, e, fin⟩, ?_⟩
  rintro n σ2 H2 ⟨m2, M2, ρ2, hρ2, hM2, e2, fin2⟩
  cases n with
  | zero => cases e2
  | succ f =>
    have e3 : (match t ρ2 M2 with
      | none => none
      | some (false, M1) => some (Fl.next ρ2, M1)
      | some (true, M1) => match bd ρ2 M1 with
        | none => none
        | some (.next ρ2, M2) => whileN t bd f ρ2 M2
        | some (.cont ρ2, M2) => whileN t bd f ρ2 M2
        | some (.brk ρ2, M2) => some (.next ρ2, M2)
        | some (.ret d, M2) => some (.ret d, M2)) = some (o, M') := e2
    cases tq : t ρ2 M2 with
    | none => rw [tq] at e3; cases e3
    | some pr =>
      obtain ⟨bb, M3⟩ := pr
      rw [tq] at e3
      refine ⟨m2, M2, ρ2, bb, M3, hρ2, hM2, tq, fun m3 H3 pm3 xm3 hM3 => ?_⟩
      have fin3 := fin2.mono pm3 xm3
      cases bb with
      | false =>
        dsimp only
        rw [if_neg (by decide)]
        cases e3
        exact fin3.here hM3 σ2 (hρ2.mono pm3 xm3)
      | true =>
        dsimp only
        rw [if_pos rfl]
        simp only at e3
        refine ⟨fun σ' H' => ∃ m2 M2 ρ2, Rho (GX X fa) H' m2 ρ2 σ' ∧ RM (GX X fa) H' m2 M2 ∧ whileN t bd f ρ2 M2 = some (o, M') ∧ Fin (GX X fa) m2 H' M' (EndsOk (GX X fa) D o), fun σ' H' z => ⟨f, Nat.lt_succ_self f, z⟩, ?_⟩
        cases bq : bd ρ2 M3 with
        | none => rw [bq] at e3; cases e3
        | some pr =>
          obtain ⟨o3, M4⟩ := pr
          rw [bq] at e3
          refine ⟨m3, M3, ρ2, o3, M4, hρ2.mono pm3 xm3, hM3, bq, fun m4 H4 pm4 xm4 hM4 => ?_⟩
          have fin4 := fin3.mono pm4 xm4
          cases o3 with
          | next ρ4 => exact fun σ4 hρ4 => ⟨m4, M4, ρ4, hρ4, hM4, e3, fin4⟩
          | cont ρ4 => exact fun σ4 hρ4 => ⟨m4, M4, ρ4, hρ4, hM4, e3, fin4⟩
          | brk ρ4 => cases e3; exact fin4.here hM4
          | ret d4 => cases e3; exact fin4.here hM4
/-! xs[::-1] -/
def eRev (ev : Ev) : Ev := fun ρ M => bindO (ev ρ M) fun d M1 => match d with
  | .ref n => match lstAt M1 n with
    | some xs => some (.ref M1.length, M1 ++ [.lst xs.reverse])
    | none => none
  | _ => none
theorem RDs.rev {G : Gm} {H : Hp} {m : List Addr} : ∀ {ds : List D} {vs : List V}, RDs G H m ds vs → RDs G H m ds.reverse vs.reverse
  | _, _, .nil => .nil
  | _, _, .cons r t => by rw [List.reverse_cons, List.reverse_cons]; exact (RDs.rev t).append (.cons r .nil)
theorem l_rev {k : Nat} {p1 p2 p3 : Pos} (he : PE X e (TEof (GX X fa) ev)) : PE X (.Subscript e (.Slice none none (some (.UnaryOp .USub (.Constant (.int 1) k p1) p2)) p3) pos) (TEof (GX X fa) (eRev ev)) := by
  refine (pe_revL he).imp fun σ H Q ⟨m, M, ρ, d, M', hρ, hM, e, fin⟩ => ?_
  refine te_bind hρ hM e fin fun m1 H1 M1 d1 v hρ1 hM1 rd e1 fin1 p1 x1 => ?_
  cases rd with
  | @ref n a ha =>
    simp only at e1
    split at e1
    · rename_i xs q
      cases e1
      obtain ⟨vs, g1, g2⟩ := hM1.lstAt q ha
      exact ⟨a, vs, rfl, g1, fun p hp => fin_push fin1 hM1 hp ⟨_, upd_same, (RDs.rev g2).mono (List.prefix_append _ _) (Ext.new hp)⟩ _ (ref_last hM1)⟩
    · cases e1
  | _ => cases e1
/-! xs.pop() -/
def ePop0 (ev : Ev) : Ev := fun ρ M => bindO (ev ρ M) fun d M1 => match d with
  | .ref n => match M1[n]? with
    | some (.lst xs) => match xs[xs.length - 1]? with
      | some y => some (y, M1.set n (.lst xs.dropLast))
      | none => none
    | _ => none
  | _ => none
theorem RDs.dropLast {G : Gm} {H : Hp} {m : List Addr} {ds : List D} {vs : List V} (r : RDs G H m ds vs) : RDs G H m ds.dropLast vs.dropLast := by
  rw [List.dropLast_eq_take, List.dropLast_eq_take, r.length]
  exact r.take _
theorem l_pop0 (he : PE X e (TEof (GX X fa) ev)) (hbase : attributeBase e "pop" X.env (eval e X.env) = eval e X.env := by rfl) (hline : (apos.endLine == cpos.line) = true := by rfl) : PE X (.Call (.Attribute e "pop" apos) [] [] cpos) (TEof (GX X fa) (ePop0 ev)) := by
  refine (pe_bm0 F.plainAttrs_list F.slot_list_pop F.type_list_pop mt_pop he hbase hline).imp fun σ H Q ⟨m, M, ρ, d, M', hρ, hM, e, fin⟩ => ?_
  refine te_bind hρ hM e fin fun m1 H1 M1 d1 v hρ1 hM1 rd e1 fin1 p1 x1 => ?_
  cases rd with
  | @ref n a ha =>
    simp only at e1
    split at e1
    · rename_i xs q
      split at e1
      · rename_i y hy
        cases e1
        obtain ⟨vs, g1, g2⟩ := hM1.at_ _ _ _ ha q
        obtain ⟨w, hw, rw'⟩ := g2.get hy
        have mu : Mut (H1 a) := by rw [g1]; trivial
        refine ⟨.inl ⟨rfl, vs, SqL.of g1⟩, a, vs, w, rfl, rfl, g1, by rw [← g2.length]; exact hw, ?_⟩
        exact fin1 m1 _ (List.prefix_refl _) (Ext.write mu) (hM1.set ha q rfl rfl ⟨_, upd_same, (RDs.dropLast g2).mono (List.prefix_refl _) (Ext.write mu)⟩) _ (rw'.mono (List.prefix_refl _) (Ext.write mu))
      · cases e1
    · cases e1
  | _ => cases e1
/-! xs.extend(ys) -/
def eExt (evo eve : Ev) : Ev := fun ρ M => bindO (evo ρ M) fun o M1 => match o with
  | .ref n => match M1[n]? with
    | some (.lst _) => bindO (eve ρ M1) fun d M2 => match d with
      | .ref k => match M2[n]?, M2[k]? with
        | some (.lst xs), some (.lst ys) => if xs.length + ys.length ≤ sizeLine then some (.non, M2.set n (.lst (xs ++ ys))) else none
        | _, _ => none
      | _ => none
    | _ => none
  | _ => none
theorem l_extend (ho : PE X o (TEof (GX X fa) evo)) (he : PE X e (TEof (GX X fa) eve)) (hbase : attributeBase o "extend" X.env (eval o X.env) = eval o X.env := by rfl)
    (hfew : ((backTo cpos (starEach [e] X.env)).all (fun x => !x.1) && (backToKw cpos (keywordEach [] X.env)).all (fun x => x.1.isSome)
      && decide ([e].length + ([] : List Keyword).length + (if ([] : List Keyword).isEmpty then 0 else 1) < 30)) = true := by rfl)
    (hline : (apos.endLine == cpos.line) = true := by rfl) (hs : starEach [e] X.env = (false, eval e X.env) :: starEach [] X.env := by rfl) (hpl : (backTo cpos (starEach [] X.env)).any (·.1) = false := by rfl) : PE X (.Call (.Attribute o "extend" apos) [e] [] cpos) (TEof (GX X fa) (eExt evo eve)) := by
  refine (pe_bm F.plainAttrs_list F.slot_list_extend F.type_list_extend mt_extend ho (l_cons he l_nil hs) hbase hfew hline hs hpl).imp fun σ H Q ⟨m, M, ρ, d, M', hρ, hM, e, fin⟩ => ?_
  refine te_bind hρ hM e fin fun m1 H1 M1 d1 v hρ1 hM1 rd e1 fin1 p1 x1 => ?_
  cases rd with
  | @ref n a ha =>
    simp only at e1
    split at e1
    · rename_i xs0 q0
      obtain ⟨vs0, g0, _⟩ := hM1.at_ _ _ _ ha q0
      refine ⟨.inl ⟨rfl, vs0, SqL.of g0⟩, ?_⟩
      cases q2 : eve ρ M1 with
      | none => rw [q2] at e1; cases e1
      | some pr =>
        obtain ⟨d2, M2⟩ := pr
        rw [q2] at e1
        have e2 : (match (generalizing := false) d2 with
          | .ref k => match M2[n]?, M2[k]? with
            | some (.lst xs), some (.lst ys) => if xs.length + ys.length ≤ sizeLine then some (Mi.D.non, M2.set n (.lst (xs ++ ys))) else none
            | _, _ => none
          | _ => none) = some (d, M') := e1
        refine ⟨m1, M1, ρ, [d2], M2, hρ1, hM1, by unfold eCons eNil; rw [q2]; rfl, fun m2 H2 p2 x2 hM2 vs rds => ?_⟩
        obtain ⟨v2, rfl, r2⟩ := one_of rds
        have fin2 := fin1.mono p2 x2
        split at e2
        · rename_i k
          split at e2
          · rename_i xs ys q3 q4
            split at e2
            · rename_i hl
              cases e2
              cases r2 with
              | @ref _ b hb =>
                have ha2 := pre_get p2 ha
                obtain ⟨vs, g1, g2⟩ := hM2.at_ _ _ _ ha2 q3
                obtain ⟨ws, g3, g4⟩ := hM2.at_ _ _ _ hb q4
                have mu : Mut (H2 a) := by rw [g1]; trivial
                refine ⟨a, b, vs, ws, rfl, rfl, g1, g3, by rw [← g2.length, ← g4.length]; exact hl, ?_⟩
                exact fin2 m2 _ (List.prefix_refl _) (Ext.write mu) (hM2.set ha2 q3 rfl rfl ⟨_, upd_same, (g2.append g4).mono (List.prefix_refl _) (Ext.write mu)⟩) _ .non
            · cases e2
          · cases e2
        · cases e2
    · cases e1
  | _ => cases e1
end
end Mi
set_option Elab.async false
set_option linter.all false
set_option maxRecDepth 100000
/-! sorted of a tuple -/
namespace Mi
open PySem PySem.Spec PyProof.Rows L2
section
variable {X : Cx} {fa : Nat → Addr}
def rSortDT (K : PySem.W.Frag) : List V → Hp → VK → Prop := fun xs H Q => ∃ (a : Addr) (bs : List (V × PyData)), xs = [V.ref a] ∧ SqT K H a (bs.map (·.1)) ∧ (∀ b ∈ bs, Dp K H b.1 b.2) ∧ okSort (bs.map (·.2)) = true ∧
  ∀ p, H p = none → Q (.ref p) (upd H p (.lst ((bs.mergeSort (PySem.W.dataLe false (·.2))).map (·.1))))
theorem cr_sortDT (hu : X.A.units + 70 < cLine) : CallR X (.builtin "sorted") (rSortDT X.K) := by
  intro pins st σ H xs us Q I r h
  obtain ⟨a, bs, rfl, hs, hd, hok, q⟩ := h
  obtain ⟨u, rfl, ru⟩ := vals1 r
  cases (show u = Value.ref a from ru)
  obtain ⟨its, rv, pl, hz⟩ := I.tuple hs
  obtain ⟨o, ho, hc, n, hdat⟩ := pl
  unfold okSort at hok
  simp only [Bool.and_eq_true] at hok
  obtain ⟨⟨h1, h2_⟩, h3⟩ := hok
  have hlen : its.length = bs.length := by have := rv.length; rw [List.length_map] at this; exact this.symm
  have hz' : its.toArray.size ≤ sizeLine := by rw [List.size_toArray, ← rv.length]; exact hz
  refine Calls.call_function_entry kind_sorted plain_sorted entry_sorted (args_sorted1 _) ?_
  unfold Builtin.«sorted»
  refine wpAny_bind (m := checkCount "sorted" 1 1 _) (wpAny_pure ?_)
  refine wpAny_bind (wpAny_collect_seq (A := X.A.in1) a (T := "tuple") (.inr rfl) ho hc hdat (fun h' hk => ?_) hz')
  have I1 : Inv X pins σ H { st with heap := h' } := I.kept (t' := st.toks) hk
  refine wpAny_bind (wpAny_newList ?_ (by simpa using hz'))
  have hob : (h'.push { cls := .type "list", data := .seq its.toArray }).get? h'.objs.size = some (seqObj "list" its.toArray 0) := Heap.get?_push_size _ rfl
  have kb : ∀ b o, st.heap.get? b = some o → (h'.push { cls := .type "list", data := .seq its.toArray }).get? b = some o := fun b o e => Heap.get?_push_of_some _ (hk b o e)
  have ka : ∀ b o, h'.get? b = some o → (h'.push { cls := .type "list", data := .seq its.toArray }).get? b = some o := fun b o e => Heap.get?_push_of_some _ e
  have main : wpAny (model X.prog X.w) X.A.in1 (call (.builtin "list.sort") [.ref h'.objs.size]) (fun _ s' => EP X pins σ Q (.ref h'.objs.size) s') X.xe { st with heap := h'.push { cls := .type "list", data := .seq its.toArray } } := by
    generalize h'.push { cls := .type "list", data := .seq its.toArray } = h2 at hob kb ka
    have er0 := each_reads I rv hd
    have er : PySem.W.EachIs (fun v (b : V × PyData) => ∃ rs, Reads h2 v b.2 rs ∧ h'.objs.size ∉ rs) its bs := er0.mono fun v b ⟨rs, hr⟩ => ⟨rs, PyProof.Rows.Reads.keeps kb hr, fun hm => by
      obtain ⟨ob, hob'⟩ := PyProof.On.reads_mem_get hr _ hm
      exact Nat.lt_irrefl _ (Heap.lt_size (hk _ _ hob'))⟩
    refine PySem.W.list_sort_data (s := { st with heap := h2 }) (R := fun v b => RelV b.1 v) (enc := fun b : V × PyData => b.2) hob (each_vals rv) er (alike_of h1) (sortable_of h2_) (by rw [← hlen]; simpa using hz') (fun b hb => ?_) fun out hl hE => ?_
    · have := of_decide_eq_true (List.all_eq_true.mp h3 b.2 (List.mem_map.mpr ⟨b, hb, rfl⟩))
      show X.A.units + 1 + 1 + b.2.depth < cLine
      omega
    · obtain ⟨n2, hn2⟩ := PyProof.Rows.sortedHeap_at (vs := its) (out := out.toArray) hob
      refine ⟨.ref h'.objs.size, _, I1.laid (a := h'.objs.size) (o := .lst ((bs.mergeSort (PySem.W.dataLe false (·.2))).map (·.1))) (t' := st.toks) (fun b o e => (PyProof.Rows.sortedHeap_old (Nat.ne_of_lt (Heap.lt_size e)) (Heap.lt_size (ka b o e))).trans (ka b o e)) (Nat.le_refl _) ?_, rfl, q _ (I1.hok.fresh (Nat.le_refl _))⟩
      refine ⟨?_, out, n2, vals_each hE, hn2⟩
      rw [List.length_map, List.length_mergeSort, ← hlen]
      simpa using hz'
  refine wpAny_bind (wpAny_holding (wpAny_mono main (fun _ s' x => ?_) fun _ _ e => e))
  exact wpAny_pure ⟨_, rfl, x⟩
def fSortT : List D → Mem → R D := fun ds M => match ds with
  | [.tup xs] => match toPys M fuelD xs with
    | some ps => if okSort ps = true then some (.ref M.length, M ++ [.lst (sortD xs ps)]) else none
    | none => none
  | _ => none
theorem cs_sortDT : CaS (GX X fa) fSortT (rSortDT X.K) := fun m H M xs ds d M' Q hM r e k => by
  unfold fSortT at e
  split at e
  · rename_i ys
    cases q2 : toPys M fuelD ys with
    | none => rw [q2] at e; cases e
    | some ps =>
      rw [q2] at e
      simp only at e
      split at e
      · rename_i hok
        cases e
        obtain ⟨v, rfl, rv⟩ := one_of r
        cases rv with
        | @tup a _ vs ha rds =>
          obtain ⟨T, e1, e2, e3, hT⟩ := triples rds (toPys_dp hM _ _ _ _ q2 rds)
          have hV : ((T.map fun t => (t.1, t.2.2)).mergeSort (PySem.W.dataLe false (·.2))).map (·.1) = (T.mergeSort (PySem.W.dataLe false (·.2.2))).map (·.1) := by
            rw [← List.map_mergeSort (r := PySem.W.dataLe false (·.2.2)) (s := PySem.W.dataLe false (·.2)) (f := fun t : V × D × PyData => (t.1, t.2.2)) (l := T) (fun _ _ _ _ => rfl), List.map_map]
            rfl
          have hD : sortD ys ps = (T.mergeSort (PySem.W.dataLe false (·.2.2))).map (·.2.1) := by
            unfold sortD
            rw [← e2, ← e3, zip_maps, ← List.map_mergeSort (r := PySem.W.dataLe false (·.2.2)) (s := PySem.W.dataLe false (·.2)) (f := fun t : V × D × PyData => (t.2.1, t.2.2)) (l := T) (fun _ _ _ _ => rfl), List.map_map]
            rfl
          refine ⟨a, T.map fun t => (t.1, t.2.2), rfl, ?_, ?_, ?_, fun p hp => ?_⟩
          · rw [List.map_map]
            rw [← e1] at ha
            exact ha
          · intro b hb
            obtain ⟨t, ht, rfl⟩ := List.mem_map.mp hb
            exact (hT t ht).2
          · rw [List.map_map]
            rw [← e3] at hok
            exact hok
          · rw [hV]
            refine fin_push k hM hp ⟨_, upd_same, ?_⟩ _ (ref_last hM)
            rw [hD]
            exact (rds_map fun t ht => (hT t (List.mem_mergeSort.mp ht)).1).mono (List.prefix_append _ _) (Ext.new hp)
      · cases e
  · cases e
end
end Mi
set_option Elab.async false
set_option linter.all false
set_option maxRecDepth 100000
/-! defs as values; a name that holds a def, called -/
namespace Mi
open PySem PySem.Spec PyProof.Rows L2
section
variable {X : Cx} {fa : Nat → Addr} {tab : List (Str × List Str)} {call : CallF} {k : Nat} {x : Str} {ps : List Str} {p pos : Pos} {e : Expr} {es : List Expr} {evs : EvL}
/-- a def by its name -/
theorem l_fnval (i : Nat) (T : Fns X.prog X.w X.K X.mg X.base fa tab call k) (hi : tab[i]? = some (x, ps) := by rfl) (hg : Gl X x := by rfl) (hdb : (x == ("__debug__" : Str)) = false := by decide) : PE X (.Name x pos) (TEof (GX X fa) (eC (.fn i))) := by
  obtain ⟨hm, hk, fd, hb, F⟩ := T.ok i x ps hi
  refine (pe_glob (v := .ref (fa i)) hg hm rfl hdb).imp fun σ H Q ⟨m, M, ρ, d, M', hρ, hM, e, fin⟩ => ?_
  cases e
  exact fin.here hM _ (.fn i)
def eCallV (tab : List (Str × List Str)) (call : CallF) (i : Nat) (evs : EvL) : Ev := fun ρ M => match ρ[i]? with
  | some (some (.fn j)) => match tab[j]? with
    | some (_, ps) => bindO (evs ρ M) fun ds M1 => if ds.length = ps.length then call j ds M1 else none
    | none => none
  | _ => none
theorem l_fnV (i : Nat) (T : Fns X.prog X.w X.K X.mg X.base fa tab call k) (hr : Room k X.A) (hgd : X.A.guards = some []) (ha : PA X (e :: es) (TAof (GX X fa) evs)) (hN : X.N[i]? = some x := by rfl) (hv : Vis X.env.scope x := by first | exact Or.inl rfl | exact Or.inr (Or.inl rfl) | exact Or.inr (Or.inr rfl))
    (hd : (x == ("__debug__" : Str)) = false := by decide) (hcd : (x == ("__classdict__" : Str)) = false := by decide) (he : starEach (e :: es) X.env = (false, eval e X.env) :: starEach es X.env := by rfl) (hpl : (backTo pos (starEach es X.env)).any (·.1) = false := by rfl) :
    PE X (.Call (.Name x p) (e :: es) [] pos) (TEof (GX X fa) (eCallV tab call i evs)) := by
  refine ⟨fun pins s σ H Q I ⟨m, M, ρ, d, M', hρ, hM, e1, fin⟩ => ?_⟩
  unfold eCallV at e1
  split at e1
  · rename_i j hj
    split at e1
    · rename_i y ps' ht
      obtain ⟨v, hv1, rv⟩ := hρ.at_ i _ hj
      cases rv
      obtain ⟨hm, hk, fd, hb, F⟩ := T.ok j y ps' ht
      refine wpAny_Call_Name_kw (thn ((pe_var (pos := p) hN hv hd hcd).run pins s σ H (fun v H1 => v = .ref (fa j) ∧ H1 = H) I ⟨.ref (fa j), hv1, rfl, rfl⟩) fun u s1 ⟨v, H1, I1, r1, q1⟩ => ?_)
      obtain ⟨rfl, rfl⟩ := q1
      cases r1
      have args : TAof (GX X fa) evs σ H1 fun vs H2 => SpOf (GX X fa) ps'.length (call j) vs H2 Q E0 := by
        refine ta_bind hρ hM e1 fin fun m1 H2 M1 ds vs hρ1 hM1 rds e2 fin1 p1 x1 => ?_
        split at e2
        · rename_i hl
          exact ⟨by rw [← rds.length]; exact hl, m1, M1, ds, d, M', rds, hM1, e2, fin1⟩
        · cases e2
      refine PySem.W.callWith_K (h₀ := X.base) I.ok.mod.kin hk (thn (ha.run pos pins s1 σ _ _ I1 args) fun us s2 ⟨vs, H2, I2, r, q⟩ => ⟨I2.kIn, ?_⟩) he hpl
      exact fng_run F hr hgd hb I2 r q
    · cases e1
  · cases e1
end
end Mi
set_option Elab.async false
set_option linter.all false
set_option maxRecDepth 100000
/-! constants of the module: numbers, texts; tables with text keys, by number as defs are -/
namespace Mi
open PySem PySem.Spec PyProof.Rows L2
section
variable {X : Cx} {fa : Nat → Addr} {x : Str} {pos : Pos} {G : Gm}
theorem l_gint {i : Int} (hm : ∃ t, X.mg x = some (.int i t)) (hg : Gl X x := by rfl) (hdb : (x == ("__debug__" : Str)) = false := by decide) : PE X (.Name x pos) (TEof (GX X fa) (eC (.int i))) := by
  obtain ⟨t, hm⟩ := hm
  refine (pe_glob (v := .int i) hg hm ⟨t, rfl⟩ hdb).imp fun σ H Q ⟨m, M, ρ, d, M', hρ, hM, e, fin⟩ => ?_
  cases e
  exact fin.here hM _ (.int i)
theorem l_gstr {z : Str} (hm : ∃ t, X.mg x = some (.str z t)) (hg : Gl X x := by rfl) (hdb : (x == ("__debug__" : Str)) = false := by decide) : PE X (.Name x pos) (TEof (GX X fa) (eC (.str z))) := by
  obtain ⟨t, hm⟩ := hm
  refine (pe_glob (v := .str z) hg hm ⟨t, rfl⟩ hdb).imp fun σ H Q ⟨m, M, ρ, d, M', hρ, hM, e, fin⟩ => ?_
  cases e
  exact fin.here hM _ (.str z)
/-- a table, as what stands at fa t -/
theorem l_gtab (t : Nat) (hm : X.mg x = some (.ref (fa t))) (hg : Gl X x := by rfl) (hdb : (x == ("__debug__" : Str)) = false := by decide) : PE X (.Name x pos) (TEof (GX X fa) (eC (.fn t))) := by
  refine (pe_glob (v := .ref (fa t)) hg hm rfl hdb).imp fun σ H Q ⟨m, M, ρ, d, M', hρ, hM, e, fin⟩ => ?_
  cases e
  exact fin.here hM _ (.fn t)
/-- the tables -/
abbrev Tabs := Nat → Option (List (Str × D))
structure TabsOk (K : PySem.W.Frag) (w : World) (fa : Nat → Addr) (tb : Tabs) : Prop where
  dict : ∀ t kvs, tb t = some kvs → ∃ es n, KDict K w (fa t) es n
  here : ∀ t kvs z d, tb t = some kvs → kvs.lookup z = some d → ∃ u v, PySem.W.nsIn K (fa t) z = some (some u) ∧ RelV v u ∧ ∀ H m, RD ⟨K, fa⟩ H m d v
  not : ∀ t kvs z, tb t = some kvs → kvs.lookup z = none → PySem.W.nsIn K (fa t) z = some none
def oTab (tb : Tabs) : D → D → Mem → R D := fun x y M => match x, y with
  | .fn t, .str z => match tb t with
    | some kvs => (kvs.lookup z).map fun d => (d, M)
    | none => none
  | _, _ => none
theorem os_tab {tb : Tabs} (T : TabsOk X.K X.w fa tb) : OpS (GX X fa) (oTab tb) (rIxD X.K X.w) := fun m H M x y dx dy d M' Q hM rx ry e k => by
  unfold oTab at e
  split at e
  · rename_i t z
    cases q : tb t with
    | none => rw [q] at e; cases e
    | some kvs =>
      rw [q] at e
      simp only at e
      cases q2 : kvs.lookup z with
      | none => rw [q2] at e; cases e
      | some d2 =>
        rw [q2] at e
        cases e
        cases rx
        cases ry
        obtain ⟨es, n, D⟩ := T.dict t kvs q
        obtain ⟨u, v, e1, e2, e3⟩ := T.here t kvs z d q q2
        exact ⟨_, z, v, rfl, rfl, ⟨es, n, u, D.at_, D.lit, e1, e2⟩, k.here hM v (e3 H m)⟩
  · cases e
/-- z in a table -/
def oInTab (tb : Tabs) (neg : Bool) : D → D → Mem → R D := fun x y M => match x, y with
  | .str z, .fn t => match tb t with
    | some kvs => some (.bl (if neg then !(kvs.lookup z).isSome else (kvs.lookup z).isSome), M)
    | none => none
  | _, _ => none
def rInTab (K : PySem.W.Frag) (w : World) (neg : Bool) : R2 := fun x y H Q => ∃ (d : Addr) (es : Array DictEntry) (n : Nat) (z : Str) (r : Option Value), KDict K w d es n ∧ x = .str z ∧ y = .ref d ∧ PySem.W.nsIn K d z = some r ∧ Q (.bl (if neg then !r.isSome else r.isSome)) H
theorem op_inTab : OpR X (compareOp .In) (rInTab X.K X.w false) := fun pins s σ H x y v u Q I rx ry ⟨d, es, n, z, r, D, e1, e2, e3, q⟩ => op_in_kd D pins s σ H x y v u Q I rx ry ⟨z, r, e1, e2, e3, q⟩
theorem op_notInTab : OpR X (compareOp .NotIn) (rInTab X.K X.w true) := fun pins s σ H x y v u Q I rx ry ⟨d, es, n, z, r, D, e1, e2, e3, q⟩ => op_notIn_kd D pins s σ H x y v u Q I rx ry ⟨z, r, e1, e2, e3, q⟩
theorem os_inTab {tb : Tabs} {neg : Bool} (T : TabsOk X.K X.w fa tb) : OpS (GX X fa) (oInTab tb neg) (rInTab X.K X.w neg) := fun m H M x y dx dy d M' Q hM rx ry e k => by
  unfold oInTab at e
  split at e
  · rename_i z t
    cases q : tb t with
    | none => rw [q] at e; cases e
    | some kvs =>
      rw [q] at e
      cases e
      cases rx
      cases ry
      obtain ⟨es, n, D⟩ := T.dict t kvs q
      cases q2 : kvs.lookup z with
      | none =>
        refine ⟨_, es, n, z, none, D, rfl, rfl, T.not t kvs z q q2, ?_⟩
        rw [q2] at k
        exact k.here hM _ (.bl _)
      | some d2 =>
        obtain ⟨u, v, e1, e2, e3⟩ := T.here t kvs z d2 q q2
        refine ⟨_, es, n, z, some u, D, rfl, rfl, e1, ?_⟩
        rw [q2] at k
        exact k.here hM _ (.bl _)
  · cases e
end
end Mi
set_option Elab.async false
set_option linter.all false
set_option maxRecDepth 100000
/-! the head: facts, defs, tables with text keys, and a look of one's own -/
namespace Mi
open PySem PySem.Spec PyProof.Rows L2
abbrev AlC : Type := He.AlT × Bool
def obsC (fl : List He.Fa) (fn : List He.DefD) (ts : List He.Tab) (ck : PySem.W.Frag → Bool) (K : PySem.W.Frag) : AlC := (He.obsT fl fn ts K, ck K)
def obsCG (n : Nat) (fl : List He.Fa) (fn : List He.DefD) (ts : List He.Tab) (ck : PySem.W.Frag → Bool) (g : Addr → Option Obj) : AlC := obsC fl fn ts ck (He.frG g (He.asD g n))
def hookC (n : Nat) (fl : List He.Fa) (fn : List He.DefD) (ts : List He.Tab) (ck : PySem.W.Frag → Bool) : PySem.W.Hook where
  α := AlC
  obs := fun s => obsCG n fl fn ts ck s.heap.get?
  val := fun w => (He.valT fn ts w, true)
  says := fun w h => ∃ K : PySem.W.Frag, K.In h ∧ He.SaysT fl fn ts w K ∧ ck K = true
  of := fun _ _ e => ⟨_, He.frG_in, congrArg (fun z : AlC => z.1) e, congrArg (fun z : AlC => z.2) e⟩
  keeps := fun _ _ _ ⟨K, hK, c⟩ k => ⟨K, PySem.W.Frag.In.keeps hK k, c⟩
theorem obsCG_eq {n : Nat} {fl : List He.Fa} {fn : List He.DefD} {ts : List He.Tab} {ck : PySem.W.Frag → Bool} {g : Addr → Option Obj} {s : Shared} (h : ∀ a, g a = s.heap.get? a) : obsCG n fl fn ts ck g = (hookC n fl fn ts ck).obs s := by
  have e : g = s.heap.get? := funext h
  rw [e] <;> rfl
/-! what a table says of other keys -/
theorem keys_find {P : Params} {z : Str} : ∀ {l : List DictEntry} {ks : List Str}, l.map He.keyOf = He.keysIn P ks → z ∉ ks → l.find? (·.key.isStr z) = none ∧ l.any (·.refKey) = false
  | [], _, _, _ => ⟨rfl, rfl⟩
  | e :: r, [], h, _ => by cases h
  | e :: r, k :: ks, h, hz => by
    have h1 : He.keyOf e :: r.map He.keyOf = some (k, PyData.keyHash P k) :: He.keysIn P ks := h
    injection h1 with h2 h3
    obtain ⟨i1, i2⟩ := keys_find h3 fun q => hz (List.mem_cons_of_mem _ q)
    unfold He.keyOf at h2
    split at h2
    · rename_i x t q
      have h4 := Option.some.inj h2
      obtain ⟨h5, h6⟩ := Prod.mk.inj h4
      have hne : x ≠ z := fun w => hz (by rw [← w, h5]; exact List.mem_cons_self)
      have e1 : e.key.isStr z = false := by
        rw [q]
        show (x == z) = false
        exact beq_eq_false_iff_ne.mpr hne
      have e2 : e.refKey = false := by
        unfold DictEntry.refKey
        rw [q]
      exact ⟨by rw [List.find?_cons, e1]; exact i1, by rw [List.any_cons, e2, i2]; rfl⟩
    · cases h2
theorem tab_not {K : PySem.W.Frag} {P : Params} {a : Addr} {ks : List Str} {z : Str} (h : He.dicW K a = some (He.keysIn P ks)) (hz : z ∉ ks) : PySem.W.nsIn K a z = some none := by
  unfold He.dicW at h
  unfold PySem.W.nsIn
  split at h
  · rename_i c es n sl q
    rw [q]
    simp only
    split at h
    · obtain ⟨h1, h2⟩ := keys_find (Option.some.inj h) hz
      rw [h1]
      simp only
      rw [h2]
      rfl
    · cases h
  · cases h
theorem says_keys {fl : List He.Fa} {fn : List He.DefD} {ts : List He.Tab} {w : World} {K : PySem.W.Frag} (c : He.SaysT fl fn ts w K) (i : Nat) {t : He.Tab} (h : ts[i]? = some t) : He.dicW K (t.1 K) = some (He.keysIn w.params t.2) := by
  have e : ts.map (fun t => He.dicW K (t.1 K)) = ts.map fun t => some (He.keysIn w.params t.2) := congrArg (fun z : He.AlT => z.2) c
  have e2 : (ts.map fun t => He.dicW K (t.1 K))[i]? = (ts.map fun t => some (He.keysIn w.params t.2))[i]? := by rw [e]
  rw [List.getElem?_map, List.getElem?_map, h] at e2
  exact Option.some.inj e2
/-- a table's rows: data beside the library's values -/
inductive DvD (K : PySem.W.Frag) (fa : Nat → Addr) : He.Dv → D → Prop
  | fn (x : Str) (j : Nat) : fa j = He.ga K x → DvD K fa (.glo x) (.fn j)
  | int (i : Int) : DvD K fa (.int i) (.int i)
  | str (x : Str) : DvD K fa (.str x) (.str x)
  | bl (b : Bool) : DvD K fa (.bl b) (.bl b)
  | non : DvD K fa .non .non
theorem DvD.rd {K : PySem.W.Frag} {fa : Nat → Addr} {dv : He.Dv} {d : D} (h : DvD K fa dv d) (H : Hp) (m : List Addr) : RD ⟨K, fa⟩ H m d (dv.v K) := by
  cases h with
  | fn x j e =>
    show RD ⟨K, fa⟩ H m (.fn j) (.ref (He.ga K x))
    rw [← e]
    exact .fn j
  | int i => exact .int i
  | str x => exact .str x
  | bl b => exact .bl b
  | non => exact .non
abbrev RowT := Str × He.Dv × D
theorem rows_lookup {z : Str} {d : D} : ∀ {rows : List RowT}, (rows.map fun r => (r.1, r.2.2)).lookup z = some d → ∃ r ∈ rows, r.1 = z ∧ r.2.2 = d
  | [], h => by cases h
  | r :: rows, h => by
    rw [List.map_cons, List.lookup_cons] at h
    cases q : (z == r.1) with
    | true =>
      rw [q] at h
      exact ⟨r, List.mem_cons_self, (beq_iff_eq.mp q).symm, Option.some.inj h⟩
    | false =>
      rw [q] at h
      obtain ⟨r', h1, h2⟩ := rows_lookup h
      exact ⟨r', List.mem_cons_of_mem _ h1, h2⟩
theorem rows_absent {z : Str} : ∀ {rows : List RowT}, (rows.map fun r => (r.1, r.2.2)).lookup z = none → z ∉ rows.map (·.1)
  | [], _ => fun h => by cases h
  | r :: rows, h => by
    rw [List.map_cons, List.lookup_cons] at h
    cases q : (z == r.1) with
    | true => rw [q] at h; cases h
    | false =>
      rw [q] at h
      intro hm
      rcases List.mem_cons.mp hm with e | hm
      · rw [e, beq_self_eq_true] at q
        cases q
      · exact rows_absent h hm
/-- tables out of what the head says -/
theorem tabs_ok {K : PySem.W.Frag} {w : World} {fa : Nat → Addr} {tb : Nat → Option (List RowT)}
    (h : ∀ t rows, tb t = some rows → (∃ es n, KDict K w (fa t) es n) ∧ He.dicW K (fa t) = some (He.keysIn w.params (rows.map (·.1))) ∧ He.valsB K (fa t) (rows.map fun r => (r.1, r.2.1)) = true ∧ ∀ r ∈ rows, DvD K fa r.2.1 r.2.2) :
    TabsOk K w fa fun t => (tb t).map fun rows => rows.map fun r => (r.1, r.2.2) := by
  have inv : ∀ {t kvs}, ((tb t).map fun rows => rows.map fun r => (r.1, r.2.2)) = some kvs → ∃ rows, tb t = some rows ∧ kvs = rows.map fun r => (r.1, r.2.2) := fun {t kvs} e => by
    obtain ⟨rows, e1, e2⟩ := Option.map_eq_some_iff.mp e
    exact ⟨rows, e1, e2.symm⟩
  constructor
  · intro t kvs e
    obtain ⟨rows, e1, _⟩ := inv e
    exact (h t rows e1).1
  · intro t kvs z d e hl
    obtain ⟨rows, e1, rfl⟩ := inv e
    obtain ⟨_, _, h3, h4⟩ := h t rows e1
    obtain ⟨r, hr, rfl, rfl⟩ := rows_lookup hl
    obtain ⟨u, hu, rv⟩ := He.valsB_ok h3 (q := (r.1, r.2.1)) (List.mem_map.mpr ⟨r, hr, rfl⟩)
    exact ⟨u, _, hu, rv, fun H m => (h4 r hr).rd H m⟩
  · intro t kvs z e hl
    obtain ⟨rows, e1, rfl⟩ := inv e
    obtain ⟨_, h2, _, _⟩ := h t rows e1
    exact tab_not h2 (rows_absent hl)
end Mi
set_option Elab.async false
set_option linter.all false
set_option maxRecDepth 100000
/-! going along data functions: what is asked of the rest -/
namespace Mi
open PySem PySem.Spec PyProof.Rows L2
def Ok {α : Type} (e : R α) (Q : α → Mem → Prop) : Prop := ∃ a M, e = some (a, M) ∧ Q a M
section
variable {α β : Type} {Q : α → Mem → Prop}
@[simp] theorem ok_some {a : α} {M : Mem} : Ok (some (a, M)) Q ↔ Q a M := ⟨fun ⟨_, _, e, q⟩ => by cases e; exact q, fun q => ⟨_, _, rfl, q⟩⟩
@[simp] theorem ok_bind {x : R β} {f : β → Mem → R α} : Ok (bindO x f) Q ↔ Ok x fun b M => Ok (f b M) Q := by
  constructor
  · rintro ⟨a, M, e, q⟩
    cases z : x with
    | none => rw [z] at e; cases e
    | some p => rw [z] at e; exact ⟨p.1, p.2, rfl, a, M, e, q⟩
  · rintro ⟨b, M, e, a, M', e2, q⟩
    exact ⟨a, M', by rw [e]; exact e2, q⟩
theorem Ok.mono {e : R α} {Q' : α → Mem → Prop} (h : Ok e Q) (i : ∀ a M, Q a M → Q' a M) : Ok e Q' := let ⟨a, M, x, q⟩ := h; ⟨a, M, x, i a M q⟩
@[simp] theorem ok_map {x : Option β} {f : β → α × Mem} : Ok (x.map f) Q ↔ ∃ b, x = some b ∧ Q (f b).1 (f b).2 := by
  cases x with
  | none => exact ⟨fun ⟨_, _, e, _⟩ => (by cases e), fun ⟨_, e, _⟩ => (by cases e)⟩
  | some b => exact ⟨fun ⟨a, M, e, q⟩ => by have e' : f b = (a, M) := Option.some.inj e; exact ⟨b, rfl, by rw [e']; exact q⟩, fun ⟨_, e, q⟩ => by cases e; exact ⟨_, _, rfl, q⟩⟩
@[simp] theorem ok_ite {c : Prop} [Decidable c] {x y : R α} : Ok (if c then x else y) Q ↔ if c then Ok x Q else Ok y Q := by split <;> rfl
end
/-! memories -/
/-- all stays but what stands at these -/
def Kp (ps : List Nat) (M M' : Mem) : Prop := M.length ≤ M'.length ∧ ∀ n, n < M.length → n ∉ ps → M'[n]? = M[n]?
theorem Kp.refl {ps : List Nat} {M : Mem} : Kp ps M M := ⟨Nat.le_refl _, fun _ _ _ => rfl⟩
theorem Kp.trans {ps : List Nat} {M M1 M2 : Mem} (a : Kp ps M M1) (b : Kp ps M1 M2) : Kp ps M M2 := ⟨Nat.le_trans a.1 b.1, fun n h1 h2 => (b.2 n (Nat.lt_of_lt_of_le h1 a.1) h2).trans (a.2 n h1 h2)⟩
theorem Kp.wide {ps qs : List Nat} {M M1 : Mem} (a : Kp ps M M1) (h : ∀ n, n < M.length → n ∈ ps → n ∈ qs) : Kp qs M M1 := ⟨a.1, fun n h1 h2 => a.2 n h1 fun z => h2 (h n h1 z)⟩
theorem Kp.push {ps : List Nat} {M : Mem} {g : Mem} : Kp ps M (M ++ g) := ⟨by rw [List.length_append]; omega, fun n h _ => List.getElem?_append_left h⟩
theorem Kp.set {ps : List Nat} {M : Mem} {n : Nat} {o : MO} (h : n ∈ ps) : Kp ps M (M.set n o) := ⟨by rw [List.length_set]; exact Nat.le_refl _, fun k _ hk => List.getElem?_set_ne fun z : n = k => hk (by rw [← z]; exact h)⟩
theorem Kp.get {ps : List Nat} {M M1 : Mem} (a : Kp ps M M1) {n : Nat} {o : MO} (h : M[n]? = some o) (hn : n ∉ ps) : M1[n]? = some o := (a.2 n (List.getElem?_eq_some_iff.mp h).1 hn).trans h
theorem lt_of_get {M : Mem} {n : Nat} {o : MO} (h : M[n]? = some o) : n < M.length := (List.getElem?_eq_some_iff.mp h).1
theorem lstAt_of {M : Mem} {n : Nat} {xs : List D} (h : M[n]? = some (.lst xs)) : lstAt M n = some xs := by unfold lstAt; rw [h]
theorem lstAt_of' {M : Mem} {n : Nat} {xs : List D} (h : M[n]? = some (.flst xs)) : lstAt M n = some xs := by unfold lstAt; rw [h]
theorem push_last {M : Mem} {o : MO} : (M ++ [o])[M.length]? = some o := by rw [List.getElem?_append_right (Nat.le_refl _), Nat.sub_self]; rfl
theorem lst_last {M : Mem} {xs : List D} : lstAt (M ++ [.lst xs]) M.length = some xs := lstAt_of push_last
theorem set_self {M : Mem} {n : Nat} {o u : MO} (h : M[n]? = some u) : (M.set n o)[n]? = some o := List.getElem?_set_self (lt_of_get h)
theorem append_get {M : Mem} {g : Mem} {n : Nat} {o : MO} (h : M[n]? = some o) : (M ++ g)[n]? = some o := by rw [List.getElem?_append_left (lt_of_get h)]; exact h
/-! ints -/
theorem bits_le {i : Int} {k : Nat} (h : i.natAbs < 2 ^ k) : Builtin.Int.intBits i ≤ k := by
  unfold Builtin.Int.intBits
  split
  · omega
  · rename_i h0
    have : i.natAbs ≠ 0 := by intro z; apply h0; simp; omega
    have := (Nat.log2_lt this).mpr h
    omega
theorem log_lt {i : Int} {k : Nat} (h : i.natAbs < 2 ^ k) (hk : 0 < k) : i.natAbs.log2 < k := by
  by_cases z : i.natAbs = 0
  · rw [z]; simpa using hk
  · exact (Nat.log2_lt z).mpr h
@[simp] theorem ixN_nat {n i : Nat} (h : i < n) : ixN n (i : Int) = some i := by
  unfold ixN
  simp
  omega

/-! the laws' own drawing -/
/-- a pot: three ints -/
def PotAt (M : Mem) (p : Nat) (k : Nat) : Prop := ∃ a b c : Int, M[p]? = some (.lst [.int a, .int b, .int c]) ∧ 0 ≤ b ∧ b < 2305843009213693921 ∧ 0 ≤ c ∧ c ≤ k
theorem PotAt.keep {M M' : Mem} {p k : Nat} {ps : List Nat} (h : PotAt M p k) (x : Kp ps M M') (hp : p ∉ ps) : PotAt M' p k := let ⟨a, b, c, e, r⟩ := h; ⟨a, b, c, x.get e hp, r⟩
theorem PotAt.lt {M : Mem} {p k : Nat} (h : PotAt M p k) : p < M.length := let ⟨_, _, _, e, _⟩ := h; lt_of_get e
theorem PotAt.up {M : Mem} {p k k' : Nat} (h : PotAt M p k) (hk : k ≤ k') : PotAt M p k' := let ⟨a, b, c, e, r1, r2, r3, r4⟩ := h; ⟨a, b, c, e, r1, r2, r3, by omega⟩
abbrev primesD : List D := [.int 2147483647, .int 2147483629, .int 2147483587, .int 2147483579, .int 2147483563]
def takeBody (A B C E : Int) : Es :=
  (sSeq (sIf (bOf (eBin oGt (eBin oIx (eVar 0) (eC (.int 0))) (eC (.int 0)))) (sSeq (sSet 2 (eBin oMod (eCall fInt (eCons (eBin oIx (eVar 0) (eC (.int 0))) eNil)) (eVar 1)))
    (sSeq (sSub (eVar 0) (eC (.int 0)) (eBin oDiv (eBin oIx (eVar 0) (eC (.int 0))) (eVar 1)))
    (sRet (eVar 2)))) sNil)
    (sSeq (sSub (eVar 0) (eC (.int 2)) (eBin oAdd (eBin oIx (eVar 0) (eC (.int 2))) (eC (.int 1))))
    (sSeq (sSet 3 (eBin oIx (eLst (eCons (eC (.int 2147483647)) (eCons (eC (.int 2147483629)) (eCons (eC (.int 2147483587)) (eCons (eC (.int 2147483579)) (eCons (eC (.int 2147483563)) eNil)))))) (eBin oMod (eCall fInt (eCons (eBin oIx (eVar 0) (eC (.int 2))) eNil)) (eC (.int 5)))))
    (sSeq (sSet 4 (eBin oMod (eCall fInt (eCons (eBin oPow (eCall fInt (eCons (eBin oAdd (eBin oAdd (eBin oIx (eVar 0) (eC (.int 1))) (eBin oMul (eBin oMul (eC (.int A)) (eBin oIx (eVar 0) (eC (.int 2)))) (eBin oIx (eVar 0) (eC (.int 2))))) (eC (.int B))) eNil)) (eC (.int 3))) eNil)) (eVar 3)))
    (sSeq (sSet 4 (eBin oMod (eCall fInt (eCons (eBin oMul (eVar 4) (eBin oAdd (eBin oMod (eCall fInt (eCons (eVar 4) eNil)) (eC (.int C))) (eBin oMul (eC (.int E)) (eBin oIx (eVar 0) (eC (.int 2)))))) eNil)) (eC (.int 2305843009213693907))))
    (sRet (eBin oMod (eCall fInt (eCons (eBin oDiv (eVar 4) (eC (.int 167))) eNil)) (eVar 1))))))))
theorem at0 {a b c : D} : atD [a, b, c] 0 = some a := rfl
theorem at1 {a b c : D} : atD [a, b, c] 1 = some b := rfl
theorem at2 {a b c : D} : atD [a, b, c] 2 = some c := rfl
theorem mul_nn {x y m n : Int} (h1 : 0 ≤ x) (h2 : x ≤ m) (h3 : 0 ≤ y) (h4 : y ≤ n) : 0 ≤ x * y ∧ x * y ≤ m * n := ⟨Int.mul_nonneg h1 h3, Int.mul_le_mul h2 h4 h3 (by omega)⟩
theorem prime_at {c : Int} (h : 0 ≤ c) : ∃ q : Int, atD primesD (c % 5) = some (.int q) ∧ 2147483563 ≤ q ∧ q ≤ 2147483647 := by
  have h1 : 0 ≤ c % 5 := Int.emod_nonneg _ (by decide)
  have h2 : c % 5 < 5 := Int.emod_lt_of_pos _ (by decide)
  generalize c % 5 = r at h1 h2
  have : r = 0 ∨ r = 1 ∨ r = 2 ∨ r = 3 ∨ r = 4 := by omega
  rcases this with rfl | rfl | rfl | rfl | rfl
  · exact ⟨2147483647, rfl, by decide, by decide⟩
  · exact ⟨2147483629, rfl, by decide, by decide⟩
  · exact ⟨2147483587, rfl, by decide, by decide⟩
  · exact ⟨2147483579, rfl, by decide, by decide⟩
  · exact ⟨2147483563, rfl, by decide, by decide⟩
theorem take_spec {A B C E u : Int} {M : Mem} {p k : Nat} (hA : 0 ≤ A ∧ A ≤ 1000000) (hB : 0 ≤ B ∧ B ≤ 1000000) (hC : 0 < C ∧ C ≤ 1000000) (hE : 0 ≤ E ∧ E ≤ 1000000) (h : PotAt M p k) (hk : k < 1000000000) (hu : 0 < u) (hu2 : u < 18446744073709551616) :
    Ok (runB 5 (takeBody A B C E) [.ref p, .int u] M) fun d M' => ∃ r : Int, d = .int r ∧ 0 ≤ r ∧ r < u ∧ PotAt M' p (k + 1) ∧ Kp [p] M M' := by
  obtain ⟨a, b, c, e, b1, b2, c1, c2⟩ := h
  have l0 := lstAt_of e
  have hu3 : u.natAbs.log2 < 9000 := log_lt (by have : u.natAbs < 2 ^ 64 := by omega
                                                exact Nat.lt_of_lt_of_le this (Nat.pow_le_pow_right (by decide) (by decide))) (by decide)
  unfold runB takeBody
  by_cases ha : 0 < a
  · simp [startD, sSeq, sIf, bOf, eBin, oGt, oI0, oIx, eVar, eC, sSet, eCall, eCons, eNil, fInt, oMod, oI, sSub, oDiv, cDiv, sRet, setL, l0, e, at0, ha, hu, hu3, ixN, List.set]
    exact ⟨Int.emod_nonneg _ (by omega), Int.emod_lt_of_pos _ hu, ⟨_, b, c, set_self e, b1, b2, c1, by omega⟩, Kp.set (by simp)⟩
  · have e1 := set_self (o := .lst [.int a, .int b, .int (c + 1)]) e
    have l1 : lstAt (M.set p (.lst [.int a, .int b, .int (c + 1)])) p = some [.int a, .int b, .int (c + 1)] := lstAt_of e1
    have l2 : lstAt (M.set p (.lst [.int a, .int b, .int (c + 1)]) ++ [.lst primesD]) p = some [.int a, .int b, .int (c + 1)] := lstAt_of (append_get e1)
    have l3 : lstAt (M.set p (.lst [.int a, .int b, .int (c + 1)]) ++ [.lst primesD]) M.length = some primesD := by
      have := lst_last (M := M.set p (.lst [.int a, .int b, .int (c + 1)])) (xs := primesD)
      rw [List.length_set] at this
      exact this
    obtain ⟨q, q1, q2, q3⟩ := prime_at (c := c + 1) (by omega)
    have c3 : 0 ≤ c + 1 := by omega
    have c4 : c + 1 ≤ 1000000000 := by omega
    have sz : (5 : Nat) ≤ sizeLine := by rw [sizeLine_eq]; decide
    unfold primesD at l2 l3 q1
    obtain ⟨m1, m2⟩ := mul_nn hA.1 hA.2 c3 c4
    obtain ⟨m3, m4⟩ := mul_nn m1 m2 c3 c4
    have k1 : A.natAbs.log2 + (c + 1).natAbs.log2 < 1000000 := by
      have x1 : A.natAbs.log2 < 64 := log_lt (by omega) (by decide)
      have x2 : (c + 1).natAbs.log2 < 64 := log_lt (by omega) (by decide)
      omega
    have k2 : (A * (c + 1)).natAbs.log2 + (c + 1).natAbs.log2 < 1000000 := by
      have x1 : (A * (c + 1)).natAbs.log2 < 64 := log_lt (by omega) (by decide)
      have x2 : (c + 1).natAbs.log2 < 64 := log_lt (by omega) (by decide)
      omega
    generalize hy : b + A * (c + 1) * (c + 1) + B = y
    have y1 : 0 ≤ y ∧ y < 2 ^ 90 := by subst hy; constructor <;> omega
    have k3 : CPowB y 3 := ⟨by decide, by
      have := bits_le (i := y) (k := 90) (by omega)
      omega⟩
    have hq : 0 < q := by omega
    have z1 : 0 ≤ y ^ 3 % q := Int.emod_nonneg _ (by omega)
    have z2 : y ^ 3 % q < q := Int.emod_lt_of_pos _ hq
    generalize hz : y ^ 3 % q = z at z1 z2
    have w1 : 0 ≤ z % C := Int.emod_nonneg _ (by omega)
    have w2 : z % C < C := Int.emod_lt_of_pos _ hC.1
    obtain ⟨m5, m6⟩ := mul_nn hE.1 hE.2 c3 c4
    have k4 : E.natAbs.log2 + (c + 1).natAbs.log2 < 1000000 := by
      have x1 : E.natAbs.log2 < 64 := log_lt (by omega) (by decide)
      have x2 : (c + 1).natAbs.log2 < 64 := log_lt (by omega) (by decide)
      omega
    have k5 : z.natAbs.log2 + (z % C + E * (c + 1)).natAbs.log2 < 1000000 := by
      have x1 : z.natAbs.log2 < 64 := log_lt (by omega) (by decide)
      have x2 : (z % C + E * (c + 1)).natAbs.log2 < 64 := log_lt (by omega) (by decide)
      omega
    simp [startD, sSeq, sIf, bOf, eBin, oGt, oI0, oIx, eVar, eC, sSet, eCall, eCons, eNil, fInt, oMod, oMul, cMul, oPow, cPow, oI, sSub, oDiv, cDiv, sRet, setL, l0, l1, l2, l3, e, at0, at1, at2, ha, hu, hu3, ixN, List.set, sNil, oAdd, eLst, q1, sz, k1, k2, hy, k3, hq, hz, hC.1, k4, k5]
    have t1 : 0 ≤ z * (z % C + E * (c + 1)) % 2305843009213693907 / 167 % u := Int.emod_nonneg _ (by omega)
    have t2 : z * (z % C + E * (c + 1)) % 2305843009213693907 / 167 % u < u := Int.emod_lt_of_pos _ hu
    rw [if_pos (by decide)]
    exact ⟨t1, t2, ⟨a, b, c + 1, append_get e1, b1, b2, by omega, by omega⟩, (Kp.set (by simp)).trans Kp.push⟩
/-- some[take(pot, len(some))] -/
def ofBody (call : CallF) (ti : Nat) : Es :=
  (sRet (eBin oIx (eVar 1) (eCall (call ti) (eCons (eVar 0) (eCons (eCall fLen (eCons (eVar 1) eNil)) eNil)))))
theorem fLen_items {M : Mem} {d : D} {xs : List D} (h : itemsOf M d = some xs) : fLen [d] M = some (.int xs.length, M) := by
  unfold itemsOf at h
  split at h
  · cases h; rfl
  · rename_i n
    have h' : lstAt M n = some xs := h
    unfold fLen
    simp only [h']
    unfold lstAt at h'
    split at h' <;> first | (rename_i q; rw [q]) | cases h'
  · cases h
theorem oIx_items {M : Mem} {d : D} {xs : List D} (h : itemsOf M d = some xs) {i : Int} (h0 : 0 ≤ i) (h1 : i < xs.length) : ∃ x, x ∈ xs ∧ oIx d (.int i) M = some (x, M) := by
  have hn : i.toNat < xs.length := by omega
  have hx : atD xs i = some xs[i.toNat] := by
    unfold atD ixN
    rw [if_pos h0, if_pos h1]
    exact List.getElem?_eq_getElem hn
  refine ⟨_, List.getElem_mem hn, ?_⟩
  unfold itemsOf at h
  split at h
  · cases h
    unfold oIx
    simp only [hx]
    rfl
  · unfold oIx
    simp only [h, hx]
    rfl
  · cases h
theorem of_spec {call : CallF} {ti : Nat} {M : Mem} {p k : Nat} {d : D} {xs : List D}
    (take : ∀ {M : Mem} {p k : Nat} {u : Int}, PotAt M p k → k < 1000000000 → 0 < u → u < 18446744073709551616 → Ok (call ti [.ref p, .int u] M) fun d M' => ∃ r : Int, d = .int r ∧ 0 ≤ r ∧ r < u ∧ PotAt M' p (k + 1) ∧ Kp [p] M M')
    (h : PotAt M p k) (hk : k < 1000000000) (hd : itemsOf M d = some xs) (hd2 : ∀ M', Kp [p] M M' → itemsOf M' d = some xs) (h0 : 0 < xs.length) (h1 : xs.length < 18446744073709551616) :
    Ok (runB 2 (ofBody call ti) [.ref p, d] M) fun x M' => x ∈ xs ∧ PotAt M' p (k + 1) ∧ Kp [p] M M' := by
  unfold runB ofBody
  simp [startD, sRet, eBin, eVar, eCall, eCons, eNil, fLen_items hd]
  refine (take h hk (u := xs.length) (by omega) (by omega)).mono ?_
  rintro _ M' ⟨r, rfl, r1, r2, r3, r4⟩
  obtain ⟨x, x1, x2⟩ := oIx_items (hd2 M' r4) r1 r2
  simp [x2]
  exact ⟨x1, r3, r4⟩
/-- list(range(max(1, min(most, len(script))))) -/
def cellsBody : Es :=
  (sRet (eLrg (eCall fMax (eCons (eC (.int 1)) (eCons (eCall fMin (eCons (eVar 1) (eCons (eCall fLen (eCons (eVar 0) eNil)) eNil))) eNil)))))
def potBody (A B C E F : Int) : Es :=
  (sSeq (sSet 2 (eIf (bOf (eBin oLt (eVar 1) (eCall fLen (eCons (eVar 0) eNil)))) (eBin oIx (eVar 0) (eVar 1)) (eBin oAdd (eBin oAdd (eBin oMod (eCall fSum (eCons (eSl (eVar 0) poNone (poSome (eC (.int 1)))) eNil)) (eC (.int 1000003))) (eBin oMul (eC (.int A)) (eVar 1))) (eC (.int B)))))
    (sSeq (sSet 3 (eBin oMul (eBin oMod (eCall fInt (eCons (eCall fAbs (eCons (eVar 2) eNil)) eNil)) (eBin oPow (eBin oPow (eC (.int 10)) (eC (.int 60))) (eC (.int 5)))) (eCall fInt (eCons (eBin oGe (eCall fAbs (eCons (eVar 2) eNil)) (eBin oPow (eC (.int 10)) (eC (.int 18)))) eNil))))
    (sSeq (sSet 4 (eBin oMod (eCall fInt (eCons (eVar 2) eNil)) (eC (.int 2305843009213693951))))
    (sRet (eLst (eCons (eVar 3) (eCons (eBin oMod (eCall fInt (eCons (eBin oAdd (eBin oAdd (eBin oMul (eVar 4) (eC (.int C))) (eBin oMul (eBin oMul (eC (.int E)) (eVar 1)) (eVar 1))) (eC (.int F))) eNil)) (eC (.int 2305843009213693921))) (eCons (eC (.int 0)) eNil))))))))
theorem cells_spec {M : Mem} {s : Nat} {ns : List Int} {most : Nat} (h : M[s]? = some (.flst (ns.map .int))) (hm : most < 1000) (hn : ns.length < 1000) :
    Ok (runB 2 cellsBody [.ref s, .int most] M) fun d M' => d = .ref M.length ∧ M' = M ++ [.lst (rgD 0 (max 1 (min most ns.length)))] := by
  unfold runB cellsBody
  have l := fLen_items (show itemsOf M (.ref s) = some (ns.map .int) from lstAt_of' h)
  simp [startD, sRet, eVar, eCall, eCons, eNil, l, eLrg, eC, fMax, fMin]
  have e : (if (1 : Int) < (if ns.length < most then (ns.length : Int) else most) then (if ns.length < most then (ns.length : Int) else most) else 1) = ((max 1 (min most ns.length) : Nat) : Int) := by
    split <;> split <;> omega
  rw [e, if_pos ⟨by omega, by omega⟩, Int.toNat_natCast]
theorem pot_spec {A B C E F : Int} {M : Mem} {s : Nat} {ns : List Int} {i : Nat} (hA : 0 ≤ A ∧ A ≤ 1000000) (hC : 0 ≤ C ∧ C ≤ 1000000) (hE : 0 ≤ E ∧ E ≤ 1000000) (h : M[s]? = some (.flst (ns.map .int))) (hi : i < 1000) :
    Ok (runB 5 (potBody A B C E F) [.ref s, .int i] M) fun d M' => ∃ p, d = .ref p ∧ M.length ≤ p ∧ PotAt M' p 0 ∧ Kp [] M M' := by
  unfold runB potBody
  have l := fLen_items (show itemsOf M (.ref s) = some (ns.map .int) from lstAt_of' h)
  have fin : ∀ (M1 : Mem) (cell : Int), Kp [] M M1 → Ok ((bindO ((sSeq (sSet 3 (eBin oMul (eBin oMod (eCall fInt (eCons (eCall fAbs (eCons (eVar 2) eNil)) eNil)) (eBin oPow (eBin oPow (eC (.int 10)) (eC (.int 60))) (eC (.int 5)))) (eCall fInt (eCons (eBin oGe (eCall fAbs (eCons (eVar 2) eNil)) (eBin oPow (eC (.int 10)) (eC (.int 18)))) eNil))))
    (sSeq (sSet 4 (eBin oMod (eCall fInt (eCons (eVar 2) eNil)) (eC (.int 2305843009213693951))))
    (sRet (eLst (eCons (eVar 3) (eCons (eBin oMod (eCall fInt (eCons (eBin oAdd (eBin oAdd (eBin oMul (eVar 4) (eC (.int C))) (eBin oMul (eBin oMul (eC (.int E)) (eVar 1)) (eVar 1))) (eC (.int F))) eNil)) (eC (.int 2305843009213693921))) (eCons (eC (.int 0)) eNil))))))) [some (.ref s), some (.int i), some (.int cell), none, none] M1) fun o M1 => match o with
      | .ret d => some (d, M1)
      | .next _ => some (.non, M1)
      | _ => none)) fun d M' => ∃ p, d = .ref p ∧ M.length ≤ p ∧ PotAt M' p 0 ∧ Kp [] M M' := by
    intro M1 cell hk
    have sz : (3 : Nat) ≤ sizeLine := by rw [sizeLine_eq]; decide
    simp [sSeq, sSet, sRet, eBin, eVar, eC, eCall, eCons, eNil, fInt, fAbs, oPow, cPow, oMod, oMul, cMul, oGe, oI, oI0, oAdd, eLst, List.set, sz]
    have x0 : ∀ x : Int, 0 ≤ x → x < 2 ^ 62 → x.natAbs.log2 < 1000 := fun x h1 h2 => log_lt (k := 1000) (Nat.lt_of_lt_of_le (show x.natAbs < 2 ^ 62 by omega) (Nat.pow_le_pow_right (by decide) (by decide))) (by decide)
    have xi : i.log2 < 1000 := by
      have := x0 (i : Int) (by omega) (by omega)
      simpa using this
    obtain ⟨m1, m2⟩ := mul_nn (x := E) (y := (i : Int)) hE.1 hE.2 (by omega) (show (i : Int) ≤ 1000 by omega)
    rw [if_pos (by decide), if_pos (by decide), if_pos (by decide), if_pos, if_pos, if_pos, if_pos]
    · refine ⟨hk.1, ⟨_, _, 0, push_last, Int.emod_nonneg _ (by decide), Int.emod_lt_of_pos _ (by decide), by decide, by decide⟩, hk.trans Kp.push⟩
    · have := x0 (E * (i : Int)) m1 (by omega)
      omega
    · have := x0 E hE.1 (by omega)
      omega
    · have y1 := x0 (cell % 2305843009213693951) (Int.emod_nonneg _ (by decide)) (Int.lt_trans (Int.emod_lt_of_pos _ (by decide)) (by decide))
      have y2 := x0 C hC.1 (by omega)
      omega
    · generalize (if cell < 0 then -cell else cell) = v
      generalize hb : (1000000000000000000000000000000000000000000000000000000000000000000000000000000000000000000000000000000000000000000000000000000000000000000000000000000000000000000000000000000000000000000000000000000000000000000000000000000000000000000000000000000000000000000000000000000000000000000000000000000000000 : Int) = big
      have hb1 : 0 < big := by rw [← hb]; decide
      have hb2 : big.natAbs < 2 ^ 1000 := by rw [← hb]; decide
      have z1 := Int.emod_nonneg v (b := big) (by omega)
      have z2 := Int.emod_lt_of_pos v hb1
      have y1 : (v % big).natAbs.log2 < 1000 := log_lt (Nat.lt_trans (by omega) hb2) (by decide)
      have y2 : (if (1000000000000000000 : Int) ≤ v then (1 : Int) else 0).natAbs.log2 < 1000 := by split <;> decide
      omega
  rw [ok_bind, show sSeq = fun x y ρ M => bindO (x ρ M) fun o M1 => match o with
    | .next ρ1 => y ρ1 M1
    | o => some (o, M1) from rfl]
  simp only [ok_bind]
  have step : Ok (sSet 2 (eIf (bOf (eBin oLt (eVar 1) (eCall fLen (eCons (eVar 0) eNil)))) (eBin oIx (eVar 0) (eVar 1)) (eBin oAdd (eBin oAdd (eBin oMod (eCall fSum (eCons (eSl (eVar 0) poNone (poSome (eC (.int 1)))) eNil)) (eC (.int 1000003))) (eBin oMul (eC (.int A)) (eVar 1))) (eC (.int B)))) (startD 5 [.ref s, .int i]) M) fun o M1 => ∃ cell, o = .next [some (.ref s), some (.int i), some (.int cell), none, none] ∧ Kp [] M M1 := by
    have li : lstAt M s = some (ns.map .int) := lstAt_of' h
    by_cases hlt : i < ns.length
    · have hx : atD (ns.map Mi.D.int) (i : Int) = some (.int ns[i]) := by
        unfold atD ixN
        rw [if_pos (by omega), if_pos (by rw [List.length_map]; omega)]
        simp [hlt]
      simp [startD, sSet, eIf, bOf, eBin, eVar, eCall, eCons, eNil, l, oLt, oI0, hlt, oIx, li, hx, List.set]
      exact Kp.refl
    · have hs : intsOf ((ns.map Mi.D.int).take 1) = some (ns.take 1) := by
        cases ns <;> rfl
      have x1 : A.natAbs.log2 < 64 := log_lt (by omega) (by decide)
      have x2 : i.log2 < 64 := by
        have := log_lt (i := (i : Int)) (k := 64) (by omega) (by decide)
        simpa using this
      have cut : cutD (ns.map Mi.D.int) none (some 1) = (ns.map Mi.D.int).take 1 := by
        unfold cutD
        cases ns <;> simp [HT.sIx]
      have sm : lstAt (M ++ [.lst (cutD (ns.map Mi.D.int) none (some 1))]) M.length = some (cutD (ns.map Mi.D.int) none (some 1)) := lst_last
      rw [← cut] at hs
      have x3 : A.natAbs.log2 + i.log2 < 1000000 := by omega
      simp [startD, sSet, eIf, bOf, eBin, eVar, eCall, eCons, eNil, l, oLt, oI0, hlt, li, List.set, oAdd, oMod, oI, fSum, eSl, poNone, poSome, eC, oMul, cMul, sm, hs, x3]
      exact Kp.push
  refine step.mono ?_
  rintro _ M1 ⟨cell, rfl, hk⟩
  have := fin M1 cell hk
  simp only [ok_bind] at this
  exact this
end Mi
set_option Elab.async false
set_option linter.all false
set_option maxRecDepth 100000
/-! loops and plain data -/
namespace Mi
open PySem PySem.Spec PyProof.Rows L2
theorem ok_seq {x y : Es} {ρ : Loc} {M : Mem} {Q : Fl → Mem → Prop} : Ok (sSeq x y ρ M) Q ↔ Ok (x ρ M) fun o M1 => match o with
    | .next ρ1 => Ok (y ρ1 M1) Q
    | o => Q o M1 := by
  unfold sSeq
  rw [ok_bind]
  constructor
  · intro h
    refine h.mono fun o M1 q => ?_
    cases o <;> first | exact q | exact ok_some.mp q
  · intro h
    refine h.mono fun o M1 q => ?_
    cases o <;> first | exact q | exact ok_some.mpr q
/-- what a turn's end leads to -/
def Turn (Inv : Loc → Mem → Prop) (Q : Fl → Mem → Prop) : Fl → Mem → Prop
  | .next ρ, M => Inv ρ M
  | .cont ρ, M => Inv ρ M
  | .brk ρ, M => Q (.next ρ) M
  | .ret d, M => Q (.ret d) M
theorem ok_forN {get : Src} {g : D → Loc → Option Loc} {body : Es} {Q : Fl → Mem → Prop} (len : Nat) (Inv : Nat → Loc → Mem → Prop)
    (step : ∀ j ρ M, j ≤ len → Inv j ρ M → ∃ xs, get M = some xs ∧ xs.length = len ∧ ∀ d, xs[j]? = some d → ∃ ρ1, g d ρ = some ρ1 ∧ Ok (body ρ1 M) (Turn (Inv (j + 1)) Q))
    (done : ∀ ρ M, Inv len ρ M → Q (.next ρ) M) : ∀ (f i : Nat) (ρ : Loc) (M : Mem), i ≤ len → len + 1 ≤ f + i → Inv i ρ M → Ok (forN get g body f i ρ M) Q
  | 0, i, ρ, M, hi, hf, h => by omega
  | f + 1, i, ρ, M, hi, hf, h => by
    obtain ⟨xs, e1, e2, e3⟩ := step i ρ M hi h
    unfold forN
    rw [e1]
    simp only
    cases hx : xs[i]? with
    | none =>
      have hl : len ≤ i := by rw [← e2]; exact List.getElem?_eq_none_iff.mp hx
      have : i = len := by omega
      subst this
      exact ok_some.mpr (done _ _ h)
    | some d =>
      have hl : i < len := by rw [← e2]; exact (List.getElem?_eq_some_iff.mp hx).1
      obtain ⟨ρ1, g1, o, M2, hb, ht⟩ := e3 d hx
      simp only [g1, hb]
      cases o with
      | next ρ2 => exact ok_forN len Inv step done f (i + 1) ρ2 M2 hl (by omega) ht
      | cont ρ2 => exact ok_forN len Inv step done f (i + 1) ρ2 M2 hl (by omega) ht
      | brk ρ2 => exact ok_some.mpr ht
      | ret d => exact ok_some.mpr ht
theorem ok_for {src : EvI} {g : D → Loc → Option Loc} {body : Es} {ρ : Loc} {M : Mem} {Q : Fl → Mem → Prop} (len : Nat) (Inv : Nat → Loc → Mem → Prop)
    (h0 : Ok (src ρ M) fun get M1 => Inv 0 ρ M1 ∧ (∃ xs, get M1 = some xs ∧ xs.length = len) ∧ ∀ j ρ M, j ≤ len → Inv j ρ M → ∃ xs, get M = some xs ∧ xs.length = len ∧ ∀ d, xs[j]? = some d → ∃ ρ1, g d ρ = some ρ1 ∧ Ok (body ρ1 M) (Turn (Inv (j + 1)) Q))
    (done : ∀ ρ M, Inv len ρ M → Q (.next ρ) M) : Ok (sFor src g body ρ M) Q := by
  unfold sFor
  rw [ok_bind]
  refine h0.mono fun get M1 ⟨a, ⟨xs, b1, b2⟩, c⟩ => ?_
  rw [b1]
  exact ok_forN len Inv c done _ 0 ρ M1 (Nat.zero_le _) (by omega) a
/-- a comprehension -/
theorem ok_lcN {get : Src} {g : D → Loc → Option Loc} {t : EvB} {el : Ev} {D0 : Nat} {ρ : Loc} (len : Nat) (hlen : len ≤ sizeLine) (Inv : Nat → List D → Mem → Prop)
    (step : ∀ j acc M, j ≤ len → acc.length ≤ j → M[D0]? = some (.lst acc) → Inv j acc M → ∃ xs, get M = some xs ∧ xs.length = len ∧ ∀ d, xs[j]? = some d → ∃ ρ1, g d ρ = some ρ1 ∧ Ok (t ρ1 M) fun b M2 =>
      if b = true then Ok (el ρ1 M2) fun y M3 => M3[D0]? = some (.lst acc) ∧ Inv (j + 1) (acc ++ [y]) (M3.set D0 (.lst (acc ++ [y]))) else M2[D0]? = some (.lst acc) ∧ Inv (j + 1) acc M2) :
    ∀ (f i : Nat) (acc : List D) (M : Mem), i ≤ len → len + 1 ≤ f + i → acc.length ≤ i → M[D0]? = some (.lst acc) → Inv i acc M → ∃ acc' M', lcN get g t el D0 ρ f i M = some M' ∧ M'[D0]? = some (.lst acc') ∧ Inv len acc' M'
  | 0, i, acc, M, hi, hf, _, _, h => by omega
  | f + 1, i, acc, M, hi, hf, ha, hD, h => by
    obtain ⟨xs, e1, e2, e3⟩ := step i acc M hi ha hD h
    unfold lcN
    rw [e1]
    simp only
    cases hx : xs[i]? with
    | none =>
      have hl : len ≤ i := by rw [← e2]; exact List.getElem?_eq_none_iff.mp hx
      have : i = len := by omega
      subst this
      exact ⟨acc, M, rfl, hD, h⟩
    | some d =>
      have hl : i < len := by rw [← e2]; exact (List.getElem?_eq_some_iff.mp hx).1
      obtain ⟨ρ1, g1, b, M2, hb, ht⟩ := e3 d hx
      simp only [g1, hb]
      cases b with
      | false =>
        rw [if_neg (by decide)] at ht
        exact ok_lcN len hlen Inv step f (i + 1) acc M2 hl (by omega) (by omega) ht.1 ht.2
      | true =>
        rw [if_pos rfl] at ht
        obtain ⟨y, M3, hy, h3, h4⟩ := ht
        have hp : Mi.lput M3 D0 y = some (M3.set D0 (.lst (acc ++ [y]))) := by
          unfold Mi.lput
          rw [h3]
          exact if_pos (by omega)
        simp only [hy, hp]
        exact ok_lcN len hlen Inv step f (i + 1) (acc ++ [y]) _ hl (by omega) (by rw [List.length_append, List.length_singleton]; omega) (set_self h3) h4
theorem ok_lc {src : EvI} {vs : List Nat} {g : D → Loc → Option Loc} {t : EvB} {el : Ev} {ρ : Loc} {M : Mem} {Q : D → Mem → Prop} (len : Nat) (hlen : len ≤ sizeLine) (Inv : Nat → Nat → List D → Mem → Prop)
    (h0 : Ok (src ρ M) fun get M1 => Inv M1.length 0 [] (M1 ++ [.lst []]) ∧ (∃ xs, get (M1 ++ [.lst []]) = some xs ∧ xs.length = len) ∧ (∀ j acc M, j ≤ len → acc.length ≤ j → M[M1.length]? = some (.lst acc) → Inv M1.length j acc M → ∃ xs, get M = some xs ∧ xs.length = len ∧ ∀ d, xs[j]? = some d → ∃ ρ1, g d (wipeD ρ vs) = some ρ1 ∧ Ok (t ρ1 M) fun b M2 =>
      if b = true then Ok (el ρ1 M2) fun y M3 => M3[M1.length]? = some (.lst acc) ∧ Inv M1.length (j + 1) (acc ++ [y]) (M3.set M1.length (.lst (acc ++ [y]))) else M2[M1.length]? = some (.lst acc) ∧ Inv M1.length (j + 1) acc M2) ∧
      ∀ acc M', M'[M1.length]? = some (.lst acc) → Inv M1.length len acc M' → Q (.ref M1.length) M') : Ok (eLc src vs g t el ρ M) Q := by
  unfold eLc
  rw [ok_bind]
  refine h0.mono fun get M1 ⟨a, ⟨xs, b1, b2⟩, c, dn⟩ => ?_
  rw [b1]
  simp only
  obtain ⟨acc, M', e1, e2, e3⟩ := ok_lcN (t := t) (el := el) len hlen (Inv M1.length) c (xs.length + 1) 0 [] (M1 ++ [.lst []]) (Nat.zero_le _) (by omega) (Nat.le_refl _) push_last a
  rw [e1]
  exact ⟨.ref M1.length, M', rfl, dn acc M' e2 e3⟩
/-- .. whose parts change nothing -/
theorem lc_plain {src : EvI} {vs : List Nat} {g : D → Loc → Option Loc} {t : EvB} {el : Ev} {ρ : Loc} {M M1 : Mem} {get : Src} (xs : List D) (tb : D → Bool) (ed : D → D) (hs : src ρ M = some (get, M1)) (hl : xs.length ≤ sizeLine) (hg : ∀ acc, get (M1 ++ [.lst acc]) = some xs)
    (h : ∀ d ∈ xs, ∃ ρ1, g d (wipeD ρ vs) = some ρ1 ∧ ∀ acc, t ρ1 (M1 ++ [.lst acc]) = some (tb d, M1 ++ [.lst acc]) ∧ (tb d = true → el ρ1 (M1 ++ [.lst acc]) = some (ed d, M1 ++ [.lst acc]))) :
    eLc src vs g t el ρ M = some (.ref M1.length, M1 ++ [.lst ((xs.filter tb).map ed)]) := by
  have key : Ok (eLc src vs g t el ρ M) fun d M' => d = .ref M1.length ∧ M' = M1 ++ [.lst ((xs.filter tb).map ed)] := by
    refine ok_lc xs.length hl (fun _ j acc M' => M' = M1 ++ [.lst acc] ∧ acc = ((xs.take j).filter tb).map ed) ?_
    rw [hs]
    refine ok_some.mpr ⟨⟨rfl, rfl⟩, ⟨xs, hg [], rfl⟩, ?_, ?_⟩
    · rintro j acc _ hj _ _ ⟨rfl, ha⟩
      refine ⟨xs, hg acc, rfl, fun d hd => ?_⟩
      obtain ⟨ρ1, g1, h1⟩ := h d (List.mem_of_getElem? hd)
      obtain ⟨h2, h3⟩ := h1 acc
      have ht : xs.take (j + 1) = xs.take j ++ [d] := by rw [List.take_add_one, hd]; rfl
      refine ⟨ρ1, g1, ?_⟩
      rw [h2]
      refine ok_some.mpr ?_
      cases hb : tb d with
      | true =>
        rw [if_pos rfl, h3 hb]
        refine ok_some.mpr ⟨push_last, ?_, ?_⟩
        · rw [List.set_append_right _ _ (Nat.le_refl _), Nat.sub_self]; rfl
        · rw [ht, List.filter_append, List.map_append, ← ha]
          simp [hb]
      | false =>
        rw [if_neg (by decide)]
        refine ⟨push_last, rfl, ?_⟩
        rw [ht, List.filter_append, List.map_append, ← ha]
        simp [hb]
    · rintro acc _ _ ⟨rfl, ha⟩
      rw [List.take_length] at ha
      exact ⟨rfl, by rw [ha]⟩
  obtain ⟨d, M', e, rfl, rfl⟩ := key
  exact e
/-! plain data -/
/-- reads as p, whatever the memory, with so much fuel -/
def Reads0 (n : Nat) (d : D) (p : PyData) : Prop := ∀ (M : Mem) (f : Nat), n ≤ f → toPy M f d = some p
def ReadsL (n : Nat) : List D → List PyData → Prop
  | [], [] => True
  | d :: ds, p :: ps => Reads0 n d p ∧ ReadsL n ds ps
  | _, _ => False
theorem r0_non : Reads0 1 .non .none := fun M f h => by cases f with | zero => omega | succ f => rfl
theorem r0_bl {b : Bool} : Reads0 1 (.bl b) (.bool b) := fun M f h => by cases f with | zero => omega | succ f => rfl
theorem r0_int {b : Int} : Reads0 1 (.int b) (.int b) := fun M f h => by cases f with | zero => omega | succ f => rfl
theorem r0_str {b : Str} : Reads0 1 (.str b) (.str b) := fun M f h => by cases f with | zero => omega | succ f => rfl
theorem Reads0.up {n m : Nat} {d : D} {p : PyData} (h : Reads0 n d p) (hm : n ≤ m) : Reads0 m d p := fun M f hf => h M f (by omega)
theorem ReadsL.up {n m : Nat} (hm : n ≤ m) : ∀ {ds : List D} {ps : List PyData}, ReadsL n ds ps → ReadsL m ds ps
  | [], [], _ => trivial
  | _ :: _, _ :: _, h => ⟨h.1.up hm, ReadsL.up hm h.2⟩
  | [], _ :: _, h => h.elim
  | _ :: _, [], h => h.elim
theorem rl_toPys {n : Nat} {M : Mem} : ∀ {ds : List D} {ps : List PyData} (f : Nat), ReadsL n ds ps → n + ds.length + 1 ≤ f → toPys M f ds = some ps
  | [], [], f, _, h => by cases f with | zero => omega | succ f => rfl
  | d :: ds, p :: ps, f, r, h => by
    cases f with
    | zero => omega
    | succ f =>
      rw [List.length_cons] at h
      show (match toPy M f d with
        | some d => (toPys M f ds).map (d :: ·)
        | none => none) = some (p :: ps)
      rw [r.1 M f (by omega), rl_toPys f r.2 (by omega)]
      rfl
  | [], _ :: _, _, h, _ => h.elim
  | _ :: _, [], _, h, _ => h.elim
theorem r0_tup {n : Nat} {ds : List D} {ps : List PyData} (h : ReadsL n ds ps) : Reads0 (n + ds.length + 2) (.tup ds) (.tuple ps) := fun M f hf => by
  cases f with
  | zero => omega
  | succ f =>
    show (toPys M f ds).map PyData.tuple = some (.tuple ps)
    rw [rl_toPys f h (by omega)]
    rfl
theorem rl_map {α : Type} {n : Nat} {f : α → D} {g : α → PyData} : ∀ {l : List α}, (∀ a ∈ l, Reads0 n (f a) (g a)) → ReadsL n (l.map f) (l.map g)
  | [], _ => trivial
  | a :: l, h => ⟨h a List.mem_cons_self, rl_map fun b hb => h b (List.mem_cons_of_mem _ hb)⟩
theorem eq_plain {n m : Nat} {M : Mem} {x y : D} {p q : PyData} (hx : Reads0 n x p) (hy : Reads0 m y q) (hn : n ≤ 100000) (hm : m ≤ 100000) (h1 : SeqAt.shaped p = true) (h2 : SeqAt.shaped q = true) : eqD M x y = some (PyData.eqv p q) := by
  unfold eqD
  rw [hx M _ hn, hy M _ hm]
  exact if_pos ⟨h1, h2⟩
/-! data that can be shown and told apart -/
structure Fine (w dp : Nat) (p : PyData) : Prop where
  lay : p.canLay0 = true
  deep : p.depth ≤ dp
  size : p.weight ≤ w
  show_ : p.showable = true
  short : p.intsShort 13 = true
structure FineL (w dp : Nat) (ps : List PyData) : Prop where
  lay : PyData.canLayAll0 ps = true
  deep : PyData.depthAll ps ≤ dp
  size : PyData.weightAll ps ≤ w
  show_ : PyData.showableAll ps = true
  short : PyData.intsShortAll 13 ps = true
theorem FineL.nil {w dp : Nat} : FineL w dp [] := ⟨by simp [PyData.canLayAll0], by simp [PyData.depthAll], by simp [PyData.weightAll], by simp [PyData.showableAll], by simp [PyData.intsShortAll]⟩
theorem FineL.cons {w dp v : Nat} {p : PyData} {ps : List PyData} (a : Fine w dp p) (b : FineL v dp ps) : FineL (w + 1 + v) dp (p :: ps) :=
  ⟨by simp [PyData.canLayAll0, a.lay, b.lay], by simp only [PyData.depthAll]; exact Nat.max_le.mpr ⟨a.deep, b.deep⟩, by simp only [PyData.weightAll]; have := a.size; have := b.size; omega, by simp [PyData.showableAll, a.show_, b.show_], by simp [PyData.intsShortAll, a.short, b.short]⟩
theorem Fine.tup {w dp : Nat} {ps : List PyData} (a : FineL w dp ps) : Fine w (dp + 1) (.tuple ps) :=
  ⟨by simpa [PyData.canLay0] using a.lay, by simp only [PyData.depth]; have := a.deep; omega, by simp only [PyData.weight]; exact a.size, by simpa [PyData.showable] using a.show_, by simpa [PyData.intsShort] using a.short⟩
theorem Fine.up {w dp w' dp' : Nat} {p : PyData} (a : Fine w dp p) (h1 : w ≤ w') (h2 : dp ≤ dp') : Fine w' dp' p := ⟨a.lay, Nat.le_trans a.deep h2, Nat.le_trans a.size h1, a.show_, a.short⟩
theorem FineL.map {α : Type} {w dp : Nat} {g : α → PyData} : ∀ {l : List α}, (∀ a ∈ l, Fine w dp (g a)) → FineL ((w + 1) * l.length) dp (l.map g)
  | [], _ => FineL.nil
  | a :: l, h => by
    have z := FineL.cons (h a List.mem_cons_self) (FineL.map (l := l) fun b hb => h b (List.mem_cons_of_mem _ hb))
    have e : w + 1 + (w + 1) * l.length = (w + 1) * (a :: l).length := by rw [List.length_cons, Nat.mul_add, Nat.mul_one, Nat.add_comm]
    rw [← e]
    exact z
theorem Fine.bl {b : Bool} : Fine 0 0 (.bool b) := ⟨by simp [PyData.canLay0], by simp [PyData.depth], by simp [PyData.weight], by simp [PyData.showable], by simp [PyData.intsShort]⟩
theorem Fine.non : Fine 0 0 .none := ⟨by simp [PyData.canLay0], by simp [PyData.depth], by simp [PyData.weight], by simp [PyData.showable], by simp [PyData.intsShort]⟩
theorem Fine.shaped {w dp : Nat} {p : PyData} (a : Fine w dp p) (h : dp ≤ 64) : SeqAt.shaped p = true := by
  unfold SeqAt.shaped
  rw [a.lay, Bool.true_and, decide_eq_true_eq]
  have := a.deep
  omega
theorem Fine.can {w dp : Nat} {p : PyData} (a : Fine w dp p) (h : dp ≤ 64) (h2 : w ≤ 2 ^ 20) : canShow p = true := by
  have hl : PyData.layable0 p = true := by
    unfold PyData.layable0
    rw [a.lay, Bool.true_and, Bool.and_eq_true, decide_eq_true_eq, decide_eq_true_eq]
    exact ⟨Nat.le_trans a.deep h, Nat.le_trans a.size h2⟩
  have z := shown_le13 hl a.short
  unfold canShow
  rw [a.lay, a.show_, sizeLine_eq]
  have := a.deep
  simp only [Bool.true_and, Bool.and_true, Bool.and_eq_true, decide_eq_true_eq]
  exact ⟨by omega, by omega⟩
theorem repr_plain {n w dp : Nat} {M : Mem} {x : D} {p : PyData} (hx : Reads0 n x p) (hn : n ≤ 100000) (a : Fine w dp p) (h : dp ≤ 64) (h2 : w ≤ 2 ^ 20) : fRepr [x] M = some (.str p.shown, M) := by
  unfold fRepr
  simp only [hx M _ hn, a.can h h2, if_true]
end Mi
set_option Elab.async false
set_option linter.all false
set_option maxRecDepth 100000
/-! rows of a book of names -/
namespace Mi
open PySem PySem.Spec PyProof.Rows L2
abbrev Row := Str × List Int
def pidD (p : List Int) : D := .tup [.str "pid", .tup (p.map .int)]
def pidP (p : List Int) : PyData := .tuple [.str "pid", .tuple (p.map .int)]
def rowD (r : Row) : D := .tup [.str r.1, pidD r.2]
def rowP (r : Row) : PyData := .tuple [.str r.1, pidP r.2]
abbrev names4 : List Str := ["srv", "box", "EXIT", "a1"]
abbrev names5 : List Str := ["srv", "box", "EXIT", "a1", "undefined"]
abbrev pids3 : List (List Int) := [[], [1], [3, 1]]
def allRows : List Row := names4.flatMap fun n => pids3.map fun p => (n, p)
def rank (n : Str) : Nat := (["EXIT", "a1", "box", "srv"] : List Str).idxOf n
def nle (a b : Row) : Bool := decide (rank a.1 ≤ rank b.1)
theorem all_rows {n : Str} {p : List Int} (hn : n ∈ names4) (hp : p ∈ pids3) : (n, p) ∈ allRows := List.mem_flatMap.mpr ⟨n, hn, List.mem_map.mpr ⟨p, hp, rfl⟩⟩
theorem row_name {r : Row} (h : r ∈ allRows) : r.1 ∈ names4 := by
  obtain ⟨n, hn, h⟩ := List.mem_flatMap.mp h
  obtain ⟨p, hp, rfl⟩ := List.mem_map.mp h
  exact hn
theorem row_pid {r : Row} (h : r ∈ allRows) : r.2 ∈ pids3 := by
  obtain ⟨n, hn, h⟩ := List.mem_flatMap.mp h
  obtain ⟨p, hp, rfl⟩ := List.mem_map.mp h
  exact hp
theorem eqv_pid : ∀ p ∈ pids3, ∀ q ∈ pids3, PyData.eqv (pidP p) (pidP q) = decide (p = q) := by decide +kernel
theorem eqv_name : ∀ p ∈ names5, ∀ q ∈ names5, PyData.eqv (.str p) (.str q) = decide (p = q) := by decide +kernel
theorem rank_inj : ∀ p ∈ names4, ∀ q ∈ names4, rank p = rank q → p = q := by decide +kernel
theorem rows_alike : ∀ a ∈ allRows, ∀ b ∈ allRows, PySem.W.alike (rowP a) (rowP b) = true := by decide +kernel
theorem rows_le : ∀ a ∈ allRows, ∀ b ∈ allRows, (a.1 ≠ b.1 ∨ a = b) → PySem.W.dataLe false (fun x : PyData => x) (rowP a) (rowP b) = nle a b := by decide +kernel
theorem pid_fine' : ∀ p ∈ pids3, (pidP p).canLay0 = true ∧ (pidP p).depth ≤ 2 ∧ (pidP p).weight ≤ 40 ∧ (pidP p).showable = true ∧ (pidP p).intsShort 13 = true := by decide +kernel
theorem name_fine' : ∀ p ∈ names5, (PyData.str p).canLay0 = true ∧ (PyData.str p).depth ≤ 0 ∧ (PyData.str p).weight ≤ 20 ∧ (PyData.str p).showable = true ∧ (PyData.str p).intsShort 13 = true := by decide +kernel
theorem pid_fine {p : List Int} (h : p ∈ pids3) : Fine 40 2 (pidP p) := let ⟨a, b, c, d, e⟩ := pid_fine' p h; ⟨a, b, c, d, e⟩
theorem name_fine {p : Str} (h : p ∈ names5) : Fine 20 0 (.str p) := let ⟨a, b, c, d, e⟩ := name_fine' p h; ⟨a, b, c, d, e⟩
theorem n5 {n : Str} (h : n ∈ names4) : n ∈ names5 := by
  show n ∈ names4 ++ (["undefined"] : List Str)
  exact List.mem_append_left _ h
theorem r0_two {n : Nat} {a b : D} {p q : PyData} (x : Reads0 n a p) (y : Reads0 n b q) : Reads0 (n + 4) (.tup [a, b]) (.tuple [p, q]) := r0_tup (ds := [a, b]) (ps := [p, q]) ⟨x, y, trivial⟩
theorem row_fine {r : Row} (h : r ∈ allRows) : Fine 80 3 (rowP r) := (Fine.tup (.cons ((name_fine (n5 (row_name h))).up (Nat.le_refl _) (by decide)) (.cons (pid_fine (row_pid h)) (.nil (w := 0))))).up (by decide) (by decide)
theorem pid_reads {p : List Int} (h : p ∈ pids3) : Reads0 20 (pidD p) (pidP p) := by
  have hl : p.length ≤ 2 := by
    simp only [pids3, List.mem_cons, List.not_mem_nil, or_false] at h
    rcases h with rfl | rfl | rfl <;> decide
  have h1 : Reads0 (1 + (p.map Mi.D.int).length + 2) (.tup (p.map .int)) (.tuple (p.map .int)) := r0_tup (rl_map fun _ _ => r0_int)
  rw [List.length_map] at h1
  exact (r0_two (n := 5) (r0_str.up (by decide)) (h1.up (by omega))).up (by decide)
theorem row_reads {r : Row} (h : r ∈ allRows) : Reads0 30 (rowD r) (rowP r) := (r0_two (n := 20) (r0_str.up (by decide)) (pid_reads (row_pid h))).up (by decide)
theorem rows_reads {l : List Row} (h : ∀ r ∈ l, r ∈ allRows) (hl : l.length ≤ 100) : Reads0 200 (.tup (l.map rowD)) (.tuple (l.map rowP)) := by
  have := r0_tup (rl_map (f := rowD) (g := rowP) (l := l) fun r hr => row_reads (h r hr))
  rw [List.length_map] at this
  exact this.up (by omega)
/-- sorted by names -/
def srt (l : List Row) : List Row := l.mergeSort nle
theorem srt_perm (l : List Row) : (srt l).Perm l := List.mergeSort_perm _ _
theorem srt_sorted (l : List Row) : (srt l).Pairwise fun a b => nle a b = true := List.pairwise_mergeSort (fun a b c h1 h2 => by
  unfold nle at *
  simp only [decide_eq_true_eq] at *
  omega) (fun a b => by
  unfold nle
  simp only [Bool.or_eq_true, decide_eq_true_eq]
  omega) l
/-- each name once, all of the told names and processes -/
structure Own (l : List Row) : Prop where
  ok : ∀ r ∈ l, r ∈ allRows
  nd : (l.map (·.1)).Nodup
theorem own_inj {l : List Row} (h : (l.map (·.1)).Nodup) : ∀ a ∈ l, ∀ b ∈ l, a.1 = b.1 → a = b := by
  induction l with
  | nil => intro a ha; cases ha
  | cons r l ih =>
    rw [List.map_cons, List.nodup_cons] at h
    intro a ha b hb e
    rcases List.mem_cons.mp ha with ea | ha1
    · rcases List.mem_cons.mp hb with eb | hb1
      · rw [ea, eb]
      · exact absurd (List.mem_map.mpr ⟨b, hb1, by rw [← e, ea]⟩) h.1
    · rcases List.mem_cons.mp hb with eb | hb1
      · exact absurd (List.mem_map.mpr ⟨a, ha1, by rw [e, eb]⟩) h.1
      · exact ih h.2 a ha1 b hb1 e
theorem Own.inj {l : List Row} (h : Own l) : ∀ a ∈ l, ∀ b ∈ l, a.1 = b.1 → a = b := own_inj h.nd
theorem Own.perm {l l' : List Row} (h : Own l) (p : l'.Perm l) : Own l' := ⟨fun r hr => h.ok r (p.mem_iff.mp hr), (p.map _).nodup_iff.mpr h.nd⟩
theorem Own.sub {l l' : List Row} (h : Own l) (p : l'.Sublist l) : Own l' := ⟨fun r hr => h.ok r (p.subset hr), (p.map _).nodup h.nd⟩
theorem srt_unique {l o : List Row} (h : Own o) (p : l.Perm o) (s : l.Pairwise fun a b => nle a b = true) : l = srt o := by
  refine List.Perm.eq_of_pairwise (le := fun a b => nle a b = true) (fun a b ha hb h1 h2 => ?_) s (srt_sorted o) (p.trans (srt_perm o).symm)
  have ha' := p.mem_iff.mp ha
  have hb' := (srt_perm o).mem_iff.mp hb
  refine h.inj a ha' b hb' (rank_inj _ (row_name (h.ok a ha')) _ (row_name (h.ok b hb')) ?_)
  unfold nle at h1 h2
  simp only [decide_eq_true_eq] at h1 h2
  omega
theorem rows_fine {l : List Row} (h : ∀ r ∈ l, r ∈ allRows) (hl : l.length ≤ 100) : Fine 9000 4 (.tuple (l.map rowP)) := (Fine.tup (FineL.map fun r hr => row_fine (h r hr))).up (by have := Nat.mul_le_mul_left 81 hl; omega) (by decide)

theorem okSort_rows {l : List Row} (h : ∀ r ∈ l, r ∈ allRows) : okSort (l.map rowP) = true := by
  unfold okSort alikeB sortableB
  simp only [Bool.and_eq_true, Bool.or_eq_true, List.all_eq_true, List.mem_map, decide_eq_true_eq]
  refine ⟨⟨?_, .inl ?_⟩, ?_⟩
  · rintro _ ⟨a, ha, rfl⟩ _ ⟨b, hb, rfl⟩
    exact rows_alike a (h a ha) b (h b hb)
  · rintro _ ⟨a, ha, rfl⟩
    rfl
  · rintro _ ⟨a, ha, rfl⟩
    exact Nat.le_trans (row_fine (h a ha)).deep (by decide)
theorem rows_le' {l : List Row} (h : Own l) : ∀ a ∈ l, ∀ b ∈ l, nle a b = PySem.W.dataLe false (fun x : PyData => x) (rowP a) (rowP b) := fun a ha b hb => by
  refine (rows_le a (h.ok a ha) b (h.ok b hb) ?_).symm
  by_cases e : a.1 = b.1
  · exact .inr (h.inj a ha b hb e)
  · exact .inl e
/-- a dict of names -/
def ownKv (o : List Row) : List (Key × D) := o.map fun r => (.inr r.1, pidD r.2)
theorem sorted_items {who : Ev} {ρ : Loc} {M M1 : Mem} {n : Nat} {o : List Row} (e : who ρ M = some (.ref n, M1)) (q : M1[n]? = some (.dK (ownKv o))) (h : Own o) (hl : o.length ≤ 100) : e_sortedItems who ρ M = some (.ref M1.length, M1 ++ [.lst ((srt o).map rowD)]) := by
  unfold e_sortedItems
  rw [e]
  have ep : toPys M1 fuelD ((ownKv o).map fVal) = some (o.map fun r => pidP r.2) := by
    have e1 : (ownKv o).map fVal = o.map fun r => pidD r.2 := by unfold ownKv; rw [List.map_map]; rfl
    rw [e1]
    exact rl_toPys (n := 20) _ (rl_map fun r hr => pid_reads (row_pid (h.ok r hr))) (by rw [List.length_map]; show 20 + o.length + 1 ≤ 100000; omega)
  have ez : (ownKv o).zip (o.map fun r => pidP r.2) = o.map fun r : Row => (((Sum.inr r.1 : Key), pidD r.2), pidP r.2) := zip_maps _ _ _
  have er : (o.map fun r : Row => (((Sum.inr r.1 : Key), pidD r.2), pidP r.2)).map pairP = o.map rowP := by rw [List.map_map]; rfl
  show (match M1[n]? with
    | some (.dK kvs) => match toPys M1 fuelD (kvs.map fVal) with
      | some ps => if okSort ((kvs.zip ps).map pairP) = true then some (Mi.D.ref M1.length, M1 ++ [MO.lst (((kvs.zip ps).mergeSort (PySem.W.dataLe false pairP)).map fun b => fItem b.1)]) else none
      | none => none
    | _ => none) = (some (Mi.D.ref M1.length, M1 ++ [MO.lst ((srt o).map rowD)]) : R D)
  rw [q]
  simp only
  rw [ep]
  simp only
  rw [ez, er, if_pos (okSort_rows h.ok), ← List.map_mergeSort (r := nle) (s := PySem.W.dataLe false pairP) (f := fun r : Row => (((Sum.inr r.1 : Key), pidD r.2), pidP r.2)) (l := o) (rows_le' h), List.map_map]
  rfl
theorem sort_rows {M : Mem} {n : Nat} {l : List Row} (q : lstAt M n = some (l.map rowD)) (h : Own l) (hl : l.length ≤ 100) : fSort [.ref n] M = some (.ref M.length, M ++ [.lst ((srt l).map rowD)]) := by
  unfold fSort
  simp only [q]
  have ep : toPys M fuelD (l.map rowD) = some (l.map rowP) := rl_toPys (n := 30) _ (rl_map fun r hr => row_reads (h.ok r hr)) (by rw [List.length_map]; show 30 + l.length + 1 ≤ 100000; omega)
  simp only [ep, okSort_rows h.ok, if_true]
  unfold sortD
  rw [zip_maps, ← List.map_mergeSort (r := nle) (s := PySem.W.dataLe false (fun x : D × PyData => x.2)) (f := fun r : Row => (rowD r, rowP r)) (l := l) (rows_le' h), List.map_map]
  rfl
end Mi
set_option Elab.async false
set_option linter.all false
set_option maxRecDepth 100000
set_option maxHeartbeats 4000000
namespace Pr
open PySem PySem.Spec PyProof.Rows L2 Mi
/-! ### the text -/
def top (i : Nat) : Stmt := PySem.Challenge.pw_arrivalmill_k22_whole_the_book_of_names.main.body.getD i (.Pass ⟨0, 0, 0, 0⟩)
abbrev s_is_integer : Stmt := top 6
abbrev N_is_integer : List Str := ["value"]
abbrev P_is_integer : List Str := ["value"]
theorem sc_is_integer : FnScope N_is_integer P_is_integer (defScope s_is_integer) := ⟨rfl, rfl, rfl, by decide +kernel, rfl, by decide +kernel, by decide +kernel⟩
abbrev s_is_count : Stmt := top 7
abbrev N_is_count : List Str := ["value", "least"]
abbrev P_is_count : List Str := ["value", "least"]
theorem sc_is_count : FnScope N_is_count P_is_count (defScope s_is_count) := ⟨rfl, rfl, rfl, by decide +kernel, rfl, by decide +kernel, by decide +kernel⟩
abbrev s_is_atom : Stmt := top 8
abbrev N_is_atom : List Str := ["value"]
abbrev P_is_atom : List Str := ["value"]
theorem sc_is_atom : FnScope N_is_atom P_is_atom (defScope s_is_atom) := ⟨rfl, rfl, rfl, by decide +kernel, rfl, by decide +kernel, by decide +kernel⟩
abbrev s_is_path : Stmt := top 9
abbrev N_is_path : List Str := ["value", "number"]
abbrev P_is_path : List Str := ["value"]
theorem sc_is_path : FnScope N_is_path P_is_path (defScope s_is_path) := ⟨rfl, rfl, rfl, by decide +kernel, rfl, by decide +kernel, by decide +kernel⟩
abbrev s_is_process : Stmt := top 10
abbrev N_is_process : List Str := ["value"]
abbrev P_is_process : List Str := ["value"]
theorem sc_is_process : FnScope N_is_process P_is_process (defScope s_is_process) := ⟨rfl, rfl, rfl, by decide +kernel, rfl, by decide +kernel, by decide +kernel⟩
abbrev s__is_tag : Stmt := top 11
abbrev N__is_tag : List Str := ["value", "word"]
abbrev P__is_tag : List Str := ["value", "word"]
theorem sc__is_tag : FnScope N__is_tag P__is_tag (defScope s__is_tag) := ⟨rfl, rfl, rfl, by decide +kernel, rfl, by decide +kernel, by decide +kernel⟩
abbrev s_want_process : Stmt := top 13
abbrev N_want_process : List Str := ["value"]
abbrev P_want_process : List Str := ["value"]
theorem sc_want_process : FnScope N_want_process P_want_process (defScope s_want_process) := ⟨rfl, rfl, rfl, by decide +kernel, rfl, by decide +kernel, by decide +kernel⟩
abbrev s_give : Stmt := top 16
abbrev N_give : List Str := ["book", "name", "process", "lives", "held", "holder"]
abbrev P_give : List Str := ["book", "name", "process", "lives"]
theorem sc_give : FnScope N_give P_give (defScope s_give) := ⟨rfl, rfl, rfl, by decide +kernel, rfl, by decide +kernel, by decide +kernel⟩
abbrev s_freed : Stmt := top 17
abbrev N_freed : List Str := ["book", "name", "row"]
abbrev P_freed : List Str := ["book", "name"]
theorem sc_freed : FnScope N_freed P_freed (defScope s_freed) := ⟨rfl, rfl, rfl, by decide +kernel, rfl, by decide +kernel, by decide +kernel⟩
abbrev s_who : Stmt := top 18
abbrev N_who : List Str := ["book", "name", "held", "holder"]
abbrev P_who : List Str := ["book", "name"]
theorem sc_who : FnScope N_who P_who (defScope s_who) := ⟨rfl, rfl, rfl, by decide +kernel, rfl, by decide +kernel, by decide +kernel⟩
abbrev s_left : Stmt := top 19
abbrev N_left : List Str := ["book", "process", "row"]
abbrev P_left : List Str := ["book", "process"]
theorem sc_left : FnScope N_left P_left (defScope s_left) := ⟨rfl, rfl, rfl, by decide +kernel, rfl, by decide +kernel, by decide +kernel⟩
abbrev s__want_atom : Stmt := top 20
abbrev N__want_atom : List Str := ["name"]
abbrev P__want_atom : List Str := ["name"]
theorem sc__want_atom : FnScope N__want_atom P__want_atom (defScope s__want_atom) := ⟨rfl, rfl, rfl, by decide +kernel, rfl, by decide +kernel, by decide +kernel⟩
abbrev s__law_pot : Stmt := top 22
abbrev N__law_pot : List Str := ["script", "place", "cell", "own", "small"]
abbrev P__law_pot : List Str := ["script", "place"]
theorem sc__law_pot : FnScope N__law_pot P__law_pot (defScope s__law_pot) := ⟨rfl, rfl, rfl, by decide +kernel, rfl, by decide +kernel, by decide +kernel⟩
abbrev s__law_take : Stmt := top 23
abbrev N__law_take : List Str := ["pot", "upto", "digit", "prime", "blend"]
abbrev P__law_take : List Str := ["pot", "upto"]
theorem sc__law_take : FnScope N__law_take P__law_take (defScope s__law_take) := ⟨rfl, rfl, rfl, by decide +kernel, rfl, by decide +kernel, by decide +kernel⟩
abbrev s__law_of : Stmt := top 24
abbrev N__law_of : List Str := ["pot", "some"]
abbrev P__law_of : List Str := ["pot", "some"]
theorem sc__law_of : FnScope N__law_of P__law_of (defScope s__law_of) := ⟨rfl, rfl, rfl, by decide +kernel, rfl, by decide +kernel, by decide +kernel⟩
abbrev s__law_cells : Stmt := top 25
abbrev N__law_cells : List Str := ["script", "most"]
abbrev P__law_cells : List Str := ["script", "most"]
theorem sc__law_cells : FnScope N__law_cells P__law_cells (defScope s__law_cells) := ⟨rfl, rfl, rfl, by decide +kernel, rfl, by decide +kernel, by decide +kernel⟩
abbrev s__law_processes : Stmt := top 26
abbrev N__law_processes : List Str := []
abbrev P__law_processes : List Str := []
theorem sc__law_processes : FnScope N__law_processes P__law_processes (defScope s__law_processes) := ⟨rfl, rfl, rfl, by decide +kernel, rfl, by decide +kernel, by decide +kernel⟩
abbrev s__law_names : Stmt := top 27
abbrev N__law_names : List Str := []
abbrev P__law_names : List Str := []
theorem sc__law_names : FnScope N__law_names P__law_names (defScope s__law_names) := ⟨rfl, rfl, rfl, by decide +kernel, rfl, by decide +kernel, by decide +kernel⟩
abbrev s__law_right : Stmt := top 28
abbrev N__law_right : List Str := ["pot", "book", "own", "lap", "way", "name", "process", "lives", "is_let", "told", "due", "was", "one", "its"]
abbrev P__law_right : List Str := ["pot"]
theorem sc__law_right : FnScope N__law_right P__law_right (defScope s__law_right) := ⟨rfl, rfl, rfl, by decide +kernel, rfl, by decide +kernel, by decide +kernel⟩
abbrev s_law : Stmt := top 29
abbrev N_law : List Str := ["script", "place"]
abbrev P_law : List Str := ["script"]
theorem sc_law : FnScope N_law P_law (defScope s_law) := ⟨rfl, rfl, rfl, by decide +kernel, rfl, by decide +kernel, by decide +kernel⟩
def tab : List (Str × List Str) := [(("is_integer" : Str), P_is_integer), (("is_count" : Str), P_is_count), (("is_atom" : Str), P_is_atom), (("is_path" : Str), P_is_path), (("is_process" : Str), P_is_process), (("_is_tag" : Str), P__is_tag), (("want_process" : Str), P_want_process), (("give" : Str), P_give), (("freed" : Str), P_freed), (("who" : Str), P_who), (("left" : Str), P_left), (("_want_atom" : Str), P__want_atom), (("_law_pot" : Str), P__law_pot), (("_law_take" : Str), P__law_take), (("_law_of" : Str), P__law_of), (("_law_cells" : Str), P__law_cells), (("_law_processes" : Str), P__law_processes), (("_law_names" : Str), P__law_names), (("_law_right" : Str), P__law_right), (("law" : Str), P_law)]
def frees : List Str := [("abs" : Str), ("all" : Str), ("bool" : Str), ("dict" : Str), ("int" : Str), ("isinstance" : Str), ("len" : Str), ("list" : Str), ("max" : Str), ("min" : Str), ("range" : Str), ("repr" : Str), ("sorted" : Str), ("str" : Str), ("sum" : Str), ("tuple" : Str)]
structure Tx (P : Program) (w : World) (K : PySem.W.Frag) (mg : Str → Option Value) (base : Heap) (fa : Nat → Addr) (call : CallF) (k : Nat) : Prop where
  fns : Fns P w K mg base fa tab call k
  fr : ∀ x, x ∈ frees → mg x = none
  g_LONGEST_WORD : ∃ t, mg "LONGEST_WORD" = some (.int 16 t)
  g_LONGEST_PATH : ∃ t, mg "LONGEST_PATH" = some (.int 40 t)
  g_UNDEFINED : ∃ t, mg "UNDEFINED" = some (.str "undefined" t)
theorem Tx.free {P : Program} {w : World} {K : PySem.W.Frag} {mg : Str → Option Value} {base : Heap} {fa : Nat → Addr} {call : CallF} {k : Nat} (T : Tx P w K mg base fa call k) {x : Str} (h : (frees.contains x) = true) : mg x = none := T.fr x (List.contains_iff_mem.mp h)
abbrev FnP (K : PySem.W.Frag) (x : Str) (st : Stmt) (f : Addr) (fd : FuncData) : Prop := FunD K x x (defArgs st) (defBody st) (defScope st) [] [] f fd
/-! ### what the defs do, by data -/
def b_is_integer (call : CallF) : Es :=
  (sRet (eAnd (eIsi .int (eVar 0)) (eNot (eIsi .bool (eVar 0)))))
def b_is_count (call : CallF) : Es :=
  (sRet (eAnd (eCall (call 0) (eCons (eVar 0) eNil)) (eBin oGe (eVar 0) (eVar 1))))
def b_is_atom (call : CallF) : Es :=
  (sSeq (sIf (bOr (bNot (bOf (eIsi .str (eVar 0)))) (bOr (bNot (bOf (eChain oLe oLe (eC (.int 1)) (eCall fLen (eCons (eVar 0) eNil)) (eC (.int 16))))) (bNot (bOf (eM0 mIsascii (eVar 0)))))) (sRet (eC (.bl false))) sNil)
    (sRet (eOr (eM0 mIsalnum (eVar 0)) eStuck)))
def b_is_path (call : CallF) : Es :=
  (sSeq (sIf (bOr (bNot (bOf (eIsi .tuple (eVar 0)))) (bOf (eBin oGt (eCall fLen (eCons (eVar 0) eNil)) (eC (.int 40))))) (sRet (eC (.bl false))) sNil)
    (sSeq (sFor (iSq (eVar 0)) (gN 1) (sIf (bNot (bOf (eCall (call 1) (eCons (eVar 1) (eCons (eC (.int 1)) eNil))))) (sRet (eC (.bl false))) sNil))
    (sRet (eC (.bl true)))))
def b_is_process (call : CallF) : Es :=
  (sRet (eAnd (eIsi .tuple (eVar 0)) (eAnd (eBin oEq (eCall fLen (eCons (eVar 0) eNil)) (eC (.int 2))) (eAnd (eCall (call 5) (eCons (eBin oIx (eVar 0) (eC (.int 0))) (eCons (eC (.str "pid")) eNil))) (eCall (call 3) (eCons (eBin oIx (eVar 0) (eC (.int 1))) eNil))))))
def b__is_tag (call : CallF) : Es :=
  (sRet (eAnd (eIsi .str (eVar 0)) (eBin oEq (eVar 0) (eVar 1))))
def b_want_process (call : CallF) : Es :=
  (sIf (bNot (bOf (eCall (call 4) (eCons (eVar 0) eNil)))) sStuck sNil)
def b_give (call : CallF) : Es :=
  (sSeq (sDrop (eCall (call 11) (eCons (eVar 1) eNil)))
    (sSeq (sDrop (eCall (call 6) (eCons (eVar 2) eNil)))
    (sSeq (sIf (bOr (bNot (bOf (eVar 3))) (bOf (eBin oEq (eVar 1) (eC (.str "undefined"))))) (sRet (eTup (eCons (eVar 0) (eCons (eC (.bl false)) eNil)))) sNil)
    (sSeq (sFor (iSq (eVar 0)) (gT (gsCons (gN 4) (gsCons (gN 5) gsNil))) (sIf (bOr (bOf (eBin oEq (eVar 4) (eVar 1))) (bOf (eBin oEq (eVar 5) (eVar 2)))) (sRet (eTup (eCons (eVar 0) (eCons (eC (.bl false)) eNil)))) sNil))
    (sRet (eTup (eCons (eCall fTuple (eCons (eCall (orD fSort fSortT) (eCons (eLst (eConsS (eVar 0) (eCons (eTup (eCons (eVar 1) (eCons (eVar 2) eNil))) eNil))) eNil)) eNil)) (eCons (eC (.bl true)) eNil))))))))
def b_freed (call : CallF) : Es :=
  (sSeq (sIf (bOf (eBin (oIs false) (eCall (call 9) (eCons (eVar 0) (eCons (eVar 1) eNil))) (eC .non))) (sRet (eTup (eCons (eVar 0) (eCons (eC (.bl false)) eNil)))) sNil)
    (sRet (eTup (eCons (eCall fTuple (eCons (eLc (iSq (eVar 0)) [2] (gN 2) (bOf (eBin oNe (eBin oIx (eVar 2) (eC (.int 0))) (eVar 1))) (eVar 2)) eNil)) (eCons (eC (.bl true)) eNil)))))
def b_who (call : CallF) : Es :=
  (sSeq (sDrop (eCall (call 11) (eCons (eVar 1) eNil)))
    (sSeq (sFor (iSq (eVar 0)) (gT (gsCons (gN 2) (gsCons (gN 3) gsNil))) (sIf (bOf (eBin oEq (eVar 2) (eVar 1))) (sRet (eVar 3)) sNil))
    (sRet (eC .non))))
def b_left (call : CallF) : Es :=
  (sSeq (sDrop (eCall (call 6) (eCons (eVar 1) eNil)))
    (sRet (eCall fTuple (eCons (eLc (iSq (eVar 0)) [2] (gN 2) (bOf (eBin oNe (eBin oIx (eVar 2) (eC (.int 1))) (eVar 1))) (eVar 2)) eNil))))
def b__want_atom (call : CallF) : Es :=
  (sIf (bNot (bOf (eCall (call 2) (eCons (eVar 0) eNil)))) sStuck sNil)
def b__law_pot (call : CallF) : Es :=
  (sSeq (sSet 2 (eIf (bOf (eBin oLt (eVar 1) (eCall fLen (eCons (eVar 0) eNil)))) (eBin oIx (eVar 0) (eVar 1)) (eBin oAdd (eBin oAdd (eBin oMod (eCall fSum (eCons (eSl (eVar 0) poNone (poSome (eC (.int 1)))) eNil)) (eC (.int 1000003))) (eBin oMul (eC (.int 1223)) (eVar 1))) (eC (.int 587)))))
    (sSeq (sSet 3 (eBin oMul (eBin oMod (eCall fInt (eCons (eCall fAbs (eCons (eVar 2) eNil)) eNil)) (eBin oPow (eBin oPow (eC (.int 10)) (eC (.int 60))) (eC (.int 5)))) (eCall fInt (eCons (eBin oGe (eCall fAbs (eCons (eVar 2) eNil)) (eBin oPow (eC (.int 10)) (eC (.int 18)))) eNil))))
    (sSeq (sSet 4 (eBin oMod (eCall fInt (eCons (eVar 2) eNil)) (eC (.int 2305843009213693951))))
    (sRet (eLst (eCons (eVar 3) (eCons (eBin oMod (eCall fInt (eCons (eBin oAdd (eBin oAdd (eBin oMul (eVar 4) (eC (.int 73417))) (eBin oMul (eBin oMul (eC (.int 7937)) (eVar 1)) (eVar 1))) (eC (.int 541))) eNil)) (eC (.int 2305843009213693921))) (eCons (eC (.int 0)) eNil))))))))
def b__law_take (call : CallF) : Es :=
  (sSeq (sIf (bOf (eBin oGt (eBin oIx (eVar 0) (eC (.int 0))) (eC (.int 0)))) (sSeq (sSet 2 (eBin oMod (eCall fInt (eCons (eBin oIx (eVar 0) (eC (.int 0))) eNil)) (eVar 1)))
    (sSeq (sSub (eVar 0) (eC (.int 0)) (eBin oDiv (eBin oIx (eVar 0) (eC (.int 0))) (eVar 1)))
    (sRet (eVar 2)))) sNil)
    (sSeq (sSub (eVar 0) (eC (.int 2)) (eBin oAdd (eBin oIx (eVar 0) (eC (.int 2))) (eC (.int 1))))
    (sSeq (sSet 3 (eBin oIx (eLst (eCons (eC (.int 2147483647)) (eCons (eC (.int 2147483629)) (eCons (eC (.int 2147483587)) (eCons (eC (.int 2147483579)) (eCons (eC (.int 2147483563)) eNil)))))) (eBin oMod (eCall fInt (eCons (eBin oIx (eVar 0) (eC (.int 2))) eNil)) (eC (.int 5)))))
    (sSeq (sSet 4 (eBin oMod (eCall fInt (eCons (eBin oPow (eCall fInt (eCons (eBin oAdd (eBin oAdd (eBin oIx (eVar 0) (eC (.int 1))) (eBin oMul (eBin oMul (eC (.int 98439)) (eBin oIx (eVar 0) (eC (.int 2)))) (eBin oIx (eVar 0) (eC (.int 2))))) (eC (.int 587))) eNil)) (eC (.int 3))) eNil)) (eVar 3)))
    (sSeq (sSet 4 (eBin oMod (eCall fInt (eCons (eBin oMul (eVar 4) (eBin oAdd (eBin oMod (eCall fInt (eCons (eVar 4) eNil)) (eC (.int 10423))) (eBin oMul (eC (.int 227)) (eBin oIx (eVar 0) (eC (.int 2)))))) eNil)) (eC (.int 2305843009213693907))))
    (sRet (eBin oMod (eCall fInt (eCons (eBin oDiv (eVar 4) (eC (.int 167))) eNil)) (eVar 1))))))))
def b__law_of (call : CallF) : Es :=
  (sRet (eBin oIx (eVar 1) (eCall (call 13) (eCons (eVar 0) (eCons (eCall fLen (eCons (eVar 1) eNil)) eNil)))))
def b__law_cells (call : CallF) : Es :=
  (sRet (eLrg (eCall fMax (eCons (eC (.int 1)) (eCons (eCall fMin (eCons (eVar 1) (eCons (eCall fLen (eCons (eVar 0) eNil)) eNil))) eNil)))))
def b__law_processes (call : CallF) : Es :=
  (sRet (eLst (eCons (eTup (eCons (eC (.str "pid")) (eCons (eTup eNil) eNil))) (eCons (eTup (eCons (eC (.str "pid")) (eCons (eTup (eCons (eC (.int 1)) eNil)) eNil))) (eCons (eTup (eCons (eC (.str "pid")) (eCons (eTup (eCons (eC (.int 3)) (eCons (eC (.int 1)) eNil))) eNil))) eNil)))))
def b__law_names (call : CallF) : Es :=
  (sRet (eLst (eCons (eC (.str "srv")) (eCons (eC (.str "box")) (eCons (eC (.str "EXIT")) (eCons (eC (.str "a1")) eNil))))))
def b__law_right (call : CallF) : Es :=
  (sSeq (sAsg (gT (gsCons (gN 1) (gsCons (gN 2) gsNil))) (eTup (eCons (eTup eNil) (eCons eDnew eNil))))
    (sSeq (sFor (iRg1 (eCons (eBin oAdd (eC (.int 5)) (eCall (call 13) (eCons (eVar 0) (eCons (eC (.int 10)) eNil)))) eNil)) (gN 3) (sSeq (sAsg (gT (gsCons (gN 4) (gsCons (gN 5) (gsCons (gN 6) gsNil)))) (eTup (eCons (eCall (call 13) (eCons (eVar 0) (eCons (eC (.int 6)) eNil))) (eCons (eCall (call 14) (eCons (eVar 0) (eCons (eCall (call 17) eNil) eNil))) (eCons (eCall (call 14) (eCons (eVar 0) (eCons (eCall (call 16) eNil) eNil))) eNil)))))
    (sSeq (sIf (bOf (eBin oLt (eVar 4) (eC (.int 3)))) (sSeq (sSet 5 (eIf (bOf (eBin oEq (eCall (call 13) (eCons (eVar 0) (eCons (eC (.int 8)) eNil))) (eC (.int 0)))) (eC (.str "undefined")) (eVar 5)))
    (sSeq (sSet 7 (eBin oGt (eCall (call 13) (eCons (eVar 0) (eCons (eC (.int 6)) eNil))) (eC (.int 0))))
    (sSeq (sSet 8 (eAnd (eVar 7) (eAnd (eBin oNe (eVar 5) (eC (.str "undefined"))) (eAnd (eBin (oIn true) (eVar 5) (eVar 2)) (eBin (oIn true) (eVar 6) (e_listValues (eVar 2)))))))
    (sSeq (sSet 9 (eCall (call 7) (eCons (eVar 1) (eCons (eVar 5) (eCons (eVar 6) (eCons (eVar 7) eNil))))))
    (sSeq (sIf (bOf (eVar 8)) (sDput (eVar 2) (eVar 5) (eVar 6)) sNil)
    (sSet 10 (eTup (eCons (eCall fTuple (eCons (e_sortedItems (eVar 2)) eNil)) (eCons (eVar 8) eNil))))))))) (sIf (bOf (eBin oEq (eVar 4) (eC (.int 3)))) (sSeq (sPar 9 11 (eCons (eCall (call 8) (eCons (eVar 1) (eCons (eVar 5) eNil))) (eCons (eBin (oIn false) (eVar 5) (eVar 2)) eNil)))
    (sSeq (sIf (bOf (eVar 11)) (sDrop (eDpop1 (eVar 2) (eVar 5))) sNil)
    (sSet 10 (eTup (eCons (eCall fTuple (eCons (e_sortedItems (eVar 2)) eNil)) (eCons (eVar 11) eNil)))))) (sIf (bOf (eBin oEq (eVar 4) (eC (.int 4)))) (sPar 9 10 (eCons (eTup (eCons (eVar 1) (eCons (eCall (call 9) (eCons (eVar 1) (eCons (eVar 5) eNil))) eNil))) (eCons (eTup (eCons (eVar 1) (eCons (eDget2 (eVar 2) (eVar 5) (eC .non)) eNil))) eNil))) (sSeq (sSet 2 (eCall fDict (eCons (eLock (eVar 2) (eLc (iDict fItem (eVar 2)) [12, 13] (gT (gsCons (gN 12) (gsCons (gN 13) gsNil))) (bOf (eBin oNe (eVar 13) (eVar 6))) (eTup (eCons (eVar 12) (eCons (eVar 13) eNil))))) eNil)))
    (sPar 9 10 (eCons (eTup (eCons (eCall (call 10) (eCons (eVar 1) (eCons (eVar 6) eNil))) (eCons (eC .non) eNil))) (eCons (eTup (eCons (eCall fTuple (eCons (e_sortedItems (eVar 2)) eNil)) (eCons (eC .non) eNil))) eNil)))))))
    (sSeq (sIf (bOf (eBin oNe (eCall fRepr (eCons (eVar 9) eNil)) (eCall fRepr (eCons (eVar 10) eNil)))) (sRet (eC (.bl false))) sNil)
    (sSet 1 (eBin oIx (eVar 9) (eC (.int 0))))))))
    (sRet (eAnd (eBin (oIs false) (eCall (call 9) (eCons (eVar 1) (eCons (eC (.str "undefined")) eNil))) (eC .non)) (eCall fAll (eCons (eLc (iSq (eCall (call 17) eNil)) [5] (gN 5) bYes (eBin oEq (eCall (call 9) (eCons (eVar 1) (eCons (eVar 5) eNil))) (eDget2 (eVar 2) (eVar 5) (eC .non)))) eNil))))))
def b_law (call : CallF) : Es :=
  (sRet (eCall fAll (eCons (eLc (iSq (eCall (call 15) (eCons (eVar 0) (eCons (eC (.int 1)) eNil)))) [1] (gN 1) bYes (eCall (call 18) (eCons (eCall (call 12) (eCons (eVar 0) (eCons (eVar 1) eNil))) eNil))) eNil)))
/-! ### each def by its body -/
section
variable {P : Program} {w : World} {K : PySem.W.Frag} {mg : Str → Option Value} {base : Heap} {fa : Nat → Addr} {call : CallF} {k : Nat} {f : Addr} {fd : FuncData}
theorem ok_is_integer (T : Tx P w K mg base fa call k) (F : FnP K "is_integer" s_is_integer f fd) : FnG P w K mg base (k + 1) f fd P_is_integer (SpOf ⟨K, fa⟩ 1 (runB 1 (b_is_integer call))) := by
  refine fng_of F sc_is_integer fun cd A fr st H hr hgd => ?_
  have hu64 := hr.units
  have hu65 : (A.deeper (envOfC "is_integer" (defScope s_is_integer) st.heap.objs.size f cd)).units + 65 < cLine := by have := hr.un; omega
  have hu70 : (A.deeper (envOfC "is_integer" (defScope s_is_integer) st.heap.objs.size f cd)).units + 70 < cLine := by have := hr.un; omega
  have hu : (A.deeper (envOfC "is_integer" (defScope s_is_integer) st.heap.objs.size f cd)).units + 1 < cLine := hu_of hr
  exact (l_sone (l_ret (l_and (l_isi .int (T.free (x := "isinstance") rfl) (T.free (x := "int") rfl) boot_int (l_var 0)) (l_one (l_not (l_isi .bool (T.free (x := "isinstance") rfl) (T.free (x := "bool") rfl) boot_bool (l_var 0)))))))
theorem ok_is_count (T : Tx P w K mg base fa call k) (F : FnP K "is_count" s_is_count f fd) : FnG P w K mg base (k + 1) f fd P_is_count (SpOf ⟨K, fa⟩ 2 (runB 2 (b_is_count call))) := by
  refine fng_of F sc_is_count fun cd A fr st H hr hgd => ?_
  have hu64 := hr.units
  have hu65 : (A.deeper (envOfC "is_count" (defScope s_is_count) st.heap.objs.size f cd)).units + 65 < cLine := by have := hr.un; omega
  have hu70 : (A.deeper (envOfC "is_count" (defScope s_is_count) st.heap.objs.size f cd)).units + 70 < cLine := by have := hr.un; omega
  have hu : (A.deeper (envOfC "is_count" (defScope s_is_count) st.heap.objs.size f cd)).units + 1 < cLine := hu_of hr
  exact (l_sone (l_ret (l_and (l_fn 0 T.fns hr hgd (l_cons (l_var 0) l_nil)) (l_one (l_cmp op_ge os_ge (l_var 0) (l_var 1))))))
theorem ok_is_atom (T : Tx P w K mg base fa call k) (F : FnP K "is_atom" s_is_atom f fd) : FnG P w K mg base (k + 1) f fd P_is_atom (SpOf ⟨K, fa⟩ 1 (runB 1 (b_is_atom call))) := by
  refine fng_of F sc_is_atom fun cd A fr st H hr hgd => ?_
  have hu64 := hr.units
  have hu65 : (A.deeper (envOfC "is_atom" (defScope s_is_atom) st.heap.objs.size f cd)).units + 65 < cLine := by have := hr.un; omega
  have hu70 : (A.deeper (envOfC "is_atom" (defScope s_is_atom) st.heap.objs.size f cd)).units + 70 < cLine := by have := hr.un; omega
  have hu : (A.deeper (envOfC "is_atom" (defScope s_is_atom) st.heap.objs.size f cd)).units + 1 < cLine := hu_of hr
  exact (l_seq (l_sif (l_tw (l_wor (l_tnot (l_tval (l_isi .str (T.free (x := "isinstance") rfl) (T.free (x := "str") rfl) boot_str (l_var 0)))) (l_wor (l_tnot (l_tchain op_le os_le op_le os_le l_int (l_callB cr_len2 cs_len boot_len (T.free (x := "len") rfl) (l_cons (l_var 0) l_nil)) (l_gint T.g_LONGEST_WORD))) (l_wor1 (l_tnot (l_tval (l_isascii (l_var 0)))))))) (l_sone (l_ret l_bl)) l_snil)
    (l_sone (l_ret (l_or (l_isalnum (l_var 0)) (l_one l_stuckE)))))
theorem ok_is_path (T : Tx P w K mg base fa call k) (F : FnP K "is_path" s_is_path f fd) : FnG P w K mg base (k + 1) f fd P_is_path (SpOf ⟨K, fa⟩ 1 (runB 2 (b_is_path call))) := by
  refine fng_of F sc_is_path fun cd A fr st H hr hgd => ?_
  have hu64 := hr.units
  have hu65 : (A.deeper (envOfC "is_path" (defScope s_is_path) st.heap.objs.size f cd)).units + 65 < cLine := by have := hr.un; omega
  have hu70 : (A.deeper (envOfC "is_path" (defScope s_is_path) st.heap.objs.size f cd)).units + 70 < cLine := by have := hr.un; omega
  have hu : (A.deeper (envOfC "is_path" (defScope s_is_path) st.heap.objs.size f cd)).units + 1 < cLine := hu_of hr
  exact (l_seq (l_sif (l_tw (l_wor (l_tnot (l_tval (l_isi .tuple (T.free (x := "isinstance") rfl) (T.free (x := "tuple") rfl) boot_tuple (l_var 0)))) (l_wor1 (l_tcmp op_gt os_gt (l_callB cr_len2 cs_len boot_len (T.free (x := "len") rfl) (l_cons (l_var 0) l_nil)) (l_gint T.g_LONGEST_PATH))))) (l_sone (l_ret l_bl)) l_snil)
    (l_seq (l_for PassesOwn.never (l_iseq (l_var 0)) (l_gname 1 sc_is_path.nd) (l_sone (l_sif (l_tnot (l_tval (l_fn 1 T.fns hr hgd (l_cons (l_var 1) (l_cons l_int l_nil))))) (l_sone (l_ret l_bl)) l_snil)))
    (l_sone (l_ret l_bl))))
theorem ok_is_process (T : Tx P w K mg base fa call k) (F : FnP K "is_process" s_is_process f fd) : FnG P w K mg base (k + 1) f fd P_is_process (SpOf ⟨K, fa⟩ 1 (runB 1 (b_is_process call))) := by
  refine fng_of F sc_is_process fun cd A fr st H hr hgd => ?_
  have hu64 := hr.units
  have hu65 : (A.deeper (envOfC "is_process" (defScope s_is_process) st.heap.objs.size f cd)).units + 65 < cLine := by have := hr.un; omega
  have hu70 : (A.deeper (envOfC "is_process" (defScope s_is_process) st.heap.objs.size f cd)).units + 70 < cLine := by have := hr.un; omega
  have hu : (A.deeper (envOfC "is_process" (defScope s_is_process) st.heap.objs.size f cd)).units + 1 < cLine := hu_of hr
  exact (l_sone (l_ret (l_and (l_isi .tuple (T.free (x := "isinstance") rfl) (T.free (x := "tuple") rfl) boot_tuple (l_var 0)) (l_and (l_cmp (opr_or op_eq (op_eqD hu64)) os_eq (l_callB cr_len2 cs_len boot_len (T.free (x := "len") rfl) (l_cons (l_var 0) l_nil)) l_int) (l_and (l_fn 5 T.fns hr hgd (l_cons (l_ix ix_both os_ix (l_var 0) l_int) (l_cons l_str l_nil))) (l_one (l_fn 3 T.fns hr hgd (l_cons (l_ix ix_both os_ix (l_var 0) l_int) l_nil))))))))
theorem ok__is_tag (T : Tx P w K mg base fa call k) (F : FnP K "_is_tag" s__is_tag f fd) : FnG P w K mg base (k + 1) f fd P__is_tag (SpOf ⟨K, fa⟩ 2 (runB 2 (b__is_tag call))) := by
  refine fng_of F sc__is_tag fun cd A fr st H hr hgd => ?_
  have hu64 := hr.units
  have hu65 : (A.deeper (envOfC "_is_tag" (defScope s__is_tag) st.heap.objs.size f cd)).units + 65 < cLine := by have := hr.un; omega
  have hu70 : (A.deeper (envOfC "_is_tag" (defScope s__is_tag) st.heap.objs.size f cd)).units + 70 < cLine := by have := hr.un; omega
  have hu : (A.deeper (envOfC "_is_tag" (defScope s__is_tag) st.heap.objs.size f cd)).units + 1 < cLine := hu_of hr
  exact (l_sone (l_ret (l_and (l_isi .str (T.free (x := "isinstance") rfl) (T.free (x := "str") rfl) boot_str (l_var 0)) (l_one (l_cmp (opr_or op_eq (op_eqD hu64)) os_eq (l_var 0) (l_var 1))))))
theorem ok_want_process (T : Tx P w K mg base fa call k) (F : FnP K "want_process" s_want_process f fd) : FnG P w K mg base (k + 1) f fd P_want_process (SpOf ⟨K, fa⟩ 1 (runB 1 (b_want_process call))) := by
  refine fng_of F sc_want_process fun cd A fr st H hr hgd => ?_
  have hu64 := hr.units
  have hu65 : (A.deeper (envOfC "want_process" (defScope s_want_process) st.heap.objs.size f cd)).units + 65 < cLine := by have := hr.un; omega
  have hu70 : (A.deeper (envOfC "want_process" (defScope s_want_process) st.heap.objs.size f cd)).units + 70 < cLine := by have := hr.un; omega
  have hu : (A.deeper (envOfC "want_process" (defScope s_want_process) st.heap.objs.size f cd)).units + 1 < cLine := hu_of hr
  exact (l_sone (l_sif (l_tnot (l_tval (l_fn 4 T.fns hr hgd (l_cons (l_var 0) l_nil)))) (l_sone l_stuckS) l_snil))
theorem ok_give (T : Tx P w K mg base fa call k) (F : FnP K "give" s_give f fd) : FnG P w K mg base (k + 1) f fd P_give (SpOf ⟨K, fa⟩ 4 (runB 6 (b_give call))) := by
  refine fng_of F sc_give fun cd A fr st H hr hgd => ?_
  have hu64 := hr.units
  have hu65 : (A.deeper (envOfC "give" (defScope s_give) st.heap.objs.size f cd)).units + 65 < cLine := by have := hr.un; omega
  have hu70 : (A.deeper (envOfC "give" (defScope s_give) st.heap.objs.size f cd)).units + 70 < cLine := by have := hr.un; omega
  have hu : (A.deeper (envOfC "give" (defScope s_give) st.heap.objs.size f cd)).units + 1 < cLine := hu_of hr
  exact (l_seq (l_expr (l_fn 11 T.fns hr hgd (l_cons (l_var 1) l_nil)))
    (l_seq (l_expr (l_fn 6 T.fns hr hgd (l_cons (l_var 2) l_nil)))
    (l_seq (l_sif (l_tw (l_wor (l_tnot (l_tval (l_var 3))) (l_wor1 (l_tcmp (opr_or op_eq (op_eqD hu64)) os_eq (l_var 1) (l_gstr T.g_UNDEFINED))))) (l_sone (l_ret (l_tup (l_cons (l_var 0) (l_cons l_bl l_nil))))) l_snil)
    (l_seq (l_for PassesOwn.never (l_iseq (l_var 0)) (l_gtup (l_gscons (l_gname 4 sc_give.nd) (l_gscons (l_gname 5 sc_give.nd) l_gsnil)) (glen_cons (glen_cons glen_nil))) (l_sone (l_sif (l_tw (l_wor (l_tcmp (opr_or op_eq (op_eqD hu64)) os_eq (l_var 4) (l_var 1)) (l_wor1 (l_tcmp (opr_or op_eq (op_eqD hu64)) os_eq (l_var 5) (l_var 2))))) (l_sone (l_ret (l_tup (l_cons (l_var 0) (l_cons l_bl l_nil))))) l_snil)))
    (l_sone (l_ret (l_tup (l_cons (l_callT call_tuple_of cs_tuple boot_tuple (T.free (x := "tuple") rfl) (l_cons (l_callB (car_or (cr_sortD hu70) (cr_sortDT hu70)) (cs_or cs_sortD cs_sortDT) boot_sorted (T.free (x := "sorted") rfl) (l_cons (l_lst (l_consS (l_var 0) (l_cons (l_tup (l_cons (l_var 1) (l_cons (l_var 2) l_nil))) l_nil))) l_nil)) l_nil)) (l_cons l_bl l_nil)))))))))
theorem ok_freed (T : Tx P w K mg base fa call k) (F : FnP K "freed" s_freed f fd) : FnG P w K mg base (k + 1) f fd P_freed (SpOf ⟨K, fa⟩ 2 (runB 3 (b_freed call))) := by
  refine fng_of F sc_freed fun cd A fr st H hr hgd => ?_
  have hu64 := hr.units
  have hu65 : (A.deeper (envOfC "freed" (defScope s_freed) st.heap.objs.size f cd)).units + 65 < cLine := by have := hr.un; omega
  have hu70 : (A.deeper (envOfC "freed" (defScope s_freed) st.heap.objs.size f cd)).units + 70 < cLine := by have := hr.un; omega
  have hu : (A.deeper (envOfC "freed" (defScope s_freed) st.heap.objs.size f cd)).units + 1 < cLine := hu_of hr
  exact (l_seq (l_sif (l_tcmp op_isN os_isN (l_fn 9 T.fns hr hgd (l_cons (l_var 0) (l_cons (l_var 1) l_nil))) l_non) (l_sone (l_ret (l_tup (l_cons (l_var 0) (l_cons l_bl l_nil))))) l_snil)
    (l_sone (l_ret (l_tup (l_cons (l_callT call_tuple_of cs_tuple boot_tuple (T.free (x := "tuple") rfl) (l_cons (l_lc (own := [("row", 2)]) sc_freed.nd (l_iseq (l_var 0)) (blkOk_by (N := N_freed) (sc := defScope s_freed) (by decide +kernel)) (fun _ _ _ _ _ => (l_gname 2 sc_freed.nd)) (fun _ _ _ _ _ => (l_tsone (l_tcmp (opr_or op_ne (op_neD hu64)) os_ne (l_ix ix_both os_ix (l_var 2) l_int) (l_var 1)))) (fun _ _ _ _ _ => (l_var 2)) (by decide)) l_nil)) (l_cons l_bl l_nil))))))
theorem ok_who (T : Tx P w K mg base fa call k) (F : FnP K "who" s_who f fd) : FnG P w K mg base (k + 1) f fd P_who (SpOf ⟨K, fa⟩ 2 (runB 4 (b_who call))) := by
  refine fng_of F sc_who fun cd A fr st H hr hgd => ?_
  have hu64 := hr.units
  have hu65 : (A.deeper (envOfC "who" (defScope s_who) st.heap.objs.size f cd)).units + 65 < cLine := by have := hr.un; omega
  have hu70 : (A.deeper (envOfC "who" (defScope s_who) st.heap.objs.size f cd)).units + 70 < cLine := by have := hr.un; omega
  have hu : (A.deeper (envOfC "who" (defScope s_who) st.heap.objs.size f cd)).units + 1 < cLine := hu_of hr
  exact (l_seq (l_expr (l_fn 11 T.fns hr hgd (l_cons (l_var 1) l_nil)))
    (l_seq (l_for PassesOwn.never (l_iseq (l_var 0)) (l_gtup (l_gscons (l_gname 2 sc_who.nd) (l_gscons (l_gname 3 sc_who.nd) l_gsnil)) (glen_cons (glen_cons glen_nil))) (l_sone (l_sif (l_tcmp (opr_or op_eq (op_eqD hu64)) os_eq (l_var 2) (l_var 1)) (l_sone (l_ret (l_var 3))) l_snil)))
    (l_sone (l_ret l_non))))
theorem ok_left (T : Tx P w K mg base fa call k) (F : FnP K "left" s_left f fd) : FnG P w K mg base (k + 1) f fd P_left (SpOf ⟨K, fa⟩ 2 (runB 3 (b_left call))) := by
  refine fng_of F sc_left fun cd A fr st H hr hgd => ?_
  have hu64 := hr.units
  have hu65 : (A.deeper (envOfC "left" (defScope s_left) st.heap.objs.size f cd)).units + 65 < cLine := by have := hr.un; omega
  have hu70 : (A.deeper (envOfC "left" (defScope s_left) st.heap.objs.size f cd)).units + 70 < cLine := by have := hr.un; omega
  have hu : (A.deeper (envOfC "left" (defScope s_left) st.heap.objs.size f cd)).units + 1 < cLine := hu_of hr
  exact (l_seq (l_expr (l_fn 6 T.fns hr hgd (l_cons (l_var 1) l_nil)))
    (l_sone (l_ret (l_callT call_tuple_of cs_tuple boot_tuple (T.free (x := "tuple") rfl) (l_cons (l_lc (own := [("row", 2)]) sc_left.nd (l_iseq (l_var 0)) (blkOk_by (N := N_left) (sc := defScope s_left) (by decide +kernel)) (fun _ _ _ _ _ => (l_gname 2 sc_left.nd)) (fun _ _ _ _ _ => (l_tsone (l_tcmp (opr_or op_ne (op_neD hu64)) os_ne (l_ix ix_both os_ix (l_var 2) l_int) (l_var 1)))) (fun _ _ _ _ _ => (l_var 2)) (by decide)) l_nil)))))
theorem ok__want_atom (T : Tx P w K mg base fa call k) (F : FnP K "_want_atom" s__want_atom f fd) : FnG P w K mg base (k + 1) f fd P__want_atom (SpOf ⟨K, fa⟩ 1 (runB 1 (b__want_atom call))) := by
  refine fng_of F sc__want_atom fun cd A fr st H hr hgd => ?_
  have hu64 := hr.units
  have hu65 : (A.deeper (envOfC "_want_atom" (defScope s__want_atom) st.heap.objs.size f cd)).units + 65 < cLine := by have := hr.un; omega
  have hu70 : (A.deeper (envOfC "_want_atom" (defScope s__want_atom) st.heap.objs.size f cd)).units + 70 < cLine := by have := hr.un; omega
  have hu : (A.deeper (envOfC "_want_atom" (defScope s__want_atom) st.heap.objs.size f cd)).units + 1 < cLine := hu_of hr
  exact (l_sone (l_sif (l_tnot (l_tval (l_fn 2 T.fns hr hgd (l_cons (l_var 0) l_nil)))) (l_sone l_stuckS) l_snil))
theorem ok__law_pot (T : Tx P w K mg base fa call k) (F : FnP K "_law_pot" s__law_pot f fd) : FnG P w K mg base (k + 1) f fd P__law_pot (SpOf ⟨K, fa⟩ 2 (runB 5 (b__law_pot call))) := by
  refine fng_of F sc__law_pot fun cd A fr st H hr hgd => ?_
  have hu64 := hr.units
  have hu65 : (A.deeper (envOfC "_law_pot" (defScope s__law_pot) st.heap.objs.size f cd)).units + 65 < cLine := by have := hr.un; omega
  have hu70 : (A.deeper (envOfC "_law_pot" (defScope s__law_pot) st.heap.objs.size f cd)).units + 70 < cLine := by have := hr.un; omega
  have hu : (A.deeper (envOfC "_law_pot" (defScope s__law_pot) st.heap.objs.size f cd)).units + 1 < cLine := hu_of hr
  exact (l_seq (l_set 2 sc__law_pot.nd (l_if (l_tcmp op_lt os_lt (l_var 1) (l_callB cr_len2 cs_len boot_len (T.free (x := "len") rfl) (l_cons (l_var 0) l_nil))) (l_ix ix_both os_ix (l_var 0) (l_var 1)) (l_bin opr_add4 os_add (l_bin opr_add4 os_add (l_bin op_mod os_mod (l_callB (cr_sum rfl) cs_sum boot_sum (T.free (x := "sum") rfl) (l_cons (l_slice (l_var 0) l_onone (l_osome l_int)) l_nil)) l_int) (l_bin op_mulW os_mul l_int (l_var 1))) l_int)))
    (l_seq (l_set 3 sc__law_pot.nd (l_bin op_mulW os_mul (l_bin op_mod os_mod (l_callT call_int1 cs_int boot_int (T.free (x := "int") rfl) (l_cons (l_callB call_abs cs_abs boot_abs (T.free (x := "abs") rfl) (l_cons (l_var 2) l_nil)) l_nil)) (l_bin op_powB os_pow (l_bin op_powB os_pow l_int l_int) l_int)) (l_callT call_int1 cs_int boot_int (T.free (x := "int") rfl) (l_cons (l_cmp op_ge os_ge (l_callB call_abs cs_abs boot_abs (T.free (x := "abs") rfl) (l_cons (l_var 2) l_nil)) (l_bin op_powB os_pow l_int l_int)) l_nil))))
    (l_seq (l_set 4 sc__law_pot.nd (l_bin op_mod os_mod (l_callT call_int1 cs_int boot_int (T.free (x := "int") rfl) (l_cons (l_var 2) l_nil)) l_int))
    (l_sone (l_ret (l_lst (l_cons (l_var 3) (l_cons (l_bin op_mod os_mod (l_callT call_int1 cs_int boot_int (T.free (x := "int") rfl) (l_cons (l_bin opr_add4 os_add (l_bin opr_add4 os_add (l_bin op_mulW os_mul (l_var 4) l_int) (l_bin op_mulW os_mul (l_bin op_mulW os_mul l_int (l_var 1)) (l_var 1))) l_int) l_nil)) l_int) (l_cons l_int l_nil)))))))))
theorem ok__law_take (T : Tx P w K mg base fa call k) (F : FnP K "_law_take" s__law_take f fd) : FnG P w K mg base (k + 1) f fd P__law_take (SpOf ⟨K, fa⟩ 2 (runB 5 (b__law_take call))) := by
  refine fng_of F sc__law_take fun cd A fr st H hr hgd => ?_
  have hu64 := hr.units
  have hu65 : (A.deeper (envOfC "_law_take" (defScope s__law_take) st.heap.objs.size f cd)).units + 65 < cLine := by have := hr.un; omega
  have hu70 : (A.deeper (envOfC "_law_take" (defScope s__law_take) st.heap.objs.size f cd)).units + 70 < cLine := by have := hr.un; omega
  have hu : (A.deeper (envOfC "_law_take" (defScope s__law_take) st.heap.objs.size f cd)).units + 1 < cLine := hu_of hr
  exact (l_seq (l_sif (l_tcmp op_gt os_gt (l_ix ix_both os_ix (l_var 0) l_int) l_int) (l_seq (l_set 2 sc__law_take.nd (l_bin op_mod os_mod (l_callT call_int1 cs_int boot_int (T.free (x := "int") rfl) (l_cons (l_ix ix_both os_ix (l_var 0) l_int) l_nil)) (l_var 1)))
    (l_seq (l_ssub (l_var 0) l_int (l_bin op_fdivW os_div (l_ix ix_both os_ix (l_var 0) l_int) (l_var 1)))
    (l_sone (l_ret (l_var 2))))) l_snil)
    (l_seq (l_ssub (l_var 0) l_int (l_bin opr_add4 os_add (l_ix ix_both os_ix (l_var 0) l_int) l_int))
    (l_seq (l_set 3 sc__law_take.nd (l_ix ix_both os_ix (l_lst (l_cons l_int (l_cons l_int (l_cons l_int (l_cons l_int (l_cons l_int l_nil)))))) (l_bin op_mod os_mod (l_callT call_int1 cs_int boot_int (T.free (x := "int") rfl) (l_cons (l_ix ix_both os_ix (l_var 0) l_int) l_nil)) l_int)))
    (l_seq (l_set 4 sc__law_take.nd (l_bin op_mod os_mod (l_callT call_int1 cs_int boot_int (T.free (x := "int") rfl) (l_cons (l_bin op_powB os_pow (l_callT call_int1 cs_int boot_int (T.free (x := "int") rfl) (l_cons (l_bin opr_add4 os_add (l_bin opr_add4 os_add (l_ix ix_both os_ix (l_var 0) l_int) (l_bin op_mulW os_mul (l_bin op_mulW os_mul l_int (l_ix ix_both os_ix (l_var 0) l_int)) (l_ix ix_both os_ix (l_var 0) l_int))) l_int) l_nil)) l_int) l_nil)) (l_var 3)))
    (l_seq (l_set 4 sc__law_take.nd (l_bin op_mod os_mod (l_callT call_int1 cs_int boot_int (T.free (x := "int") rfl) (l_cons (l_bin op_mulW os_mul (l_var 4) (l_bin opr_add4 os_add (l_bin op_mod os_mod (l_callT call_int1 cs_int boot_int (T.free (x := "int") rfl) (l_cons (l_var 4) l_nil)) l_int) (l_bin op_mulW os_mul l_int (l_ix ix_both os_ix (l_var 0) l_int)))) l_nil)) l_int))
    (l_sone (l_ret (l_bin op_mod os_mod (l_callT call_int1 cs_int boot_int (T.free (x := "int") rfl) (l_cons (l_bin op_fdivW os_div (l_var 4) l_int) l_nil)) (l_var 1)))))))))
theorem ok__law_of (T : Tx P w K mg base fa call k) (F : FnP K "_law_of" s__law_of f fd) : FnG P w K mg base (k + 1) f fd P__law_of (SpOf ⟨K, fa⟩ 2 (runB 2 (b__law_of call))) := by
  refine fng_of F sc__law_of fun cd A fr st H hr hgd => ?_
  have hu64 := hr.units
  have hu65 : (A.deeper (envOfC "_law_of" (defScope s__law_of) st.heap.objs.size f cd)).units + 65 < cLine := by have := hr.un; omega
  have hu70 : (A.deeper (envOfC "_law_of" (defScope s__law_of) st.heap.objs.size f cd)).units + 70 < cLine := by have := hr.un; omega
  have hu : (A.deeper (envOfC "_law_of" (defScope s__law_of) st.heap.objs.size f cd)).units + 1 < cLine := hu_of hr
  exact (l_sone (l_ret (l_ix ix_both os_ix (l_var 1) (l_fn 13 T.fns hr hgd (l_cons (l_var 0) (l_cons (l_callB cr_len2 cs_len boot_len (T.free (x := "len") rfl) (l_cons (l_var 1) l_nil)) l_nil))))))
theorem ok__law_cells (T : Tx P w K mg base fa call k) (F : FnP K "_law_cells" s__law_cells f fd) : FnG P w K mg base (k + 1) f fd P__law_cells (SpOf ⟨K, fa⟩ 2 (runB 2 (b__law_cells call))) := by
  refine fng_of F sc__law_cells fun cd A fr st H hr hgd => ?_
  have hu64 := hr.units
  have hu65 : (A.deeper (envOfC "_law_cells" (defScope s__law_cells) st.heap.objs.size f cd)).units + 65 < cLine := by have := hr.un; omega
  have hu70 : (A.deeper (envOfC "_law_cells" (defScope s__law_cells) st.heap.objs.size f cd)).units + 70 < cLine := by have := hr.un; omega
  have hu : (A.deeper (envOfC "_law_cells" (defScope s__law_cells) st.heap.objs.size f cd)).units + 1 < cLine := hu_of hr
  exact (l_sone (l_ret (l_listRg (T.free (x := "range") rfl) (T.free (x := "list") rfl) (l_callB (call_max2 rfl) cs_max boot_max (T.free (x := "max") rfl) (l_cons l_int (l_cons (l_callB (call_min2 rfl) cs_min boot_min (T.free (x := "min") rfl) (l_cons (l_var 1) (l_cons (l_callB cr_len2 cs_len boot_len (T.free (x := "len") rfl) (l_cons (l_var 0) l_nil)) l_nil))) l_nil))))))
theorem ok__law_processes (T : Tx P w K mg base fa call k) (F : FnP K "_law_processes" s__law_processes f fd) : FnG P w K mg base (k + 1) f fd P__law_processes (SpOf ⟨K, fa⟩ 0 (runB 0 (b__law_processes call))) := by
  refine fng_of F sc__law_processes fun cd A fr st H hr hgd => ?_
  have hu64 := hr.units
  have hu65 : (A.deeper (envOfC "_law_processes" (defScope s__law_processes) st.heap.objs.size f cd)).units + 65 < cLine := by have := hr.un; omega
  have hu70 : (A.deeper (envOfC "_law_processes" (defScope s__law_processes) st.heap.objs.size f cd)).units + 70 < cLine := by have := hr.un; omega
  have hu : (A.deeper (envOfC "_law_processes" (defScope s__law_processes) st.heap.objs.size f cd)).units + 1 < cLine := hu_of hr
  exact (l_sone (l_ret (l_lst (l_cons (l_tup (l_cons l_str (l_cons (l_tup l_nil) l_nil))) (l_cons (l_tup (l_cons l_str (l_cons (l_tup (l_cons l_int l_nil)) l_nil))) (l_cons (l_tup (l_cons l_str (l_cons (l_tup (l_cons l_int (l_cons l_int l_nil))) l_nil))) l_nil))))))
theorem ok__law_names (T : Tx P w K mg base fa call k) (F : FnP K "_law_names" s__law_names f fd) : FnG P w K mg base (k + 1) f fd P__law_names (SpOf ⟨K, fa⟩ 0 (runB 0 (b__law_names call))) := by
  refine fng_of F sc__law_names fun cd A fr st H hr hgd => ?_
  have hu64 := hr.units
  have hu65 : (A.deeper (envOfC "_law_names" (defScope s__law_names) st.heap.objs.size f cd)).units + 65 < cLine := by have := hr.un; omega
  have hu70 : (A.deeper (envOfC "_law_names" (defScope s__law_names) st.heap.objs.size f cd)).units + 70 < cLine := by have := hr.un; omega
  have hu : (A.deeper (envOfC "_law_names" (defScope s__law_names) st.heap.objs.size f cd)).units + 1 < cLine := hu_of hr
  exact (l_sone (l_ret (l_lst (l_cons l_str (l_cons l_str (l_cons l_str (l_cons l_str l_nil)))))))
theorem ok__law_right (T : Tx P w K mg base fa call k) (F : FnP K "_law_right" s__law_right f fd) : FnG P w K mg base (k + 1) f fd P__law_right (SpOf ⟨K, fa⟩ 1 (runB 14 (b__law_right call))) := by
  refine fng_of F sc__law_right fun cd A fr st H hr hgd => ?_
  have hu64 := hr.units
  have hu65 : (A.deeper (envOfC "_law_right" (defScope s__law_right) st.heap.objs.size f cd)).units + 65 < cLine := by have := hr.un; omega
  have hu70 : (A.deeper (envOfC "_law_right" (defScope s__law_right) st.heap.objs.size f cd)).units + 70 < cLine := by have := hr.un; omega
  have hu : (A.deeper (envOfC "_law_right" (defScope s__law_right) st.heap.objs.size f cd)).units + 1 < cLine := hu_of hr
  exact (l_seq (l_asg (l_tup (l_cons (l_tup l_nil) (l_cons l_dnew l_nil))) (l_gtup (l_gscons (l_gname 1 sc__law_right.nd) (l_gscons (l_gname 2 sc__law_right.nd) l_gsnil)) (glen_cons (glen_cons glen_nil))))
    (l_seq (l_for PassesOwn.never (l_irange1 (T.free (x := "range") rfl) (l_cons (l_bin opr_add4 os_add l_int (l_fn 13 T.fns hr hgd (l_cons (l_var 0) (l_cons l_int l_nil)))) l_nil)) (l_gname 3 sc__law_right.nd) (l_seq (l_asg (l_tup (l_cons (l_fn 13 T.fns hr hgd (l_cons (l_var 0) (l_cons l_int l_nil))) (l_cons (l_fn 14 T.fns hr hgd (l_cons (l_var 0) (l_cons (l_fn0 17 T.fns hr hgd) l_nil))) (l_cons (l_fn 14 T.fns hr hgd (l_cons (l_var 0) (l_cons (l_fn0 16 T.fns hr hgd) l_nil))) l_nil)))) (l_gtup (l_gscons (l_gname 4 sc__law_right.nd) (l_gscons (l_gname 5 sc__law_right.nd) (l_gscons (l_gname 6 sc__law_right.nd) l_gsnil))) (glen_cons (glen_cons (glen_cons glen_nil)))))
    (l_seq (l_sif (l_tcmp op_lt os_lt (l_var 4) l_int) (l_seq (l_set 5 sc__law_right.nd (l_if (l_tcmp (opr_or op_eq (op_eqD hu64)) os_eq (l_fn 13 T.fns hr hgd (l_cons (l_var 0) (l_cons l_int l_nil))) l_int) l_str (l_var 5)))
    (l_seq (l_set 7 sc__law_right.nd (l_cmp op_gt os_gt (l_fn 13 T.fns hr hgd (l_cons (l_var 0) (l_cons l_int l_nil))) l_int))
    (l_seq (l_set 8 sc__law_right.nd (l_and (l_var 7) (l_and (l_cmp (opr_or op_ne (op_neD hu64)) os_ne (l_var 5) l_str) (l_and (l_cmp (opr_notin hu65) os_notin (l_var 5) (l_var 2)) (l_one (l_cmp (opr_notin hu65) os_notin (l_var 6) (l_listValues (T.free (x := "list") rfl) (l_var 2))))))))
    (l_seq (l_set 9 sc__law_right.nd (l_fn 7 T.fns hr hgd (l_cons (l_var 1) (l_cons (l_var 5) (l_cons (l_var 6) (l_cons (l_var 7) l_nil))))))
    (l_seq (l_sif (l_tval (l_var 8)) (l_sone (l_dput hu (l_var 2) (l_var 5) (l_var 6))) l_snil)
    (l_sone (l_set 10 sc__law_right.nd (l_tup (l_cons (l_callT call_tuple_of cs_tuple boot_tuple (T.free (x := "tuple") rfl) (l_cons (l_sortedItems hu70 (T.free (x := "sorted") rfl) (l_var 2)) l_nil)) (l_cons (l_var 8) l_nil)))))))))) (l_sone (l_sif (l_tcmp (opr_or op_eq (op_eqD hu64)) os_eq (l_var 4) l_int) (l_seq (l_par 9 11 sc__law_right.nd (l_cons (l_fn 8 T.fns hr hgd (l_cons (l_var 1) (l_cons (l_var 5) l_nil))) (l_cons (l_cmp (opr_in hu65) os_in (l_var 5) (l_var 2)) l_nil)))
    (l_seq (l_sif (l_tval (l_var 11)) (l_sone (l_expr (l_dpop1 (l_var 2) (l_var 5)))) l_snil)
    (l_sone (l_set 10 sc__law_right.nd (l_tup (l_cons (l_callT call_tuple_of cs_tuple boot_tuple (T.free (x := "tuple") rfl) (l_cons (l_sortedItems hu70 (T.free (x := "sorted") rfl) (l_var 2)) l_nil)) (l_cons (l_var 11) l_nil))))))) (l_sone (l_sif (l_tcmp (opr_or op_eq (op_eqD hu64)) os_eq (l_var 4) l_int) (l_sone (l_par 9 10 sc__law_right.nd (l_cons (l_tup (l_cons (l_var 1) (l_cons (l_fn 9 T.fns hr hgd (l_cons (l_var 1) (l_cons (l_var 5) l_nil))) l_nil))) (l_cons (l_tup (l_cons (l_var 1) (l_cons (l_dget2 hu (l_var 2) (l_var 5) l_non) l_nil))) l_nil)))) (l_seq (l_set 2 sc__law_right.nd (l_callT (call_dictP rfl) cs_dictP boot_dict (T.free (x := "dict") rfl) (l_cons (l_lockE (eVar 2) (l_lc (own := [("one", 12), ("its", 13)]) sc__law_right.nd (l_iitems (l_var 2)) (blkOk_by (N := N__law_right) (sc := defScope s__law_right) (by decide +kernel)) (fun _ _ _ _ _ => (l_gtup (l_gscons (l_gname 12 sc__law_right.nd) (l_gscons (l_gname 13 sc__law_right.nd) l_gsnil)) (glen_cons (glen_cons glen_nil)))) (fun _ _ _ _ _ => (l_tsone (l_tcmp (opr_or op_ne (op_neD hu64)) os_ne (l_var 13) (l_var 6)))) (fun _ _ _ _ _ => (l_tup (l_cons (l_var 12) (l_cons (l_var 13) l_nil)))) (by decide))) l_nil)))
    (l_sone (l_par 9 10 sc__law_right.nd (l_cons (l_tup (l_cons (l_fn 10 T.fns hr hgd (l_cons (l_var 1) (l_cons (l_var 6) l_nil))) (l_cons l_non l_nil))) (l_cons (l_tup (l_cons (l_callT call_tuple_of cs_tuple boot_tuple (T.free (x := "tuple") rfl) (l_cons (l_sortedItems hu70 (T.free (x := "sorted") rfl) (l_var 2)) l_nil)) (l_cons l_non l_nil))) l_nil))))))))))
    (l_seq (l_sif (l_tcmp (opr_or op_ne (op_neD hu64)) os_ne (l_callB (cr_repr hgd hu65) cs_repr boot_repr (T.free (x := "repr") rfl) (l_cons (l_var 9) l_nil)) (l_callB (cr_repr hgd hu65) cs_repr boot_repr (T.free (x := "repr") rfl) (l_cons (l_var 10) l_nil))) (l_sone (l_ret l_bl)) l_snil)
    (l_sone (l_set 1 sc__law_right.nd (l_ix ix_both os_ix (l_var 9) l_int)))))))
    (l_sone (l_ret (l_and (l_cmp op_isN os_isN (l_fn 9 T.fns hr hgd (l_cons (l_var 1) (l_cons l_str l_nil))) l_non) (l_one (l_callB (cr_all rfl) cs_all boot_all (T.free (x := "all") rfl) (l_cons (l_lc (own := [("name", 5)]) sc__law_right.nd (l_iseq (l_fn0 17 T.fns hr hgd)) (blkOk_by (N := N__law_right) (sc := defScope s__law_right) (by decide +kernel)) (fun _ _ _ _ _ => (l_gname 5 sc__law_right.nd)) (fun _ _ _ _ _ => l_tsnil) (fun _ _ _ _ _ => (l_cmp (opr_or op_eq (op_eqD hu64)) os_eq (l_fn 9 T.fns hr hgd (l_cons (l_var 1) (l_cons (l_var 5) l_nil))) (l_dget2 hu (l_var 2) (l_var 5) l_non))) (by decide)) l_nil))))))))
theorem ok_law (T : Tx P w K mg base fa call k) (F : FnP K "law" s_law f fd) : FnG P w K mg base (k + 1) f fd P_law (SpOf ⟨K, fa⟩ 1 (runB 2 (b_law call))) := by
  refine fng_of F sc_law fun cd A fr st H hr hgd => ?_
  have hu64 := hr.units
  have hu65 : (A.deeper (envOfC "law" (defScope s_law) st.heap.objs.size f cd)).units + 65 < cLine := by have := hr.un; omega
  have hu70 : (A.deeper (envOfC "law" (defScope s_law) st.heap.objs.size f cd)).units + 70 < cLine := by have := hr.un; omega
  have hu : (A.deeper (envOfC "law" (defScope s_law) st.heap.objs.size f cd)).units + 1 < cLine := hu_of hr
  exact (l_sone (l_ret (l_callB (cr_all rfl) cs_all boot_all (T.free (x := "all") rfl) (l_cons (l_lc (own := [("place", 1)]) sc_law.nd (l_iseq (l_fn 15 T.fns hr hgd (l_cons (l_var 0) (l_cons l_int l_nil)))) (blkOk_by (N := N_law) (sc := defScope s_law) (by decide +kernel)) (fun _ _ _ _ _ => (l_gname 1 sc_law.nd)) (fun _ _ _ _ _ => l_tsnil) (fun _ _ _ _ _ => (l_fn 18 T.fns hr hgd (l_cons (l_fn 12 T.fns hr hgd (l_cons (l_var 0) (l_cons (l_var 1) l_nil))) l_nil))) (by decide)) l_nil))))
end
/-! ### the table -/
def body (call : CallF) : CallF
  | 0 => runB 1 (b_is_integer call)
  | 1 => runB 2 (b_is_count call)
  | 2 => runB 1 (b_is_atom call)
  | 3 => runB 2 (b_is_path call)
  | 4 => runB 1 (b_is_process call)
  | 5 => runB 2 (b__is_tag call)
  | 6 => runB 1 (b_want_process call)
  | 7 => runB 6 (b_give call)
  | 8 => runB 3 (b_freed call)
  | 9 => runB 4 (b_who call)
  | 10 => runB 3 (b_left call)
  | 11 => runB 1 (b__want_atom call)
  | 12 => runB 5 (b__law_pot call)
  | 13 => runB 5 (b__law_take call)
  | 14 => runB 2 (b__law_of call)
  | 15 => runB 2 (b__law_cells call)
  | 16 => runB 0 (b__law_processes call)
  | 17 => runB 0 (b__law_names call)
  | 18 => runB 14 (b__law_right call)
  | 19 => runB 2 (b_law call)
  | _ => fun _ _ => none
def callN : Nat → CallF
  | 0 => fun _ _ _ => none
  | k + 1 => body (callN k)
/-- where each def stands -/
structure Hd (w : World) (K : PySem.W.Frag) (mg : Str → Option Value) (fa : Nat → Addr) : Prop where
  d0 : ∃ fd, FnP K "is_integer" s_is_integer (fa 0) fd
  d1 : ∃ fd, FnP K "is_count" s_is_count (fa 1) fd
  d2 : ∃ fd, FnP K "is_atom" s_is_atom (fa 2) fd
  d3 : ∃ fd, FnP K "is_path" s_is_path (fa 3) fd
  d4 : ∃ fd, FnP K "is_process" s_is_process (fa 4) fd
  d5 : ∃ fd, FnP K "_is_tag" s__is_tag (fa 5) fd
  d6 : ∃ fd, FnP K "want_process" s_want_process (fa 6) fd
  d7 : ∃ fd, FnP K "give" s_give (fa 7) fd
  d8 : ∃ fd, FnP K "freed" s_freed (fa 8) fd
  d9 : ∃ fd, FnP K "who" s_who (fa 9) fd
  d10 : ∃ fd, FnP K "left" s_left (fa 10) fd
  d11 : ∃ fd, FnP K "_want_atom" s__want_atom (fa 11) fd
  d12 : ∃ fd, FnP K "_law_pot" s__law_pot (fa 12) fd
  d13 : ∃ fd, FnP K "_law_take" s__law_take (fa 13) fd
  d14 : ∃ fd, FnP K "_law_of" s__law_of (fa 14) fd
  d15 : ∃ fd, FnP K "_law_cells" s__law_cells (fa 15) fd
  d16 : ∃ fd, FnP K "_law_processes" s__law_processes (fa 16) fd
  d17 : ∃ fd, FnP K "_law_names" s__law_names (fa 17) fd
  d18 : ∃ fd, FnP K "_law_right" s__law_right (fa 18) fd
  d19 : ∃ fd, FnP K "law" s_law (fa 19) fd
  gl : ∀ (i : Nat) (x : Str) (ps : List Str), tab[i]? = some (x, ps) → mg x = some (.ref (fa i))
  fr : ∀ x, x ∈ frees → mg x = none
  g_LONGEST_WORD : ∃ t, mg "LONGEST_WORD" = some (.int 16 t)
  g_LONGEST_PATH : ∃ t, mg "LONGEST_PATH" = some (.int 40 t)
  g_UNDEFINED : ∃ t, mg "UNDEFINED" = some (.str "undefined" t)
section
variable {P : Program} {w : World} {K : PySem.W.Frag} {mg : Str → Option Value} {base : Heap} {fa : Nat → Addr}
theorem all_fns (h : Hd w K mg fa) : ∀ k, Tx P w K mg base fa (callN k) k
  | 0 => ⟨⟨fun i x ps e => by
      have mgx := h.gl i x ps e
      match i, e with
      | 0, e =>
        cases e
        obtain ⟨fd, F⟩ := h.d0
        exact ⟨mgx, F.kp, fd, F.bindsN fun _ _ _ _ _ _ us hl => match us, hl with | [_], _ => rfl, fng_zero rfl⟩
      | 1, e =>
        cases e
        obtain ⟨fd, F⟩ := h.d1
        exact ⟨mgx, F.kp, fd, F.bindsN fun _ _ _ _ _ _ us hl => match us, hl with | [_, _], _ => rfl, fng_zero rfl⟩
      | 2, e =>
        cases e
        obtain ⟨fd, F⟩ := h.d2
        exact ⟨mgx, F.kp, fd, F.bindsN fun _ _ _ _ _ _ us hl => match us, hl with | [_], _ => rfl, fng_zero rfl⟩
      | 3, e =>
        cases e
        obtain ⟨fd, F⟩ := h.d3
        exact ⟨mgx, F.kp, fd, F.bindsN fun _ _ _ _ _ _ us hl => match us, hl with | [_], _ => rfl, fng_zero rfl⟩
      | 4, e =>
        cases e
        obtain ⟨fd, F⟩ := h.d4
        exact ⟨mgx, F.kp, fd, F.bindsN fun _ _ _ _ _ _ us hl => match us, hl with | [_], _ => rfl, fng_zero rfl⟩
      | 5, e =>
        cases e
        obtain ⟨fd, F⟩ := h.d5
        exact ⟨mgx, F.kp, fd, F.bindsN fun _ _ _ _ _ _ us hl => match us, hl with | [_, _], _ => rfl, fng_zero rfl⟩
      | 6, e =>
        cases e
        obtain ⟨fd, F⟩ := h.d6
        exact ⟨mgx, F.kp, fd, F.bindsN fun _ _ _ _ _ _ us hl => match us, hl with | [_], _ => rfl, fng_zero rfl⟩
      | 7, e =>
        cases e
        obtain ⟨fd, F⟩ := h.d7
        exact ⟨mgx, F.kp, fd, F.bindsN fun _ _ _ _ _ _ us hl => match us, hl with | [_, _, _, _], _ => rfl, fng_zero rfl⟩
      | 8, e =>
        cases e
        obtain ⟨fd, F⟩ := h.d8
        exact ⟨mgx, F.kp, fd, F.bindsN fun _ _ _ _ _ _ us hl => match us, hl with | [_, _], _ => rfl, fng_zero rfl⟩
      | 9, e =>
        cases e
        obtain ⟨fd, F⟩ := h.d9
        exact ⟨mgx, F.kp, fd, F.bindsN fun _ _ _ _ _ _ us hl => match us, hl with | [_, _], _ => rfl, fng_zero rfl⟩
      | 10, e =>
        cases e
        obtain ⟨fd, F⟩ := h.d10
        exact ⟨mgx, F.kp, fd, F.bindsN fun _ _ _ _ _ _ us hl => match us, hl with | [_, _], _ => rfl, fng_zero rfl⟩
      | 11, e =>
        cases e
        obtain ⟨fd, F⟩ := h.d11
        exact ⟨mgx, F.kp, fd, F.bindsN fun _ _ _ _ _ _ us hl => match us, hl with | [_], _ => rfl, fng_zero rfl⟩
      | 12, e =>
        cases e
        obtain ⟨fd, F⟩ := h.d12
        exact ⟨mgx, F.kp, fd, F.bindsN fun _ _ _ _ _ _ us hl => match us, hl with | [_, _], _ => rfl, fng_zero rfl⟩
      | 13, e =>
        cases e
        obtain ⟨fd, F⟩ := h.d13
        exact ⟨mgx, F.kp, fd, F.bindsN fun _ _ _ _ _ _ us hl => match us, hl with | [_, _], _ => rfl, fng_zero rfl⟩
      | 14, e =>
        cases e
        obtain ⟨fd, F⟩ := h.d14
        exact ⟨mgx, F.kp, fd, F.bindsN fun _ _ _ _ _ _ us hl => match us, hl with | [_, _], _ => rfl, fng_zero rfl⟩
      | 15, e =>
        cases e
        obtain ⟨fd, F⟩ := h.d15
        exact ⟨mgx, F.kp, fd, F.bindsN fun _ _ _ _ _ _ us hl => match us, hl with | [_, _], _ => rfl, fng_zero rfl⟩
      | 16, e =>
        cases e
        obtain ⟨fd, F⟩ := h.d16
        exact ⟨mgx, F.kp, fd, F.bindsN fun _ _ _ _ _ _ us hl => match us, hl with | [], _ => rfl, fng_zero rfl⟩
      | 17, e =>
        cases e
        obtain ⟨fd, F⟩ := h.d17
        exact ⟨mgx, F.kp, fd, F.bindsN fun _ _ _ _ _ _ us hl => match us, hl with | [], _ => rfl, fng_zero rfl⟩
      | 18, e =>
        cases e
        obtain ⟨fd, F⟩ := h.d18
        exact ⟨mgx, F.kp, fd, F.bindsN fun _ _ _ _ _ _ us hl => match us, hl with | [_], _ => rfl, fng_zero rfl⟩
      | 19, e =>
        cases e
        obtain ⟨fd, F⟩ := h.d19
        exact ⟨mgx, F.kp, fd, F.bindsN fun _ _ _ _ _ _ us hl => match us, hl with | [_], _ => rfl, fng_zero rfl⟩
      | n + 20, e => cases e⟩, h.fr, h.g_LONGEST_WORD, h.g_LONGEST_PATH, h.g_UNDEFINED⟩
  | k + 1 => ⟨⟨fun i x ps e => by
      have T := all_fns h k
      have mgx := h.gl i x ps e
      match i, e with
      | 0, e =>
        cases e
        obtain ⟨fd, F⟩ := h.d0
        exact ⟨mgx, F.kp, fd, F.bindsN fun _ _ _ _ _ _ us hl => match us, hl with | [_], _ => rfl, ok_is_integer T F⟩
      | 1, e =>
        cases e
        obtain ⟨fd, F⟩ := h.d1
        exact ⟨mgx, F.kp, fd, F.bindsN fun _ _ _ _ _ _ us hl => match us, hl with | [_, _], _ => rfl, ok_is_count T F⟩
      | 2, e =>
        cases e
        obtain ⟨fd, F⟩ := h.d2
        exact ⟨mgx, F.kp, fd, F.bindsN fun _ _ _ _ _ _ us hl => match us, hl with | [_], _ => rfl, ok_is_atom T F⟩
      | 3, e =>
        cases e
        obtain ⟨fd, F⟩ := h.d3
        exact ⟨mgx, F.kp, fd, F.bindsN fun _ _ _ _ _ _ us hl => match us, hl with | [_], _ => rfl, ok_is_path T F⟩
      | 4, e =>
        cases e
        obtain ⟨fd, F⟩ := h.d4
        exact ⟨mgx, F.kp, fd, F.bindsN fun _ _ _ _ _ _ us hl => match us, hl with | [_], _ => rfl, ok_is_process T F⟩
      | 5, e =>
        cases e
        obtain ⟨fd, F⟩ := h.d5
        exact ⟨mgx, F.kp, fd, F.bindsN fun _ _ _ _ _ _ us hl => match us, hl with | [_, _], _ => rfl, ok__is_tag T F⟩
      | 6, e =>
        cases e
        obtain ⟨fd, F⟩ := h.d6
        exact ⟨mgx, F.kp, fd, F.bindsN fun _ _ _ _ _ _ us hl => match us, hl with | [_], _ => rfl, ok_want_process T F⟩
      | 7, e =>
        cases e
        obtain ⟨fd, F⟩ := h.d7
        exact ⟨mgx, F.kp, fd, F.bindsN fun _ _ _ _ _ _ us hl => match us, hl with | [_, _, _, _], _ => rfl, ok_give T F⟩
      | 8, e =>
        cases e
        obtain ⟨fd, F⟩ := h.d8
        exact ⟨mgx, F.kp, fd, F.bindsN fun _ _ _ _ _ _ us hl => match us, hl with | [_, _], _ => rfl, ok_freed T F⟩
      | 9, e =>
        cases e
        obtain ⟨fd, F⟩ := h.d9
        exact ⟨mgx, F.kp, fd, F.bindsN fun _ _ _ _ _ _ us hl => match us, hl with | [_, _], _ => rfl, ok_who T F⟩
      | 10, e =>
        cases e
        obtain ⟨fd, F⟩ := h.d10
        exact ⟨mgx, F.kp, fd, F.bindsN fun _ _ _ _ _ _ us hl => match us, hl with | [_, _], _ => rfl, ok_left T F⟩
      | 11, e =>
        cases e
        obtain ⟨fd, F⟩ := h.d11
        exact ⟨mgx, F.kp, fd, F.bindsN fun _ _ _ _ _ _ us hl => match us, hl with | [_], _ => rfl, ok__want_atom T F⟩
      | 12, e =>
        cases e
        obtain ⟨fd, F⟩ := h.d12
        exact ⟨mgx, F.kp, fd, F.bindsN fun _ _ _ _ _ _ us hl => match us, hl with | [_, _], _ => rfl, ok__law_pot T F⟩
      | 13, e =>
        cases e
        obtain ⟨fd, F⟩ := h.d13
        exact ⟨mgx, F.kp, fd, F.bindsN fun _ _ _ _ _ _ us hl => match us, hl with | [_, _], _ => rfl, ok__law_take T F⟩
      | 14, e =>
        cases e
        obtain ⟨fd, F⟩ := h.d14
        exact ⟨mgx, F.kp, fd, F.bindsN fun _ _ _ _ _ _ us hl => match us, hl with | [_, _], _ => rfl, ok__law_of T F⟩
      | 15, e =>
        cases e
        obtain ⟨fd, F⟩ := h.d15
        exact ⟨mgx, F.kp, fd, F.bindsN fun _ _ _ _ _ _ us hl => match us, hl with | [_, _], _ => rfl, ok__law_cells T F⟩
      | 16, e =>
        cases e
        obtain ⟨fd, F⟩ := h.d16
        exact ⟨mgx, F.kp, fd, F.bindsN fun _ _ _ _ _ _ us hl => match us, hl with | [], _ => rfl, ok__law_processes T F⟩
      | 17, e =>
        cases e
        obtain ⟨fd, F⟩ := h.d17
        exact ⟨mgx, F.kp, fd, F.bindsN fun _ _ _ _ _ _ us hl => match us, hl with | [], _ => rfl, ok__law_names T F⟩
      | 18, e =>
        cases e
        obtain ⟨fd, F⟩ := h.d18
        exact ⟨mgx, F.kp, fd, F.bindsN fun _ _ _ _ _ _ us hl => match us, hl with | [_], _ => rfl, ok__law_right T F⟩
      | 19, e =>
        cases e
        obtain ⟨fd, F⟩ := h.d19
        exact ⟨mgx, F.kp, fd, F.bindsN fun _ _ _ _ _ _ us hl => match us, hl with | [_], _ => rfl, ok_law T F⟩
      | n + 20, e => cases e⟩, h.fr, h.g_LONGEST_WORD, h.g_LONGEST_PATH, h.g_UNDEFINED⟩
end
/-! ### the head -/
def dd_is_integer : He.DefD := ⟨("is_integer", none), "is_integer", "is_integer", defArgs s_is_integer, defBody s_is_integer, defScope s_is_integer, [], []⟩
def dd_is_count : He.DefD := ⟨("is_count", none), "is_count", "is_count", defArgs s_is_count, defBody s_is_count, defScope s_is_count, [], []⟩
def dd_is_atom : He.DefD := ⟨("is_atom", none), "is_atom", "is_atom", defArgs s_is_atom, defBody s_is_atom, defScope s_is_atom, [], []⟩
def dd_is_path : He.DefD := ⟨("is_path", none), "is_path", "is_path", defArgs s_is_path, defBody s_is_path, defScope s_is_path, [], []⟩
def dd_is_process : He.DefD := ⟨("is_process", none), "is_process", "is_process", defArgs s_is_process, defBody s_is_process, defScope s_is_process, [], []⟩
def dd__is_tag : He.DefD := ⟨("_is_tag", none), "_is_tag", "_is_tag", defArgs s__is_tag, defBody s__is_tag, defScope s__is_tag, [], []⟩
def dd_want_process : He.DefD := ⟨("want_process", none), "want_process", "want_process", defArgs s_want_process, defBody s_want_process, defScope s_want_process, [], []⟩
def dd_give : He.DefD := ⟨("give", none), "give", "give", defArgs s_give, defBody s_give, defScope s_give, [], []⟩
def dd_freed : He.DefD := ⟨("freed", none), "freed", "freed", defArgs s_freed, defBody s_freed, defScope s_freed, [], []⟩
def dd_who : He.DefD := ⟨("who", none), "who", "who", defArgs s_who, defBody s_who, defScope s_who, [], []⟩
def dd_left : He.DefD := ⟨("left", none), "left", "left", defArgs s_left, defBody s_left, defScope s_left, [], []⟩
def dd__want_atom : He.DefD := ⟨("_want_atom", none), "_want_atom", "_want_atom", defArgs s__want_atom, defBody s__want_atom, defScope s__want_atom, [], []⟩
def dd__law_pot : He.DefD := ⟨("_law_pot", none), "_law_pot", "_law_pot", defArgs s__law_pot, defBody s__law_pot, defScope s__law_pot, [], []⟩
def dd__law_take : He.DefD := ⟨("_law_take", none), "_law_take", "_law_take", defArgs s__law_take, defBody s__law_take, defScope s__law_take, [], []⟩
def dd__law_of : He.DefD := ⟨("_law_of", none), "_law_of", "_law_of", defArgs s__law_of, defBody s__law_of, defScope s__law_of, [], []⟩
def dd__law_cells : He.DefD := ⟨("_law_cells", none), "_law_cells", "_law_cells", defArgs s__law_cells, defBody s__law_cells, defScope s__law_cells, [], []⟩
def dd__law_processes : He.DefD := ⟨("_law_processes", none), "_law_processes", "_law_processes", defArgs s__law_processes, defBody s__law_processes, defScope s__law_processes, [], []⟩
def dd__law_names : He.DefD := ⟨("_law_names", none), "_law_names", "_law_names", defArgs s__law_names, defBody s__law_names, defScope s__law_names, [], []⟩
def dd__law_right : He.DefD := ⟨("_law_right", none), "_law_right", "_law_right", defArgs s__law_right, defBody s__law_right, defScope s__law_right, [], []⟩
def dd_law : He.DefD := ⟨("law", none), "law", "law", defArgs s_law, defBody s_law, defScope s_law, [], []⟩
def fnl : List He.DefD := [dd_is_integer, dd_is_count, dd_is_atom, dd_is_path, dd_is_process, dd__is_tag, dd_want_process, dd_give, dd_freed, dd_who, dd_left, dd__want_atom, dd__law_pot, dd__law_take, dd__law_of, dd__law_cells, dd__law_processes, dd__law_names, dd__law_right, dd_law]
def fal : List He.Fa := [.glo "is_integer", .glo "is_count", .glo "is_atom", .glo "is_path", .glo "is_process", .glo "_is_tag", .glo "want_process", .glo "give", .glo "freed", .glo "who", .glo "left", .glo "_want_atom", .glo "_law_pot", .glo "_law_take", .glo "_law_of", .glo "_law_cells", .glo "_law_processes", .glo "_law_names", .glo "_law_right", .glo "law", .int "LONGEST_WORD" 16, .int "LONGEST_PATH" 40, .str "UNDEFINED" "undefined", .free "abs", .free "all", .free "bool", .free "dict", .free "int", .free "isinstance", .free "len", .free "list", .free "max", .free "min", .free "range", .free "repr", .free "sorted", .free "str", .free "sum", .free "tuple"]
abbrev R : PySem.W.OpenRow := PySem.W.OpenLaw.row PySem.Challenge.rw_arrivalmill_k22_whole_the_book_of_names
abbrev hk : PySem.W.Hook := He.hookD 4 fal fnl
def ob (s : PySem.W.SharedT) : He.AlD := He.obsDG 4 fal fnl (HandSHeadRun.getT s)
theorem ob_eq (s : PySem.W.SharedT) : ob s = hk.obs s.abs := He.obsDG_eq (HandSHeadRun.getT_eq s)
def others : List Str := [("MillError" : Str), ("BadTerm" : Str), ("LONGEST_WORD" : Str), ("LONGEST_PATH" : Str), ("is_integer" : Str), ("is_count" : Str), ("is_atom" : Str), ("is_path" : Str), ("is_process" : Str), ("_is_tag" : Str), ("want_process" : Str), ("UNDEFINED" : Str), ("give" : Str), ("freed" : Str), ("who" : Str), ("left" : Str), ("_want_atom" : Str), ("_law_pot" : Str), ("_law_take" : Str), ("_law_of" : Str), ("_law_cells" : Str), ("_law_processes" : Str), ("_law_names" : Str), ("_law_right" : Str)]
theorem run (w : World) : HandSHeadRun.RunEq R (PySem.W.view R.prog [29]) hk ob 20000 others w := by
  intro os
  kernel_rfl
def adr (K : PySem.W.Frag) : Nat → Addr
  | 0 => He.fAd K ("is_integer", none)
  | 1 => He.fAd K ("is_count", none)
  | 2 => He.fAd K ("is_atom", none)
  | 3 => He.fAd K ("is_path", none)
  | 4 => He.fAd K ("is_process", none)
  | 5 => He.fAd K ("_is_tag", none)
  | 6 => He.fAd K ("want_process", none)
  | 7 => He.fAd K ("give", none)
  | 8 => He.fAd K ("freed", none)
  | 9 => He.fAd K ("who", none)
  | 10 => He.fAd K ("left", none)
  | 11 => He.fAd K ("_want_atom", none)
  | 12 => He.fAd K ("_law_pot", none)
  | 13 => He.fAd K ("_law_take", none)
  | 14 => He.fAd K ("_law_of", none)
  | 15 => He.fAd K ("_law_cells", none)
  | 16 => He.fAd K ("_law_processes", none)
  | 17 => He.fAd K ("_law_names", none)
  | 18 => He.fAd K ("_law_right", none)
  | 19 => He.fAd K ("law", none)
  | _ => 0
theorem hd_of {w : World} {K : PySem.W.Frag} {h : Heap} {mg : Str → Option Value} (X : K.In h) (G : h.Ns mainGlobals mg) (c : He.SaysD fal fnl K) : Hd w K mg (adr K) where
  d0 := c.def_ 0 (d := dd_is_integer) rfl
  d1 := c.def_ 1 (d := dd_is_count) rfl
  d2 := c.def_ 2 (d := dd_is_atom) rfl
  d3 := c.def_ 3 (d := dd_is_path) rfl
  d4 := c.def_ 4 (d := dd_is_process) rfl
  d5 := c.def_ 5 (d := dd__is_tag) rfl
  d6 := c.def_ 6 (d := dd_want_process) rfl
  d7 := c.def_ 7 (d := dd_give) rfl
  d8 := c.def_ 8 (d := dd_freed) rfl
  d9 := c.def_ 9 (d := dd_who) rfl
  d10 := c.def_ 10 (d := dd_left) rfl
  d11 := c.def_ 11 (d := dd__want_atom) rfl
  d12 := c.def_ 12 (d := dd__law_pot) rfl
  d13 := c.def_ 13 (d := dd__law_take) rfl
  d14 := c.def_ 14 (d := dd__law_of) rfl
  d15 := c.def_ 15 (d := dd__law_cells) rfl
  d16 := c.def_ 16 (d := dd__law_processes) rfl
  d17 := c.def_ 17 (d := dd__law_names) rfl
  d18 := c.def_ 18 (d := dd__law_right) rfl
  d19 := c.def_ 19 (d := dd_law) rfl
  gl := fun i x ps e => match i, e with
    | 0, e => by cases e; exact He.glo_ok X G (c.fact 0 (f := .glo "is_integer") rfl)
    | 1, e => by cases e; exact He.glo_ok X G (c.fact 1 (f := .glo "is_count") rfl)
    | 2, e => by cases e; exact He.glo_ok X G (c.fact 2 (f := .glo "is_atom") rfl)
    | 3, e => by cases e; exact He.glo_ok X G (c.fact 3 (f := .glo "is_path") rfl)
    | 4, e => by cases e; exact He.glo_ok X G (c.fact 4 (f := .glo "is_process") rfl)
    | 5, e => by cases e; exact He.glo_ok X G (c.fact 5 (f := .glo "_is_tag") rfl)
    | 6, e => by cases e; exact He.glo_ok X G (c.fact 6 (f := .glo "want_process") rfl)
    | 7, e => by cases e; exact He.glo_ok X G (c.fact 7 (f := .glo "give") rfl)
    | 8, e => by cases e; exact He.glo_ok X G (c.fact 8 (f := .glo "freed") rfl)
    | 9, e => by cases e; exact He.glo_ok X G (c.fact 9 (f := .glo "who") rfl)
    | 10, e => by cases e; exact He.glo_ok X G (c.fact 10 (f := .glo "left") rfl)
    | 11, e => by cases e; exact He.glo_ok X G (c.fact 11 (f := .glo "_want_atom") rfl)
    | 12, e => by cases e; exact He.glo_ok X G (c.fact 12 (f := .glo "_law_pot") rfl)
    | 13, e => by cases e; exact He.glo_ok X G (c.fact 13 (f := .glo "_law_take") rfl)
    | 14, e => by cases e; exact He.glo_ok X G (c.fact 14 (f := .glo "_law_of") rfl)
    | 15, e => by cases e; exact He.glo_ok X G (c.fact 15 (f := .glo "_law_cells") rfl)
    | 16, e => by cases e; exact He.glo_ok X G (c.fact 16 (f := .glo "_law_processes") rfl)
    | 17, e => by cases e; exact He.glo_ok X G (c.fact 17 (f := .glo "_law_names") rfl)
    | 18, e => by cases e; exact He.glo_ok X G (c.fact 18 (f := .glo "_law_right") rfl)
    | 19, e => by cases e; exact He.glo_ok X G (c.fact 19 (f := .glo "law") rfl)
    | n + 20, e => by cases e
  fr := fun x hx => by
    have hm : (He.Fa.free x) ∈ fal := by
      have z : ∀ y ∈ frees, He.Fa.free y ∈ fal := by
        intro y hy
        simp only [frees, List.mem_cons, List.not_mem_nil, or_false] at hy
        rcases hy with rfl | rfl | rfl | rfl | rfl | rfl | rfl | rfl | rfl | rfl | rfl | rfl | rfl | rfl | rfl | rfl <;> simp [fal]
      exact z x hx
    obtain ⟨i, hi, e⟩ := List.getElem_of_mem hm
    exact He.free_ok X G (c.fact i (f := .free x) (by rw [List.getElem?_eq_getElem hi, e]))
  g_LONGEST_WORD := He.int_ok X G (c.fact 20 (f := .int "LONGEST_WORD" 16) rfl)
  g_LONGEST_PATH := He.int_ok X G (c.fact 21 (f := .int "LONGEST_PATH" 40) rfl)
  g_UNDEFINED := He.str_ok X G (c.fact 22 (f := .str "UNDEFINED" "undefined") rfl)
end Pr
set_option Elab.async false
set_option linter.all false
set_option maxRecDepth 100000
namespace Pr
open PySem PySem.Spec PyProof.Rows L2 Mi
abbrev Row := Mi.Row
theorem b_take (call : CallF) : b__law_take call = takeBody 98439 587 10423 227 := rfl
theorem b_pot (call : CallF) : b__law_pot call = potBody 1223 587 73417 7937 541 := rfl
theorem b_of (call : CallF) : b__law_of call = ofBody call 13 := rfl
theorem b_cells (call : CallF) : b__law_cells call = cellsBody := rfl
theorem callN_succ (k i : Nat) : callN (k + 1) i = body (callN k) i := rfl
/-- the calls of a level -/
theorem c_take {j : Nat} {M : Mem} {p k : Nat} {u : Int} (h : PotAt M p k) (hk : k < 1000000000) (hu : 0 < u) (hu2 : u < 18446744073709551616) : Ok (callN (j + 1) 13 [.ref p, .int u] M) fun d M' => ∃ r : Int, d = .int r ∧ 0 ≤ r ∧ r < u ∧ PotAt M' p (k + 1) ∧ Kp [p] M M' := by
  show Ok (runB 5 (b__law_take (callN j)) [.ref p, .int u] M) _
  rw [b_take]
  exact take_spec (by decide) (by decide) (by decide) (by decide) h hk hu hu2
theorem c_of {j : Nat} {M : Mem} {p k : Nat} {d : D} {xs : List D} (h : PotAt M p k) (hk : k < 1000000000) (hd : itemsOf M d = some xs) (hd2 : ∀ M', Kp [p] M M' → itemsOf M' d = some xs) (h0 : 0 < xs.length) (h1 : xs.length < 18446744073709551616) :
    Ok (callN (j + 2) 14 [.ref p, d] M) fun x M' => x ∈ xs ∧ PotAt M' p (k + 1) ∧ Kp [p] M M' := by
  show Ok (runB 2 (b__law_of (callN (j + 1))) [.ref p, d] M) _
  rw [b_of]
  exact of_spec (fun h hk hu hu2 => c_take h hk hu hu2) h hk hd hd2 h0 h1
theorem c_names {j : Nat} {M : Mem} : callN (j + 1) 17 [] M = some (.ref M.length, M ++ [.lst (names4.map .str)]) := by
  show runB 0 (b__law_names (callN j)) [] M = _
  have sz : (4 : Nat) ≤ sizeLine := by rw [sizeLine_eq]; decide
  simp [runB, b__law_names, startD, sRet, eLst, eCons, eNil, eC, bindO, sz, names4]
theorem c_procs {j : Nat} {M : Mem} : callN (j + 1) 16 [] M = some (.ref M.length, M ++ [.lst (pids3.map pidD)]) := by
  show runB 0 (b__law_processes (callN j)) [] M = _
  have s0 : (0 : Nat) ≤ sizeLine := Nat.zero_le _
  have s1 : (1 : Nat) ≤ sizeLine := by rw [sizeLine_eq]; decide
  have s2 : (2 : Nat) ≤ sizeLine := by rw [sizeLine_eq]; decide
  have s3 : (3 : Nat) ≤ sizeLine := by rw [sizeLine_eq]; decide
  simp [runB, b__law_processes, startD, sRet, eLst, eTup, eCons, eNil, eC, bindO, s0, s1, s2, s3, pids3, pidD]
theorem nm_signs : ∀ n ∈ names5, Txt.isascii n = true ∧ Txt.isalnum n = true ∧ decide (1 ≤ n.length) = true ∧ decide (n.length ≤ 16) = true := by decide +kernel
theorem c_is_atom {j : Nat} {M : Mem} {n : Str} (hn : n ∈ names5) : callN (j + 1) 2 [.str n] M = some (.bl true, M) := by
  obtain ⟨h1, h2, h3, h4⟩ := nm_signs n hn
  have m1 : mIsascii n = some (.bl true) := by unfold mIsascii; rw [h1]
  have m2 : mIsalnum n = some (.bl true) := by unfold mIsalnum; rw [h2]
  have l1 : n.length ≤ sizeLine := by rw [sizeLine_eq]; have := of_decide_eq_true h4; omega
  have c1 : (eChain oLe oLe (eC (.int 1)) (eCall fLen (eCons (eVar 0) eNil)) (eC (.int 16))) [some (.str n)] M = some (.bl true, M) := by
    have h3' := of_decide_eq_true h3
    have h4' := of_decide_eq_true h4
    have i1 : (1 : Int) ≤ (n.length : Int) := by omega
    have i2 : (n.length : Int) ≤ 16 := by omega
    simp [eChain, eC, eCall, eCons, eNil, eVar, bindO, fLen, l1, oLe, oI0, i1, i2]
  have ei : eIsi .str (eVar 0) [some (.str n)] M = some (.bl true, M) := rfl
  show runB 1 (b_is_atom (callN j)) [.str n] M = _
  unfold runB b_is_atom
  simp [startD, sSeq, sIf, bOr, bNot, bOf, c1, eM0, eVar, m1, m2, bindO, ei, sRet, eOr, sNil, eC]
theorem c_want_atom {j : Nat} {M : Mem} {n : Str} (hn : n ∈ names5) : callN (j + 2) 11 [.str n] M = some (.non, M) := by
  show runB 1 (b__want_atom (callN (j + 1))) [.str n] M = _
  unfold runB b__want_atom
  simp [startD, sIf, bNot, bOf, eCall, eCons, eNil, eVar, bindO, c_is_atom hn, sNil]
theorem c_want_proc {j : Nat} {M : Mem} {p : List Int} (hp : p ∈ pids3) : callN (j + 5) 6 [pidD p] M = some (.non, M) := by
  simp only [pids3, List.mem_cons, List.not_mem_nil, or_false] at hp
  rcases hp with rfl | rfl | rfl <;> rfl
/-- who -/
theorem c_who {j : Nat} {M : Mem} {l : List Mi.Row} {n : Str} (hl : ∀ r ∈ l, r ∈ allRows) (hn : n ∈ names5) : callN (j + 3) 9 [.tup (l.map rowD), .str n] M = some (((l.find? fun r => decide (r.1 = n)).map fun r => pidD r.2).getD .non, M) := by
  have key : Ok (callN (j + 3) 9 [.tup (l.map rowD), .str n] M) fun d M' => d = ((l.find? fun r => decide (r.1 = n)).map fun r => pidD r.2).getD .non ∧ M' = M := by
    have d1 : sDrop (eCall (callN (j + 2) 11) (eCons (eVar 1) eNil)) (startD 4 [.tup (l.map rowD), .str n]) M = some (.next (startD 4 [.tup (l.map rowD), .str n]), M) := by
      simp [sDrop, eCall, eCons, eNil, eVar, bindO, startD, c_want_atom hn]
    show Ok (runB 4 (b_who (callN (j + 2))) [.tup (l.map rowD), .str n] M) _
    unfold runB b_who
    rw [ok_bind, ok_seq, d1]
    refine ok_some.mpr ?_
    show Ok (sSeq _ _ _ _) _
    rw [ok_seq]
    refine ok_for l.length (fun i ρ M' => M' = M ∧ (∃ x y, ρ = [some (.tup (l.map rowD)), some (.str n), x, y]) ∧ ∀ r ∈ l.take i, r.1 ≠ n) ⟨fun _ => some (l.map rowD), M, rfl, ⟨rfl, ⟨_, _, rfl⟩, fun r hr => by simp at hr⟩, ⟨_, rfl, by simp⟩, ?_⟩ ?_
    · rintro i _ _ hi ⟨rfl, ⟨x, y, rfl⟩, hno⟩
      refine ⟨l.map rowD, rfl, by simp, fun d hd => ?_⟩
      obtain ⟨r, hr, rfl⟩ := by rw [List.getElem?_map, Option.map_eq_some_iff] at hd; exact hd
      have hm := List.mem_of_getElem? hr
      have ht : l.take (i + 1) = l.take i ++ [r] := by rw [List.take_add_one, hr]; rfl
      refine ⟨[some (.tup (l.map rowD)), some (.str n), some (.str r.1), some (pidD r.2)], rfl, ?_⟩
      by_cases hq : r.1 = n
      · have hf : l.find? (fun r => decide (r.1 = n)) = some r := by
          have hsplit : l = l.take i ++ r :: l.drop (i + 1) := by
            have := (List.take_append_drop i l).symm
            rw [List.drop_eq_getElem_cons (List.getElem?_eq_some_iff.mp hr).1] at this
            rw [(List.getElem?_eq_some_iff.mp hr).2] at this
            exact this
          rw [hsplit, List.find?_append]
          have : (l.take i).find? (fun r => decide (r.1 = n)) = none := List.find?_eq_none.mpr fun r hr => by simpa using hno r hr
          rw [this]
          simp [hq]
        have e2 : ∀ M, oEq (.str r.1) (.str n) M = some (.bl true, M) := fun M => by
          show some (Mi.D.bl (decide (r.1 = n)), M) = _
          rw [decide_eq_true hq]
        simp [sIf, bOf, eBin, eVar, e2, sRet, Mi.Turn, hf]
      · have e2 : ∀ M, oEq (.str r.1) (.str n) M = some (.bl false, M) := fun M => by
          show some (Mi.D.bl (decide (r.1 = n)), M) = _
          rw [decide_eq_false hq]
        simp [sIf, bOf, eBin, eVar, e2, sNil, Mi.Turn]
        intro a b hab
        rw [ht, List.mem_append, List.mem_singleton] at hab
        rcases hab with hab | hab
        · exact hno _ hab
        · rw [← hab] at hq; exact hq
    · rintro _ _ ⟨rfl, ⟨x, y, rfl⟩, hno⟩
      rw [List.take_length] at hno
      have hf : l.find? (fun r => decide (r.1 = n)) = none := List.find?_eq_none.mpr fun r hr => by simpa using hno r hr
      simp [sRet, eC, hf]
  obtain ⟨d, M', e, rfl, rfl⟩ := key
  exact e
theorem eq_names {M : Mem} {a b : Str} (ha : a ∈ names5) (hb : b ∈ names5) : eqD M (.str a) (.str b) = some (decide (a = b)) := by
  rw [eq_plain r0_str r0_str (by decide) (by decide) ((name_fine ha).shaped (by decide)) ((name_fine hb).shaped (by decide)), eqv_name _ ha _ hb]
theorem eq_pids {M : Mem} {a b : List Int} (ha : a ∈ pids3) (hb : b ∈ pids3) : eqD M (pidD a) (pidD b) = some (decide (a = b)) := by
  rw [eq_plain (pid_reads ha) (pid_reads hb) (by decide) (by decide) ((pid_fine ha).shaped (by decide)) ((pid_fine hb).shaped (by decide)), eqv_pid _ ha _ hb]
/-- a comprehension over rows that keeps some -/
theorem rows_keep {src : EvI} {i : Nat} {t : EvB} {ρ : Mi.Loc} {M : Mem} {l : List Mi.Row} {tb : Mi.Row → Bool} (hs : src ρ M = some ((fun _ => some (l.map rowD)), M)) (hl : l.length ≤ 100) (hi : i < ρ.length)
    (h : ∀ r ∈ l, ∀ M, t ((wipeD ρ [i]).set i (some (rowD r))) M = some (tb r, M)) : eLc src [i] (gN i) t (eVar i) ρ M = some (.ref M.length, M ++ [.lst ((l.filter tb).map rowD)]) := by
  have key : Ok (eLc src [i] (gN i) t (eVar i) ρ M) fun d M' => d = .ref M.length ∧ M' = M ++ [.lst ((l.filter tb).map rowD)] := by
    refine ok_lc l.length (by rw [sizeLine_eq]; omega) (fun _ j acc M' => M' = M ++ [.lst acc] ∧ acc = ((l.take j).filter tb).map rowD) ?_
    rw [hs]
    refine ok_some.mpr ⟨⟨rfl, rfl⟩, ⟨_, rfl, by simp⟩, ?_, ?_⟩
    · rintro j acc _ hj _ _ ⟨rfl, ha⟩
      refine ⟨l.map rowD, rfl, by simp, fun d hd => ?_⟩
      obtain ⟨r, hr, rfl⟩ := by rw [List.getElem?_map, Option.map_eq_some_iff] at hd; exact hd
      have ht : l.take (j + 1) = l.take j ++ [r] := by rw [List.take_add_one, hr]; rfl
      refine ⟨_, rfl, ?_⟩
      rw [h r (List.mem_of_getElem? hr)]
      refine ok_some.mpr ?_
      have hlen : ∀ ρ : Mi.Loc, (wipeD ρ [i]).length = ρ.length := fun ρ => by unfold wipeD wipeD; rw [List.length_set]
      cases hb : tb r with
      | true =>
        rw [if_pos rfl]
        have ev : eVar i ((wipeD ρ [i]).set i (some (rowD r))) (M ++ [.lst acc]) = some (rowD r, M ++ [.lst acc]) := by
          unfold eVar
          rw [List.getElem?_set_self (by rw [hlen]; exact hi)]
        rw [ev]
        refine ok_some.mpr ⟨push_last, ?_, ?_⟩
        · rw [List.set_append_right _ _ (Nat.le_refl _), Nat.sub_self]; rfl
        · rw [ht, List.filter_append, List.map_append, ← ha]
          simp [hb]
      | false =>
        rw [if_neg (by decide)]
        refine ⟨push_last, rfl, ?_⟩
        rw [ht, List.filter_append, List.map_append, ← ha]
        simp [hb]
    · rintro acc _ _ ⟨rfl, ha⟩
      rw [List.take_length] at ha
      exact ⟨rfl, by rw [ha]⟩
  obtain ⟨d, M', e, rfl, rfl⟩ := key
  exact e
theorem ne_names {M : Mem} {a b : Str} (ha : a ∈ names5) (hb : b ∈ names5) : oNe (.str a) (.str b) M = some (.bl (!decide (a = b)), M) := rfl
theorem ne_pids {M : Mem} {a b : List Int} (ha : a ∈ pids3) (hb : b ∈ pids3) : oNe (pidD a) (pidD b) M = some (.bl (!decide (a = b)), M) := by
  show (eqD M (pidD a) (pidD b)).map _ = _
  rw [eq_pids ha hb]
  rfl
theorem who_none {l : List Mi.Row} {n : Str} : ((l.find? fun r => decide (r.1 = n)).map fun r => pidD r.2).getD .non = .non ↔ ∀ r ∈ l, r.1 ≠ n := by
  constructor
  · intro h r hr e
    cases q : l.find? (fun r => decide (r.1 = n)) with
    | none => have := List.find?_eq_none.mp q r hr; simp [e] at this
    | some r' => rw [q] at h; cases h
  · intro h
    have : l.find? (fun r => decide (r.1 = n)) = none := List.find?_eq_none.mpr fun r hr => by simpa using h r hr
    rw [this]; rfl
theorem c_freed {j : Nat} {M : Mem} {l : List Mi.Row} {n : Str} (hl : ∀ r ∈ l, r ∈ allRows) (hn : n ∈ names5) (h100 : l.length ≤ 100) :
    Ok (callN (j + 4) 8 [.tup (l.map rowD), .str n] M) fun d M' => d = .tup [.tup ((l.filter fun r => !decide (r.1 = n)).map rowD), .bl (decide ((l.filter fun r => !decide (r.1 = n)).length < l.length))] ∧ Kp [] M M' := by
  show Ok (runB 3 (b_freed (callN (j + 3))) [.tup (l.map rowD), .str n] M) _
  have s2 : (2 : Nat) ≤ sizeLine := by rw [sizeLine_eq]; decide
  have w : ∀ M, eCall (callN (j + 3) 9) (eCons (eVar 0) (eCons (eVar 1) eNil)) (startD 3 [.tup (l.map rowD), .str n]) M = some (((l.find? fun r => decide (r.1 = n)).map fun r => pidD r.2).getD .non, M) := fun M => by
    show callN (j + 3) 9 [.tup (l.map rowD), .str n] M = _
    exact c_who hl hn
  unfold runB b_freed
  rw [ok_bind, ok_seq]
  by_cases hno : ∀ r ∈ l, r.1 ≠ n
  · have hw := who_none.mpr hno
    have hf : (l.filter fun r => !decide (r.1 = n)) = l := List.filter_eq_self.mpr fun r hr => by simpa using hno r hr
    have t1 : bOf (eBin (oIs false) (eCall (callN (j + 3) 9) (eCons (eVar 0) (eCons (eVar 1) eNil))) (eC .non)) (startD 3 [.tup (l.map rowD), .str n]) M = some (true, M) := by
      unfold bOf eBin
      rw [w, hw]
      rfl
    rw [hf]
    unfold sIf
    rw [t1]
    simp [sRet, eTup, eCons, eNil, eVar, eC, bindO, startD, s2, Kp.refl]
  · have hw : ((l.find? fun r => decide (r.1 = n)).map fun r => pidD r.2).getD .non ≠ .non := fun h => hno (who_none.mp h)
    have hlt : (l.filter fun r => !decide (r.1 = n)).length < l.length := by
      rcases Nat.lt_or_ge (l.filter fun r => !decide (r.1 = n)).length l.length with h | h
      · exact h
      · exact absurd (fun r hr => by
          have e := List.filter_eq_self.mp (List.Sublist.eq_of_length_le List.filter_sublist h) r hr
          simpa using e) hno
    have t1 : bOf (eBin (oIs false) (eCall (callN (j + 3) 9) (eCons (eVar 0) (eCons (eVar 1) eNil))) (eC .non)) (startD 3 [.tup (l.map rowD), .str n]) M = some (false, M) := by
      unfold bOf eBin
      rw [w]
      cases q : l.find? (fun r => decide (r.1 = n)) with
      | none => rw [q] at hw; exact absurd rfl hw
      | some r => rfl
    have e := rows_keep (src := iSq (eVar 0)) (i := 2) (t := bOf (eBin oNe (eBin oIx (eVar 2) (eC (.int 0))) (eVar 1))) (ρ := [some (.tup (l.map rowD)), some (.str n), none]) (M := M) (l := l) (tb := fun r => !decide (r.1 = n)) rfl h100 (by simp) fun r hr M => by
      simp only [startD, wipeD, bOf, eBin, eVar, eC]
      simp [List.set, oIx, rowD, bindO, atD, ixN, ne_names (n5 (row_name (hl r hr))) hn]
    unfold sIf
    rw [t1]
    refine ok_some.mpr ?_
    show Ok (sRet _ (startD 3 [.tup (l.map rowD), .str n]) M) _
    have st : startD 3 [.tup (l.map rowD), .str n] = [some (.tup (l.map rowD)), some (.str n), none] := rfl
    rw [st, decide_eq_true hlt]
    simp [sRet, eTup, eCons, eNil, eCall, eC, e, fTuple, itemsOf, lst_last, s2, Kp.push]
theorem c_left {j : Nat} {M : Mem} {l : List Mi.Row} {p : List Int} (hl : ∀ r ∈ l, r ∈ allRows) (hp : p ∈ pids3) (h100 : l.length ≤ 100) :
    Ok (callN (j + 6) 10 [.tup (l.map rowD), pidD p] M) fun d M' => d = .tup ((l.filter fun r => !decide (r.2 = p)).map rowD) ∧ Kp [] M M' := by
  show Ok (runB 3 (b_left (callN (j + 5))) [.tup (l.map rowD), pidD p] M) _
  have d1 : sDrop (eCall (callN (j + 5) 6) (eCons (eVar 1) eNil)) (startD 3 [.tup (l.map rowD), pidD p]) M = some (.next (startD 3 [.tup (l.map rowD), pidD p]), M) := by
    simp [sDrop, eCall, eCons, eNil, eVar, bindO, startD, c_want_proc hp]
  have e := rows_keep (src := iSq (eVar 0)) (i := 2) (t := bOf (eBin oNe (eBin oIx (eVar 2) (eC (.int 1))) (eVar 1))) (ρ := [some (.tup (l.map rowD)), some (pidD p), none]) (M := M) (l := l) (tb := fun r => !decide (r.2 = p)) rfl h100 (by simp) fun r hr M => by
    simp only [startD, wipeD, bOf, eBin, eVar, eC]
    simp [List.set, oIx, rowD, bindO, atD, ixN, ne_pids (row_pid (hl r hr)) hp]
  unfold runB b_left
  rw [ok_bind, ok_seq, d1]
  refine ok_some.mpr ?_
  simp only [sRet, eCall, eCons, eNil, ok_bind]
  simp [startD]
  simp [e, fTuple, itemsOf, lst_last, Kp.push]
theorem own_add {o : List Mi.Row} {n : Str} {p : List Int} (h : Own o) (hn : n ∈ names5) (hu : n ≠ "undefined") (hp : p ∈ pids3) (ho : ∀ r ∈ o, r.1 ≠ n) : Own (o ++ [(n, p)]) := by
  have h4 : n ∈ names4 := by
    have : n ∈ names4 ++ (["undefined"] : List Str) := hn
    rcases List.mem_append.mp this with h | h
    · exact h
    · exact absurd (List.mem_singleton.mp h) hu
  refine ⟨fun r hr => ?_, ?_⟩
  · rcases List.mem_append.mp hr with hr | hr
    · exact h.ok r hr
    · rw [List.mem_singleton.mp hr]; exact all_rows h4 hp
  · rw [List.map_append, List.nodup_append]
    refine ⟨h.nd, by simp, fun a ha b hb e => ?_⟩
    obtain ⟨r, hr, rfl⟩ := List.mem_map.mp ha
    have : b = n := by simpa using hb
    exact ho r hr (e.trans this)
theorem srt_len (o : List Mi.Row) : (srt o).length = o.length := (srt_perm o).length_eq
theorem srt_ok {o : List Mi.Row} (h : Own o) : ∀ r ∈ srt o, r ∈ allRows := fun r hr => h.ok r ((srt_perm o).mem_iff.mp hr)
theorem srt_any (o : List Mi.Row) (f : Mi.Row → Bool) : (srt o).any f = o.any f := by
  rw [Bool.eq_iff_iff, List.any_eq_true, List.any_eq_true]
  exact ⟨fun ⟨r, hr, e⟩ => ⟨r, (srt_perm o).mem_iff.mp hr, e⟩, fun ⟨r, hr, e⟩ => ⟨r, (srt_perm o).mem_iff.mpr hr, e⟩⟩
theorem srt_filter {o : List Mi.Row} (h : Own o) (f : Mi.Row → Bool) : (srt o).filter f = srt (o.filter f) := srt_unique (h.sub List.filter_sublist) ((srt_perm o).filter f) ((srt_sorted o).filter f)
theorem c_give {j : Nat} {M : Mem} {o : List Mi.Row} {n : Str} {p : List Int} {b : Bool} (h : Own o) (hn : n ∈ names5) (hp : p ∈ pids3) (h100 : o.length ≤ 90) :
    Ok (callN (j + 6) 7 [.tup ((srt o).map rowD), .str n, pidD p, .bl b] M) fun d M' => Kp [] M M' ∧ (if b = true ∧ n ≠ "undefined" ∧ (o.any fun r => decide (r.1 = n) || decide (r.2 = p)) = false then d = .tup [.tup ((srt (o ++ [(n, p)])).map rowD), .bl true] else d = .tup [.tup ((srt o).map rowD), .bl false]) := by
  show Ok (runB 6 (b_give (callN (j + 5))) [.tup ((srt o).map rowD), .str n, pidD p, .bl b] M) _
  have s2 : (2 : Nat) ≤ sizeLine := by rw [sizeLine_eq]; decide
  have e1 : ∀ M, oEq (.str n) (.str "undefined") M = some (.bl (decide (n = "undefined")), M) := fun M => rfl
  have d1 : sDrop (eCall (callN (j + 5) 11) (eCons (eVar 1) eNil)) (startD 6 [.tup ((srt o).map rowD), .str n, pidD p, .bl b]) M = some (.next (startD 6 [.tup ((srt o).map rowD), .str n, pidD p, .bl b]), M) := by
    simp [sDrop, eCall, eCons, eNil, eVar, bindO, startD, c_want_atom hn]
  have d2 : sDrop (eCall (callN (j + 5) 6) (eCons (eVar 2) eNil)) (startD 6 [.tup ((srt o).map rowD), .str n, pidD p, .bl b]) M = some (.next (startD 6 [.tup ((srt o).map rowD), .str n, pidD p, .bl b]), M) := by
    simp [sDrop, eCall, eCons, eNil, eVar, bindO, startD, c_want_proc hp]
  unfold runB b_give
  rw [ok_bind, ok_seq, d1]
  refine ok_some.mpr ?_
  show Ok (sSeq _ _ _ _) _
  rw [ok_seq, d2]
  refine ok_some.mpr ?_
  show Ok (sSeq _ _ _ _) _
  rw [ok_seq]
  generalize hc : decide (n = "undefined") = c at e1
  by_cases hbu : b = true ∧ n ≠ "undefined"
  · obtain ⟨rfl, hu⟩ := hbu
    have hc' : c = false := by rw [← hc]; exact decide_eq_false hu
    subst hc'
    have t1 : sIf (bOr (bNot (bOf (eVar 3))) (bOf (eBin oEq (eVar 1) (eC (.str "undefined"))))) (sRet (eTup (eCons (eVar 0) (eCons (eC (.bl false)) eNil)))) sNil (startD 6 [.tup ((srt o).map rowD), .str n, pidD p, .bl true]) M = some (.next (startD 6 [.tup ((srt o).map rowD), .str n, pidD p, .bl true]), M) := by
      simp [startD, sIf, bOr, bOf, bNot, eBin, eVar, eC, e1, sNil, bindO]
    rw [t1]
    refine ok_some.mpr ?_
    show Ok (sSeq _ _ _ _) _
    rw [ok_seq]
    refine ok_for (srt o).length (fun i ρ M' => M' = M ∧ (∃ x y, ρ = [some (.tup ((srt o).map rowD)), some (.str n), some (pidD p), some (.bl true), x, y]) ∧ ∀ r ∈ (srt o).take i, (decide (r.1 = n) || decide (r.2 = p)) = false) ⟨fun _ => some ((srt o).map rowD), M, rfl, ⟨rfl, ⟨_, _, rfl⟩, fun r hr => by simp at hr⟩, ⟨_, rfl, by simp⟩, ?_⟩ ?_
    · rintro i _ _ hi ⟨rfl, ⟨x, y, rfl⟩, hno⟩
      refine ⟨(srt o).map rowD, rfl, by simp, fun d hd => ?_⟩
      obtain ⟨r, hr, rfl⟩ := by rw [List.getElem?_map, Option.map_eq_some_iff] at hd; exact hd
      have hm := List.mem_of_getElem? hr
      have ht : (srt o).take (i + 1) = (srt o).take i ++ [r] := by rw [List.take_add_one, hr]; rfl
      refine ⟨[some (.tup ((srt o).map rowD)), some (.str n), some (pidD p), some (.bl true), some (.str r.1), some (pidD r.2)], rfl, ?_⟩
      have e1 : ∀ M, oEq (.str r.1) (.str n) M = some (.bl (decide (r.1 = n)), M) := fun M => rfl
      have e2 : ∀ M, oEq (pidD r.2) (pidD p) M = some (.bl (decide (r.2 = p)), M) := fun M => by
        show (eqD M (pidD r.2) (pidD p)).map _ = _
        rw [eq_pids (row_pid (srt_ok h r hm)) hp]
        rfl
      generalize hc : decide (r.1 = n) = c at e1
      generalize hd2 : decide (r.2 = p) = d2 at e2
      have anyT : (c || d2) = true → (o.any fun r => decide (r.1 = n) || decide (r.2 = p)) = true := fun h => by
        rw [← srt_any]
        exact List.any_eq_true.mpr ⟨r, hm, by rw [hc, hd2]; exact h⟩
      cases c
      · cases d2
        · simp only [sIf, bOr, bOf, eBin, eVar, sNil, Mi.Turn]
          simp [e1, e2, Mi.Turn]
          intro a b hab
          rw [ht, List.mem_append, List.mem_singleton] at hab
          rcases hab with hab | hab
          · simpa using hno _ hab
          · subst hab
            exact ⟨of_decide_eq_false hc, of_decide_eq_false hd2⟩
        · simp only [sIf, bOr, bOf, eBin, eVar, sNil, sRet, eC, eTup, eCons, eNil]
          simp only [anyT rfl]
          simp [e1, e2, Mi.Turn, s2, Kp.refl]
      · simp only [sIf, bOr, bOf, eBin, eVar, sNil, sRet, eC, eTup, eCons, eNil]
        simp only [anyT rfl]
        simp [e1, e2, Mi.Turn, s2, Kp.refl]
    · rintro _ _ ⟨rfl, ⟨x, y, rfl⟩, hno⟩
      rw [List.take_length] at hno
      have hq : (o.any fun r => decide (r.1 = n) || decide (r.2 = p)) = false := by
        rw [← srt_any]
        exact List.any_eq_false.mpr fun r hr => by rw [hno r hr]; decide
      have ho : ∀ r ∈ o, r.1 ≠ n := fun r hr e => by
        have := List.any_eq_false.mp hq r hr
        simp [e] at this
      have oa := own_add h hn hu hp ho
      have ob : Own (srt o ++ [(n, p)]) := oa.perm ((srt_perm o).append_right _)
      have es : srt (srt o ++ [(n, p)]) = srt (o ++ [(n, p)]) := srt_unique oa ((srt_perm _).trans ((srt_perm o).append_right _)) (srt_sorted _)
      have el : (srt o).map rowD ++ [D.tup [D.str n, pidD p]] = (srt o ++ [(n, p)]).map rowD := by rw [List.map_append]; rfl
      have sl : ((srt o).map rowD ++ [D.tup [D.str n, pidD p]]).length ≤ sizeLine := by
        rw [List.length_append, List.length_map, srt_len, sizeLine_eq]
        show o.length + 1 ≤ _
        omega
      rename_i M
      have l1 : lstAt (M ++ [.lst ((srt o).map rowD ++ [D.tup [D.str n, pidD p]])]) M.length = some ((srt o ++ [(n, p)]).map rowD) := by rw [← el]; exact lst_last
      have hs := sort_rows l1 ob (by rw [List.length_append, srt_len]; show o.length + 1 ≤ 100; omega)
      have hs' : orD fSort fSortT [.ref M.length] (M ++ [MO.lst ((srt o).map rowD ++ [D.tup [D.str n, pidD p]])]) = some (Mi.D.ref (M ++ [MO.lst ((srt o).map rowD ++ [D.tup [D.str n, pidD p]])]).length, M ++ [MO.lst ((srt o).map rowD ++ [D.tup [D.str n, pidD p]])] ++ [MO.lst ((srt (srt o ++ [(n, p)])).map rowD)]) := by
        unfold orD
        rw [hs]
      rw [es] at hs'
      have l2 := lst_last (M := M ++ [.lst ((srt o).map rowD ++ [D.tup [D.str n, pidD p]])]) (xs := (srt (o ++ [(n, p)])).map rowD)
      have hcond : (true = true ∧ n ≠ "undefined" ∧ false = false) := ⟨rfl, hu, rfl⟩
      rw [hq]
      simp only [if_pos hcond]
      have sl' : (srt o).length + 1 ≤ sizeLine := by rw [srt_len, sizeLine_eq]; omega
      simp only [startD, eVar, eC, eCall, eCons, eNil, sRet, eTup, eLst, eConsS]
      simp [s2, itemsOf, sl']
      rw [hs']
      have l3 : itemsOf (M ++ [.lst ((srt o).map rowD ++ [D.tup [D.str n, pidD p]])] ++ [.lst ((srt (o ++ [(n, p)])).map rowD)]) (.ref (M ++ [.lst ((srt o).map rowD ++ [D.tup [D.str n, pidD p]])] : Mem).length) = some ((srt (o ++ [(n, p)])).map rowD) := l2
      refine ok_some.mpr ?_
      unfold fTuple
      simp only [l3]
      exact ok_some.mpr ⟨Kp.push.trans Kp.push, hu, rfl⟩
  · have hcond : ¬ (b = true ∧ n ≠ "undefined" ∧ (o.any fun r => decide (r.1 = n) || decide (r.2 = p)) = false) := fun ⟨x, y, _⟩ => hbu ⟨x, y⟩
    simp only [if_neg hcond]
    cases c
    · have hu : n ≠ "undefined" := of_decide_eq_false hc
      cases b
      · simp [startD, sIf, bOr, bOf, bNot, eBin, eVar, eC, eCons, eNil, sRet, eTup, bindO, e1, s2, Kp.refl]
      · exact absurd ⟨rfl, hu⟩ hbu
    · cases b <;> simp [startD, sIf, bOr, bOf, bNot, eBin, eVar, eC, eCons, eNil, sRet, eTup, bindO, e1, s2, Kp.refl]
end Pr
set_option Elab.async false
set_option linter.all false
set_option maxRecDepth 100000
namespace Pr
open PySem PySem.Spec PyProof.Rows L2 Mi
theorem val_own {n : Str} : ∀ {o : List Mi.Row}, valD (ownKv o) (.inr n) = (o.find? fun r => decide (r.1 = n)).map fun r => pidD r.2
  | [] => rfl
  | r :: o => by
    have ih := val_own (n := n) (o := o)
    unfold valD ownKv at *
    rw [List.map_cons, List.find?_cons, List.find?_cons]
    by_cases h : r.1 = n
    · simp [h]
    · have h2 : (Sum.inr r.1 : Key) ≠ .inr n := fun z => h (Sum.inr.inj z)
      simp only [h, h2, decide_false]
      exact ih
theorem find_any {n : Str} (o : List Mi.Row) : (o.find? fun r => decide (r.1 = n)).isSome = o.any fun r => decide (r.1 = n) := by
  induction o with
  | nil => rfl
  | cons r o ih =>
    rw [List.find?_cons, List.any_cons]
    by_cases h : r.1 = n
    · simp [h]
    · simp only [h, decide_false, Bool.false_or]; exact ih
theorem in_own {M : Mem} {k : Nat} {n : Str} {o : List Mi.Row} (q : M[k]? = some (.dK (ownKv o))) : inD M (.str n) (.ref k) = some (o.any fun r => decide (r.1 = n)) := by
  unfold inD
  simp only [q]
  show some (valD (ownKv o) (.inr n)).isSome = _
  rw [val_own, Option.isSome_map, find_any]
theorem in_vals {M : Mem} {k : Nat} {p : List Int} {o : List Mi.Row} (q : M[k]? = some (.lst (o.map fun r => pidD r.2))) (h : Own o) (hp : p ∈ pids3) (h100 : o.length ≤ 100) : inD M (pidD p) (.ref k) = some (o.any fun r => decide (r.2 = p)) := by
  have e1 : toPy M fuelD (pidD p) = some (pidP p) := pid_reads hp M _ (by decide)
  have e2 : toPy M fuelD (.ref k) = some (.list (o.map fun r => pidP r.2)) := by
    show (match lstAt M k with
      | some xs => (toPys M 99999 xs).map PyData.list
      | none => none) = _
    rw [lstAt_of q]
    simp only
    rw [rl_toPys (n := 20) _ (rl_map (g := fun r : Mi.Row => pidP r.2) fun r hr => pid_reads (row_pid (h.ok r hr))) (by rw [List.length_map]; omega)]
    rfl
  have f : Fine 9000 3 (.list (o.map fun r => pidP r.2)) := by
    have fl : FineL ((40 + 1) * o.length) 2 (o.map fun r => pidP r.2) := FineL.map fun r hr => pid_fine (row_pid (h.ok r hr))
    have := Nat.mul_le_mul_left 41 h100
    exact ⟨by simpa [PyData.canLay0] using fl.lay, by simp only [PyData.depth]; have := fl.deep; omega, by simp only [PyData.weight]; have := fl.size; omega, by simpa [PyData.showable] using fl.show_, by simpa [PyData.intsShort] using fl.short⟩
  unfold inD
  simp only [q, e1, e2, (pid_fine hp).shaped (by decide), f.shaped (by decide), and_self, if_true]
  congr 1
  rw [List.any_map]
  have : ∀ l : List Mi.Row, (∀ r ∈ l, r ∈ o) → (l.any ((fun z => PyData.eqv z (pidP p)) ∘ fun r => pidP r.2)) = l.any fun r => decide (r.2 = p) := by
    intro l hl
    induction l with
    | nil => rfl
    | cons r l ih =>
      rw [List.any_cons, List.any_cons, ih fun x hx => hl x (List.mem_cons_of_mem _ hx)]
      congr 1
      exact eqv_pid _ (row_pid (h.ok r (hl r List.mem_cons_self))) _ hp
  exact this o fun _ hr => hr
theorem put_own {n : Str} {p : List Int} {o : List Mi.Row} (h : (o.any fun r => decide (r.1 = n)) = false) : putD (ownKv o) (.inr n) (pidD p) = ownKv (o ++ [(n, p)]) := by
  unfold putD ownKv
  have : ((o.map fun r : Mi.Row => ((Sum.inr r.1 : Key), pidD r.2)).any fun kv => decide (kv.1 = .inr n)) = false := by
    rw [List.any_map, List.any_eq_false] 
    intro r hr
    have := List.any_eq_false.mp h r hr
    simpa using this
  rw [this, if_neg (by decide), List.map_append]
  rfl
theorem drop_own {n : Str} (o : List Mi.Row) : dropD (ownKv o) (.inr n) = ownKv (o.filter fun r => !decide (r.1 = n)) := by
  unfold dropD ownKv
  rw [List.filter_map]
  congr 1
  refine List.filter_congr fun r _ => ?_
  simp
theorem kvs_any {n : Str} (o : List Mi.Row) : ((ownKv o).any fun kv => decide (kv.1 = .inr n)) = o.any fun r => decide (r.1 = n) := by
  unfold ownKv
  rw [List.any_map]
  congr 1
  funext r
  simp
theorem merge_own : ∀ {b a : List Mi.Row}, ((a ++ b).map (·.1)).Nodup → mergeD (ownKv a) (ownKv b) = ownKv (a ++ b)
  | [], a, _ => by rw [List.append_nil]; rfl
  | r :: b, a, h => by
    have hn : (a.any fun x => decide (x.1 = r.1)) = false := by
      rw [List.any_eq_false]
      intro x hx
      rw [List.map_append, List.nodup_append] at h
      have := h.2.2 x.1 (List.mem_map.mpr ⟨x, hx, rfl⟩) r.1 (by simp)
      simpa using this
    show mergeD (putD (ownKv a) (.inr r.1) (pidD r.2)) (ownKv b) = _
    rw [put_own hn]
    have e : a ++ [(r.1, r.2)] ++ b = a ++ r :: b := by simp
    rw [merge_own (by rw [e]; exact h), e]
theorem pairs_own : ∀ (o : List Mi.Row), pairsOf (o.map rowD) = some (ownKv o)
  | [] => rfl
  | r :: o => by
    show (match keyD (.str r.1), pairsOf (o.map rowD) with
      | some key, some rest => some ((key, pidD r.2) :: rest)
      | _, _ => none) = _
    rw [pairs_own o]
    rfl
theorem set_back {M g : Mem} {n : Nat} {o u : MO} (h : M[n]? = some o) : (M.set n u ++ g).set n o = M ++ g := by
  have hn := lt_of_get h
  rw [List.set_append_left _ _ (by rw [List.length_set]; exact hn), List.set_set]
  congr 1
  apply List.ext_getElem?
  intro i
  by_cases hi : n = i
  · subst hi; rw [List.getElem?_set_self hn, h]
  · rw [List.getElem?_set_ne hi]
end Pr
set_option Elab.async false
set_option linter.all false
set_option maxRecDepth 100000
namespace Pr
open PySem PySem.Spec PyProof.Rows L2 Mi
def p_A0 (call : CallF) : Es :=
  (sAsg (gT (gsCons (gN 1) (gsCons (gN 2) gsNil))) (eTup (eCons (eTup eNil) (eCons eDnew eNil))))
def p_A1 (call : CallF) : Es :=
  (sAsg (gT (gsCons (gN 4) (gsCons (gN 5) (gsCons (gN 6) gsNil)))) (eTup (eCons (eCall (call 13) (eCons (eVar 0) (eCons (eC (.int 6)) eNil))) (eCons (eCall (call 14) (eCons (eVar 0) (eCons (eCall (call 17) eNil) eNil))) (eCons (eCall (call 14) (eCons (eVar 0) (eCons (eCall (call 16) eNil) eNil))) eNil)))))
def p_B1 (call : CallF) : Es :=
  (sSeq (sSet 5 (eIf (bOf (eBin oEq (eCall (call 13) (eCons (eVar 0) (eCons (eC (.int 8)) eNil))) (eC (.int 0)))) (eC (.str "undefined")) (eVar 5))) (sSeq (sSet 7 (eBin oGt (eCall (call 13) (eCons (eVar 0) (eCons (eC (.int 6)) eNil))) (eC (.int 0)))) (sSeq (sSet 8 (eAnd (eVar 7) (eAnd (eBin oNe (eVar 5) (eC (.str "undefined"))) (eAnd (eBin (oIn true) (eVar 5) (eVar 2)) (eBin (oIn true) (eVar 6) (e_listValues (eVar 2))))))) (sSeq (sSet 9 (eCall (call 7) (eCons (eVar 1) (eCons (eVar 5) (eCons (eVar 6) (eCons (eVar 7) eNil)))))) (sSeq (sIf (bOf (eVar 8)) (sDput (eVar 2) (eVar 5) (eVar 6)) sNil) (sSet 10 (eTup (eCons (eCall fTuple (eCons (e_sortedItems (eVar 2)) eNil)) (eCons (eVar 8) eNil)))))))))
def p_B2 (call : CallF) : Es :=
  (sSeq (sPar 9 11 (eCons (eCall (call 8) (eCons (eVar 1) (eCons (eVar 5) eNil))) (eCons (eBin (oIn false) (eVar 5) (eVar 2)) eNil))) (sSeq (sIf (bOf (eVar 11)) (sDrop (eDpop1 (eVar 2) (eVar 5))) sNil) (sSet 10 (eTup (eCons (eCall fTuple (eCons (e_sortedItems (eVar 2)) eNil)) (eCons (eVar 11) eNil))))))
def p_B3 (call : CallF) : Es :=
  (sPar 9 10 (eCons (eTup (eCons (eVar 1) (eCons (eCall (call 9) (eCons (eVar 1) (eCons (eVar 5) eNil))) eNil))) (eCons (eTup (eCons (eVar 1) (eCons (eDget2 (eVar 2) (eVar 5) (eC .non)) eNil))) eNil)))
def p_B4 (call : CallF) : Es :=
  (sSeq (sSet 2 (eCall fDict (eCons (eLock (eVar 2) (eLc (iDict fItem (eVar 2)) [12, 13] (gT (gsCons (gN 12) (gsCons (gN 13) gsNil))) (bOf (eBin oNe (eVar 13) (eVar 6))) (eTup (eCons (eVar 12) (eCons (eVar 13) eNil))))) eNil))) (sPar 9 10 (eCons (eTup (eCons (eCall (call 10) (eCons (eVar 1) (eCons (eVar 6) eNil))) (eCons (eC .non) eNil))) (eCons (eTup (eCons (eCall fTuple (eCons (e_sortedItems (eVar 2)) eNil)) (eCons (eC .non) eNil))) eNil))))
def p_TAIL (call : CallF) : Es :=
  (sSeq (sIf (bOf (eBin oNe (eCall fRepr (eCons (eVar 9) eNil)) (eCall fRepr (eCons (eVar 10) eNil)))) (sRet (eC (.bl false))) sNil) (sSet 1 (eBin oIx (eVar 9) (eC (.int 0)))))
def p_END (call : CallF) : Es :=
  (sRet (eAnd (eBin (oIs false) (eCall (call 9) (eCons (eVar 1) (eCons (eC (.str "undefined")) eNil))) (eC .non)) (eCall fAll (eCons (eLc (iSq (eCall (call 17) eNil)) [5] (gN 5) bYes (eBin oEq (eCall (call 9) (eCons (eVar 1) (eCons (eVar 5) eNil))) (eDget2 (eVar 2) (eVar 5) (eC .non)))) eNil))))
def p_BR (call : CallF) : Es := (sIf (bOf (eBin oLt (eVar 4) (eC (.int 3)))) (p_B1 call) (sIf (bOf (eBin oEq (eVar 4) (eC (.int 3)))) (p_B2 call) (sIf (bOf (eBin oEq (eVar 4) (eC (.int 4)))) (p_B3 call) (p_B4 call))))
def p_LAP (call : CallF) : Es := (sSeq (p_A1 call) (sSeq (p_BR call) (p_TAIL call)))
theorem right_eq (call : CallF) : b__law_right call = (sSeq (p_A0 call) (sSeq (sFor (iRg1 (eCons (eBin oAdd (eC (.int 5)) (eCall (call 13) (eCons (eVar 0) (eCons (eC (.int 10)) eNil)))) eNil)) (gN 3) (p_LAP call)) (p_END call))) := rfl
abbrev book (o : List Mi.Row) : D := .tup ((srt o).map rowD)
/-- what stood at B stays but p -/
def Frm (B : Mem) (p : Nat) (M : Mem) : Prop := B.length ≤ M.length ∧ ∀ q, q < B.length → q ≠ p → M[q]? = B[q]?
theorem Frm.refl {B : Mem} {p : Nat} : Frm B p B := ⟨Nat.le_refl _, fun _ _ _ => rfl⟩
theorem Frm.step {B M M' : Mem} {p : Nat} {ps : List Nat} (f : Frm B p M) (k : Kp ps M M') (h : ∀ x ∈ ps, x = p ∨ B.length ≤ x) : Frm B p M' := by
  refine ⟨Nat.le_trans f.1 k.1, fun q hq hp => (k.2 q (Nat.lt_of_lt_of_le hq f.1) fun z => ?_).trans (f.2 q hq hp)⟩
  rcases h q z with h | h
  · exact hp h
  · omega
def PostB (B : Mem) (p k i : Nat) (fl : Fl) (M' : Mem) : Prop := ∃ (b1 : D) (o' : List Mi.Row) (n' : Nat) (e : D) (pe : PyData) (s3 s4 s5 s6 s7 s8 s11 s12 s13 : Option D),
  fl = .next [some (.ref p), some b1, some (.ref n'), s3, s4, s5, s6, s7, s8, some (.tup [book o', e]), some (.tup [book o', e]), s11, s12, s13] ∧ M'[n']? = some (.dK (ownKv o')) ∧ Own o' ∧ o'.length ≤ i + 1 ∧ PotAt M' p k ∧ Reads0 30 e pe ∧ Fine 100 3 pe ∧ Frm B p M' ∧ B.length ≤ n'
theorem sz2 : (2 : Nat) ≤ sizeLine := by rw [sizeLine_eq]; decide
theorem sz3 : (3 : Nat) ≤ sizeLine := by rw [sizeLine_eq]; decide
theorem pot_ne {M : Mem} {p n k : Nat} {kv : List (Key × D)} (h : PotAt M p k) (q : M[n]? = some (.dK kv)) : n ≠ p := fun z => by
  obtain ⟨a, b, c, e, _⟩ := h
  rw [z, e] at q
  cases q
theorem book_told {o : List Mi.Row} {e : D} {pe : PyData} (h : Own o) (hl : o.length ≤ 90) (r : Reads0 30 e pe) (f : Fine 100 3 pe) : Reads0 300 (.tup [book o, e]) (.tuple [.tuple ((srt o).map rowP), pe]) ∧ Fine 20000 5 (.tuple [.tuple ((srt o).map rowP), pe]) := by
  refine ⟨(r0_two (n := 200) (rows_reads (srt_ok h) (by rw [srt_len]; omega)) (r.up (by decide))).up (by decide), ?_⟩
  exact (Fine.tup (.cons (rows_fine (srt_ok h) (by rw [srt_len]; omega)) (.cons (f.up (Nat.le_refl _) (by decide)) (.nil (w := 0))))).up (by decide) (by decide)
theorem tail_ok {call : CallF} {p i : Nat} {b1 e : D} {o : List Mi.Row} {n : Nat} {pe : PyData} {s3 s4 s5 s6 s7 s8 s11 s12 s13 : Option D} {M : Mem} {Q : Fl → Mem → Prop} (h : Own o) (hl : o.length ≤ 90) (r : Reads0 30 e pe) (f : Fine 100 3 pe)
    (q : Q (.next [some (.ref p), some (book o), some (.ref n), s3, s4, s5, s6, s7, s8, some (.tup [book o, e]), some (.tup [book o, e]), s11, s12, s13]) M) :
    Ok (p_TAIL call [some (.ref p), some b1, some (.ref n), s3, s4, s5, s6, s7, s8, some (.tup [book o, e]), some (.tup [book o, e]), s11, s12, s13] M) Q := by
  obtain ⟨h1, h2⟩ := book_told h hl r f
  have e1 := fun M => repr_plain (M := M) h1 (by decide) h2 (by decide) (by decide)
  have e2 : ∀ (M : Mem) (x : Str), oNe (.str x) (.str x) M = some (.bl false, M) := fun M x => by
    show some (Mi.D.bl (!decide (x = x)), M) = _
    rw [decide_eq_true rfl]
    rfl
  unfold p_TAIL
  rw [ok_seq]
  simp only [sIf, bOf, eBin, eCall, eCons, eNil, eVar, sNil, sSet, eC]
  simp [e1, e2, oIx, atD, ixN, List.set]
  exact q
theorem eq_ints {M : Mem} {a b : Int} : oEq (.int a) (.int b) M = some (.bl (a == b), M) := by
  have hs : ∀ a : Int, SeqAt.shaped (.int a) = true := fun a => by unfold SeqAt.shaped; simp [PyData.canLay0, PyData.depth]
  have e : eqD M (.int a) (.int b) = some (a == b) := by
    rw [eq_plain r0_int r0_int (by decide) (by decide) (hs a) (hs b)]
    simp [PyData.eqv]
  unfold oEq
  simp only [e]
  rfl
theorem own_free {o : List Mi.Row} {n : Str} {p : List Int} : (o.any fun r => decide (r.1 = n) || decide (r.2 = p)) = ((o.any fun r => decide (r.1 = n)) || o.any fun r => decide (r.2 = p)) := by
  induction o with
  | nil => rfl
  | cons r o ih =>
    rw [List.any_cons, List.any_cons, List.any_cons, ih]
    generalize decide (r.1 = n) = a
    generalize decide (r.2 = p) = b
    generalize (o.any fun r => decide (r.1 = n)) = c
    generalize (o.any fun r => decide (r.2 = p)) = d
    cases a <;> cases b <;> cases c <;> cases d <;> rfl
def p_B1r (call : CallF) : Es :=
  (sSeq (sSet 7 (eBin oGt (eCall (call 13) (eCons (eVar 0) (eCons (eC (.int 6)) eNil))) (eC (.int 0)))) (sSeq (sSet 8 (eAnd (eVar 7) (eAnd (eBin oNe (eVar 5) (eC (.str "undefined"))) (eAnd (eBin (oIn true) (eVar 5) (eVar 2)) (eBin (oIn true) (eVar 6) (e_listValues (eVar 2))))))) (sSeq (sSet 9 (eCall (call 7) (eCons (eVar 1) (eCons (eVar 5) (eCons (eVar 6) (eCons (eVar 7) eNil)))))) (sSeq (sIf (bOf (eVar 8)) (sDput (eVar 2) (eVar 5) (eVar 6)) sNil) (sSet 10 (eTup (eCons (eCall fTuple (eCons (e_sortedItems (eVar 2)) eNil)) (eCons (eVar 8) eNil))))))))
abbrev isLet (b : Bool) (nm : Str) (o : List Mi.Row) (pr : List Int) : Bool := b && (!decide (nm = "undefined") && (!(o.any fun r => decide (r.1 = nm)) && !(o.any fun r => decide (r.2 = pr))))
theorem ev_isLet {ρ : Mi.Loc} {M : Mem} {n : Nat} {b : Bool} {nm : Str} {pr : List Int} {o : List Mi.Row} (h7 : ρ[7]? = some (some (.bl b))) (h5 : ρ[5]? = some (some (.str nm))) (h2 : ρ[2]? = some (some (.ref n))) (h6 : ρ[6]? = some (some (pidD pr)))
    (hq : M[n]? = some (.dK (ownKv o))) (ho : Own o) (hl : o.length ≤ 90) (hp : pr ∈ pids3) :
    Ok (eAnd (eVar 7) (eAnd (eBin oNe (eVar 5) (eC (.str "undefined"))) (eAnd (eBin (oIn true) (eVar 5) (eVar 2)) (eBin (oIn true) (eVar 6) (e_listValues (eVar 2))))) ρ M) fun d M' => d = .bl (isLet b nm o pr) ∧ Kp [] M M' := by
  have e7 : ∀ M, eVar 7 ρ M = some (.bl b, M) := fun M => by unfold eVar; rw [h7]
  have e5 : ∀ M, eVar 5 ρ M = some (.str nm, M) := fun M => by unfold eVar; rw [h5]
  have e2 : ∀ M, eVar 2 ρ M = some (.ref n, M) := fun M => by unfold eVar; rw [h2]
  have e6 : ∀ M, eVar 6 ρ M = some (pidD pr, M) := fun M => by unfold eVar; rw [h6]
  have x1 : oNe (.str nm) (.str "undefined") M = some (.bl (!decide (nm = "undefined")), M) := rfl
  have x2 : oIn true (.str nm) (.ref n) M = some (.bl (!(o.any fun r => decide (r.1 = nm))), M) := by
    unfold oIn
    rw [in_own hq]
    rfl
  have x3 : e_listValues (eVar 2) ρ M = some (.ref M.length, M ++ [.lst (o.map fun r => pidD r.2)]) := by
    unfold e_listValues
    rw [e2]
    show (match M[n]? with
      | some (.dK kvs) => some (Mi.D.ref M.length, M ++ [MO.lst (kvs.map fVal)])
      | _ => none) = _
    rw [hq]
    have : (ownKv o).map fVal = o.map fun r => pidD r.2 := by unfold ownKv; rw [List.map_map]; rfl
    simp only [this]
  have x4 : oIn true (pidD pr) (.ref M.length) (M ++ [.lst (o.map fun r => pidD r.2)]) = some (.bl (!(o.any fun r => decide (r.2 = pr))), M ++ [.lst (o.map fun r => pidD r.2)]) := by
    unfold oIn
    rw [in_vals push_last ho hp (by omega)]
    rfl
  simp only [eAnd, bOf, eBin, eC]
  unfold isLet
  cases b
  · simp [e7, Kp.refl]
  · generalize decide (nm = "undefined") = u at *
    generalize (o.any fun r => decide (r.1 = nm)) = v at *
    generalize (o.any fun r => decide (r.2 = pr)) = w at *
    cases u
    · cases v
      · simp [e7, e5, e2, e6, x1, x2, x3, x4, Kp.push]
      · simp [e7, e5, e2, x1, x2, Kp.refl]
    · simp [e7, e5, x1, Kp.refl]
theorem ev_due {ρ : Mi.Loc} {M : Mem} {n : Nat} {o : List Mi.Row} (h2 : ρ[2]? = some (some (.ref n))) (hq : M[n]? = some (.dK (ownKv o))) (ho : Own o) (hl : o.length ≤ 90) :
    Ok (eCall fTuple (eCons (e_sortedItems (eVar 2)) eNil) ρ M) fun d M' => d = book o ∧ Kp [] M M' := by
  have e2 : eVar 2 ρ M = some (.ref n, M) := by unfold eVar; rw [h2]
  have e := sorted_items e2 hq ho (by omega)
  simp only [eCall, eCons, eNil]
  simp [e, fTuple, itemsOf, lst_last, Kp.push]
theorem eTup2 {x y : Ev} {ρ : Mi.Loc} {M : Mem} {Q : D → Mem → Prop} (h : Ok (x ρ M) fun a M1 => Ok (y ρ M1) fun b M2 => Q (.tup [a, b]) M2) : Ok (eTup (eCons x (eCons y eNil)) ρ M) Q := by
  simp only [eTup, eCons, eNil]
  simp only [ok_bind, ok_some]
  refine h.mono fun a M1 h => h.mono fun b M2 h => ?_
  rw [if_pos (show [a, b].length ≤ sizeLine from sz2)]
  exact ok_some.mpr h
theorem br1r {B : Mem} {j p k i n : Nat} {o : List Mi.Row} {nm : Str} {pr : List Int} {s3 s4 s7 s8 s9 s10 s11 s12 s13 : Option D} {M : Mem} (hq : M[n]? = some (.dK (ownKv o))) (ho : Own o) (hi : o.length ≤ i) (hi2 : i ≤ 80) (hn : nm ∈ names5) (hp : pr ∈ pids3) (pot : PotAt M p k) (hk : k < 1000) (fr : Frm B p M) (hb : B.length ≤ n) :
    Ok (p_B1r (callN (j + 6)) [some (.ref p), some (book o), some (.ref n), s3, s4, some (.str nm), some (pidD pr), s7, s8, s9, s10, s11, s12, s13] M) (PostB B p (k + 1) i) := by
  unfold p_B1r
  rw [ok_seq]
  simp only [sSet, eBin, eCall, eCons, eNil, eVar, eC]
  simp
  refine (c_take pot (by omega) (by decide) (by decide)).mono ?_
  rintro _ M1 ⟨r, rfl, r1, r2, pot1, kp1⟩
  have hq1 := kp1.get hq (by simpa using pot_ne pot hq)
  have hgt : oGt (.int r) (.int 0) M1 = some (.bl (decide (0 < r)), M1) := rfl
  rw [hgt]
  generalize decide (0 < r) = b
  simp only [ok_some, List.set]
  rw [ok_seq, show sSet 8 (eAnd (eVar 7) (eAnd (eBin oNe (eVar 5) (eC (.str "undefined"))) (eAnd (eBin (oIn true) (eVar 5) (eVar 2)) (eBin (oIn true) (eVar 6) (e_listValues (eVar 2)))))) = fun ρ M => bindO (eAnd (eVar 7) (eAnd (eBin oNe (eVar 5) (eC (.str "undefined"))) (eAnd (eBin (oIn true) (eVar 5) (eVar 2)) (eBin (oIn true) (eVar 6) (e_listValues (eVar 2))))) ρ M) fun d M1 => some (.next (ρ.set 8 (some d)), M1) from rfl]
  simp only [ok_bind]
  refine (ev_isLet (n := n) (b := b) (nm := nm) (pr := pr) (o := o) rfl rfl rfl rfl hq1 ho (by omega) hp).mono ?_
  rintro _ M2 ⟨rfl, kp2⟩
  have hq2 := kp2.get hq1 (by simp)
  have pot2 := pot1.keep kp2 (by simp)
  simp only [ok_some, List.set]
  rw [ok_seq]
  simp only [sSet, eCall, eCons, eNil, eVar]
  simp
  refine (c_give ho hn hp (by omega)).mono ?_
  rintro d M3 ⟨kp3, hd⟩
  have hq3 := kp3.get hq2 (by simp)
  have pot3 := pot2.keep kp3 (by simp)
  have fr3 := ((fr.step kp1 (by simp)).step kp2 (by simp)).step kp3 (by simp)
  rw [ok_seq]
  generalize hlet : isLet b nm o pr = q at *
  cases q
  · have hd' : d = .tup [book o, .bl false] := by
      rw [if_neg] at hd
      · exact hd
      · rintro ⟨h1, h2, h3⟩
        rw [own_free] at h3
        simp only [Bool.or_eq_false_iff] at h3
        unfold isLet at hlet
        rw [h1, decide_eq_false h2, h3.1, h3.2] at hlet
        cases hlet
    subst hd'
    have ht : bOf (eVar 8) [some (.ref p), some (book o), some (.ref n), s3, s4, some (.str nm), some (pidD pr), some (.bl b), some (.bl false), some (.tup [book o, .bl false]), s10, s11, s12, s13] M3 = some (false, M3) := rfl
    simp only [sIf, ok_bind, ht, ok_some, sNil]
    rw [if_neg (by decide)]
    refine ok_some.mpr ?_
    simp only [sSet, ok_bind]
    refine eTup2 ((ev_due (n := n) rfl hq3 ho (by omega)).mono ?_)
    rintro _ M4 ⟨rfl, kp4⟩
    refine ok_some.mpr (ok_some.mpr ?_)
    exact ⟨_, o, n, _, _, _, _, _, _, _, _, _, _, _, rfl, kp4.get hq3 (by simp), ho, by omega, pot3.keep kp4 (by simp), r0_bl.up (by decide), Fine.bl.up (by decide) (by decide), fr3.step kp4 (by simp), hb⟩
  · have hall : b = true ∧ nm ≠ "undefined" ∧ (o.any fun r => decide (r.1 = nm)) = false ∧ (o.any fun r => decide (r.2 = pr)) = false := by
      unfold isLet at hlet
      simp only [Bool.and_eq_true, Bool.not_eq_true', decide_eq_false_iff_not] at hlet
      exact hlet
    obtain ⟨rfl, hu, a1, a2⟩ := hall
    have hd' : d = .tup [book (o ++ [(nm, pr)]), .bl true] := by
      rw [if_pos] at hd
      · exact hd
      · exact ⟨rfl, hu, by rw [own_free, a1, a2]; rfl⟩
    subst hd'
    have hno : ∀ r ∈ o, r.1 ≠ nm := fun r hr e => by
      have := List.any_eq_false.mp a1 r hr
      simp [e] at this
    have oa := own_add ho hn hu hp hno
    have ht : bOf (eVar 8) [some (.ref p), some (book o), some (.ref n), s3, s4, some (.str nm), some (pidD pr), some (.bl true), some (.bl true), some (.tup [book (o ++ [(nm, pr)]), .bl true]), s10, s11, s12, s13] M3 = some (true, M3) := rfl
    have hp1 : sDput (eVar 2) (eVar 5) (eVar 6) [some (.ref p), some (book o), some (.ref n), s3, s4, some (.str nm), some (pidD pr), some (.bl true), some (.bl true), some (.tup [book (o ++ [(nm, pr)]), .bl true]), s10, s11, s12, s13] M3 = some (.next [some (.ref p), some (book o), some (.ref n), s3, s4, some (.str nm), some (pidD pr), some (.bl true), some (.bl true), some (.tup [book (o ++ [(nm, pr)]), .bl true]), s10, s11, s12, s13], M3.set n (.dK (ownKv (o ++ [(nm, pr)])))) := by
      have hz : (ownKv o).length < sizeLine := by unfold ownKv; rw [List.length_map, sizeLine_eq]; omega
      show (match M3[n]?, keyD (.str nm) with
        | some (.dK kvs), some k => if kvs.length < sizeLine then some (Fl.next _, M3.set n (.dK (putD kvs k (pidD pr)))) else none
        | _, _ => none) = _
      rw [hq3]
      show (if (ownKv o).length < sizeLine then some (Fl.next _, M3.set n (.dK (putD (ownKv o) (.inr nm) (pidD pr)))) else none) = _
      rw [if_pos hz, put_own a1]
    simp only [sIf, ok_bind, ht, ok_some]
    rw [if_pos trivial, hp1]
    refine ok_some.mpr ?_
    simp only [sSet, ok_bind]
    have kp : Kp [n] M3 (M3.set n (.dK (ownKv (o ++ [(nm, pr)])))) := Kp.set (by simp)
    have hq4 := set_self (o := .dK (ownKv (o ++ [(nm, pr)]))) hq3
    have pot4 := pot3.keep kp (by simpa using (pot_ne pot3 hq3).symm)
    have hlen : (o ++ [(nm, pr)]).length = o.length + 1 := by rw [List.length_append]; rfl
    refine eTup2 ((ev_due (n := n) rfl hq4 oa (by omega)).mono ?_)
    rintro _ M4 ⟨rfl, kp4⟩
    refine ok_some.mpr (ok_some.mpr ?_)
    exact ⟨_, _, n, _, _, _, _, _, _, _, _, _, _, _, rfl, kp4.get hq4 (by simp), oa, by omega, pot4.keep kp4 (by simp), r0_bl.up (by decide), Fine.bl.up (by decide) (by decide), (fr3.step kp (by simp [hb])).step kp4 (by simp), hb⟩
theorem br1 {B : Mem} {j p k i n : Nat} {o : List Mi.Row} {nm : Str} {pr : List Int} {s3 s4 s7 s8 s9 s10 s11 s12 s13 : Option D} {M : Mem} (hq : M[n]? = some (.dK (ownKv o))) (ho : Own o) (hi : o.length ≤ i) (hi2 : i ≤ 80) (hn : nm ∈ names4) (hp : pr ∈ pids3) (pot : PotAt M p k) (hk : k < 999) (fr : Frm B p M) (hb : B.length ≤ n) :
    Ok (p_B1 (callN (j + 6)) [some (.ref p), some (book o), some (.ref n), s3, s4, some (.str nm), some (pidD pr), s7, s8, s9, s10, s11, s12, s13] M) (PostB B p (k + 2) i) := by
  unfold p_B1
  rw [ok_seq]
  simp only [sSet, eIf, bOf, eBin, eCall, eCons, eNil, eVar, eC]
  simp
  refine (c_take pot (by omega) (by decide) (by decide)).mono ?_
  rintro _ M1 ⟨r, rfl, r1, r2, pot1, kp1⟩
  rw [eq_ints]
  have hq1 := kp1.get hq (by simpa using pot_ne pot hq)
  simp
  by_cases z : r = 0
  · rw [if_pos z]
    exact br1r hq1 ho hi hi2 (by decide) hp pot1 (by omega) (fr.step kp1 (by simp)) hb
  · rw [if_neg z]
    exact br1r hq1 ho hi hi2 (n5 hn) hp pot1 (by omega) (fr.step kp1 (by simp)) hb
end Pr
set_option Elab.async false
set_option linter.all false
set_option maxRecDepth 100000
namespace Pr
open PySem PySem.Spec PyProof.Rows L2 Mi
theorem filter_lt {f : Mi.Row → Bool} : ∀ l : List Mi.Row, decide ((l.filter fun r => !f r).length < l.length) = l.any f
  | [] => by simp
  | r :: l => by
    have ih := filter_lt (f := f) l
    rw [List.any_cons, List.filter_cons]
    have hle := List.length_filter_le (fun r => !f r) l
    cases h : f r with
    | true =>
      simp
      omega
    | false =>
      simp only [Bool.not_false, if_true, Bool.false_or, List.length_cons]
      rw [← ih]
      congr 1
      simp
theorem srt_find {o : List Mi.Row} (h : Own o) (n : Str) : (srt o).find? (fun r => decide (r.1 = n)) = o.find? fun r => decide (r.1 = n) := by
  cases q : o.find? fun r => decide (r.1 = n) with
  | none =>
    rw [List.find?_eq_none] at q ⊢
    exact fun r hr => q r ((srt_perm o).mem_iff.mp hr)
  | some r =>
    have hr := List.mem_of_find?_eq_some q
    have hn : r.1 = n := by simpa using List.find?_some q
    cases q2 : (srt o).find? fun r => decide (r.1 = n) with
    | none =>
      rw [List.find?_eq_none] at q2
      exact absurd (q2 r ((srt_perm o).mem_iff.mpr hr)) (by simp [hn])
    | some r2 =>
      have hr2 := (srt_perm o).mem_iff.mp (List.mem_of_find?_eq_some q2)
      have hn2 : r2.1 = n := by simpa using List.find?_some q2
      rw [h.inj r2 hr2 r hr (hn2.trans hn.symm)]
theorem ok_par {i j : Nat} {x y : Ev} {ρ : Mi.Loc} {M : Mem} {Q : Fl → Mem → Prop} (h : Ok (x ρ M) fun a M1 => Ok (y ρ M1) fun b M2 => Q (.next ((ρ.set i (some a)).set j (some b))) M2) : Ok (sPar i j (eCons x (eCons y eNil)) ρ M) Q := by
  simp only [sPar, eCons, eNil, ok_bind, ok_some]
  exact h
theorem br2 {B : Mem} {j p k i n : Nat} {o : List Mi.Row} {nm : Str} {pr : List Int} {s3 s4 s7 s8 s9 s10 s11 s12 s13 : Option D} {M : Mem} (hq : M[n]? = some (.dK (ownKv o))) (ho : Own o) (hi : o.length ≤ i) (hi2 : i ≤ 80) (hn : nm ∈ names4) (hp : pr ∈ pids3) (pot : PotAt M p k) (fr : Frm B p M) (hb : B.length ≤ n) :
    Ok (p_B2 (callN (j + 6)) [some (.ref p), some (book o), some (.ref n), s3, s4, some (.str nm), some (pidD pr), s7, s8, s9, s10, s11, s12, s13] M) (PostB B p k i) := by
  have hsf := srt_filter ho fun r => !decide (r.1 = nm)
  have hfl := filter_lt (f := fun r => decide (r.1 = nm)) (srt o)
  rw [srt_any] at hfl
  have hof : Own (o.filter fun r => !decide (r.1 = nm)) := ho.sub List.filter_sublist
  have hlf := List.length_filter_le (fun r : Mi.Row => !decide (r.1 = nm)) o
  unfold p_B2
  rw [ok_seq]
  refine ok_par ?_
  simp only [eCall, eCons, eNil, eVar]
  simp
  refine (c_freed (srt_ok ho) (n5 hn) (by rw [srt_len]; omega)).mono ?_
  rintro _ M1 ⟨rfl, kp1⟩
  rw [hsf] at hfl ⊢
  rw [hfl]
  have hq1 := kp1.get hq (by simp)
  have pot1 := pot.keep kp1 (by simp)
  have e1 : eBin (oIn false) (eVar 5) (eVar 2) [some (.ref p), some (book o), some (.ref n), s3, s4, some (.str nm), some (pidD pr), s7, s8, s9, s10, s11, s12, s13] M1 = some (.bl (o.any fun r => decide (r.1 = nm)), M1) := by
    show (inD M1 (.str nm) (.ref n)).map _ = _
    rw [in_own hq1]
    rfl
  rw [e1]
  simp only [ok_some, List.set]
  rw [ok_seq]
  generalize hw : (o.any fun r => decide (r.1 = nm)) = w
  cases w
  · have heq : (o.filter fun r => !decide (r.1 = nm)) = o := List.filter_eq_self.mpr fun r hr => by
      have := List.any_eq_false.mp hw r hr
      simpa using this
    rw [heq]
    have ht : bOf (eVar 11) [some (.ref p), some (book o), some (.ref n), s3, s4, some (.str nm), some (pidD pr), s7, s8, some (.tup [book o, .bl false]), s10, some (.bl false), s12, s13] M1 = some (false, M1) := rfl
    simp only [sIf, ok_bind, ht, ok_some, sNil]
    rw [if_neg (by decide)]
    refine ok_some.mpr ?_
    simp only [sSet, ok_bind]
    refine eTup2 ((ev_due (n := n) rfl hq1 ho (by omega)).mono ?_)
    rintro _ M4 ⟨rfl, kp4⟩
    refine ok_some.mpr (ok_some.mpr ?_)
    exact ⟨_, o, n, _, _, _, _, _, _, _, _, _, _, _, rfl, kp4.get hq1 (by simp), ho, by omega, pot1.keep kp4 (by simp), r0_bl.up (by decide), Fine.bl.up (by decide) (by decide), (fr.step kp1 (by simp)).step kp4 (by simp), hb⟩
  · generalize hfo : (o.filter fun r => !decide (r.1 = nm)) = fo at *
    have ht : bOf (eVar 11) [some (.ref p), some (book o), some (.ref n), s3, s4, some (.str nm), some (pidD pr), s7, s8, some (.tup [book fo, .bl true]), s10, some (.bl true), s12, s13] M1 = some (true, M1) := rfl
    have hp1 : eDpop1 (eVar 2) (eVar 5) [some (.ref p), some (book o), some (.ref n), s3, s4, some (.str nm), some (pidD pr), s7, s8, some (.tup [book fo, .bl true]), s10, some (.bl true), s12, s13] M1 = (valD (ownKv o) (.inr nm)).map fun d => (d, M1.set n (.dK (ownKv fo))) := by
      show (match M1[n]? with
        | some (.dK _) => bindO (some (Mi.D.str nm, M1)) fun i M2 => match M2[n]?, keyD i with
          | some (.dK kvs), some k => (valD kvs k).map fun d => (d, M2.set n (.dK (dropD kvs k)))
          | _, _ => none
        | _ => none) = _
      rw [hq1]
      show (match M1[n]?, keyD (.str nm) with
          | some (.dK kvs), some k => (valD kvs k).map fun d => (d, M1.set n (.dK (dropD kvs k)))
          | _, _ => none) = _
      rw [hq1]
      show ((valD (ownKv o) (.inr nm)).map fun d => (d, M1.set n (.dK (dropD (ownKv o) (.inr nm))))) = _
      rw [drop_own, hfo]
    have hv : ∃ d, valD (ownKv o) (.inr nm) = some d := by
      rw [val_own]
      have := find_any (n := nm) o
      rw [hw] at this
      obtain ⟨r, hr⟩ := Option.isSome_iff_exists.mp this
      exact ⟨_, by rw [hr]; rfl⟩
    obtain ⟨dv, hv⟩ := hv
    rw [hv] at hp1
    simp only [sIf, ok_bind, ht, ok_some]
    rw [if_pos trivial]
    simp only [sDrop, ok_bind, hp1, Option.map_some, ok_some]
    simp only [sSet, ok_bind]
    have kp : Kp [n] M1 (M1.set n (.dK (ownKv fo))) := Kp.set (by simp)
    have hq4 := set_self (o := .dK (ownKv fo)) hq1
    have pot4 := pot1.keep kp (by simpa using (pot_ne pot1 hq1).symm)
    refine eTup2 ((ev_due (n := n) rfl hq4 hof (by omega)).mono ?_)
    rintro _ M4 ⟨rfl, kp4⟩
    refine ok_some.mpr (ok_some.mpr ?_)
    exact ⟨_, _, n, _, _, _, _, _, _, _, _, _, _, _, rfl, kp4.get hq4 (by simp), hof, by omega, pot4.keep kp4 (by simp), r0_bl.up (by decide), Fine.bl.up (by decide) (by decide), ((fr.step kp1 (by simp)).step kp (by simp [hb])).step kp4 (by simp), hb⟩
end Pr
set_option Elab.async false
set_option linter.all false
set_option maxRecDepth 100000
namespace Pr
open PySem PySem.Spec PyProof.Rows L2 Mi
theorem br3 {B : Mem} {j p k i n : Nat} {o : List Mi.Row} {nm : Str} {pr : List Int} {s3 s4 s7 s8 s9 s10 s11 s12 s13 : Option D} {M : Mem} (hq : M[n]? = some (.dK (ownKv o))) (ho : Own o) (hi : o.length ≤ i) (hi2 : i ≤ 80) (hn : nm ∈ names4) (hp : pr ∈ pids3) (pot : PotAt M p k) (fr : Frm B p M) (hb : B.length ≤ n) :
    Ok (p_B3 (callN (j + 6)) [some (.ref p), some (book o), some (.ref n), s3, s4, some (.str nm), some (pidD pr), s7, s8, s9, s10, s11, s12, s13] M) (PostB B p k i) := by
  unfold p_B3
  refine ok_par (eTup2 ?_)
  have e1 : eVar 1 [some (.ref p), some (book o), some (.ref n), s3, s4, some (.str nm), some (pidD pr), s7, s8, s9, s10, s11, s12, s13] M = some (book o, M) := rfl
  have e2 : eCall (callN (j + 6) 9 ) (eCons (eVar 1) (eCons (eVar 5) eNil)) [some (.ref p), some (book o), some (.ref n), s3, s4, some (.str nm), some (pidD pr), s7, s8, s9, s10, s11, s12, s13] M = some (((o.find? fun r => decide (r.1 = nm)).map fun r => pidD r.2).getD .non, M) := by
    show callN (j + 6) 9 [book o, .str nm] M = _
    rw [c_who (srt_ok ho) (n5 hn), srt_find ho]
  have e3 : eDget2 (eVar 2) (eVar 5) (eC .non) [some (.ref p), some (book o), some (.ref n), s3, s4, some (.str nm), some (pidD pr), s7, s8, s9, s10, s11, s12, s13] M = some (((o.find? fun r => decide (r.1 = nm)).map fun r => pidD r.2).getD .non, M) := by
    show (match M[n]? with
      | some (.dK _) => bindO (some (Mi.D.str nm, M)) fun i M2 => bindO (some (Mi.D.non, M2)) fun c M3 => match M3[n]?, keyD i with
        | some (.dK kvs), some k => some ((valD kvs k).getD c, M3)
        | _, _ => none
      | _ => none) = _
    rw [hq]
    show (match M[n]?, keyD (.str nm) with
        | some (.dK kvs), some k => some ((valD kvs k).getD .non, M)
        | _, _ => none) = _
    rw [hq]
    show some ((valD (ownKv o) (.inr nm)).getD .non, M) = _
    rw [val_own]
  rw [e1]
  refine ok_some.mpr ?_
  rw [e2]
  refine ok_some.mpr (eTup2 ?_)
  rw [e1]
  refine ok_some.mpr ?_
  rw [e3]
  refine ok_some.mpr ?_
  obtain ⟨pe, r, f⟩ : ∃ pe, Reads0 30 (((o.find? fun r => decide (r.1 = nm)).map fun r => pidD r.2).getD .non) pe ∧ Fine 100 3 pe := by
    cases q : o.find? fun r => decide (r.1 = nm) with
    | none => exact ⟨.none, r0_non.up (by decide), Fine.non.up (by decide) (by decide)⟩
    | some r =>
      have hr := row_pid (ho.ok r (List.mem_of_find?_eq_some q))
      exact ⟨_, (pid_reads hr).up (by decide), (pid_fine hr).up (by decide) (by decide)⟩
  exact ⟨_, o, n, _, pe, _, _, _, _, _, _, _, _, _, rfl, hq, ho, by omega, pot, r, f, fr, hb⟩
theorem br4 {B : Mem} {j p k i n : Nat} {o : List Mi.Row} {nm : Str} {pr : List Int} {s3 s4 s7 s8 s9 s10 s11 s12 s13 : Option D} {M : Mem} (hq : M[n]? = some (.dK (ownKv o))) (ho : Own o) (hi : o.length ≤ i) (hi2 : i ≤ 80) (hp : pr ∈ pids3) (pot : PotAt M p k) (fr : Frm B p M) (hb : B.length ≤ n) :
    Ok (p_B4 (callN (j + 6)) [some (.ref p), some (book o), some (.ref n), s3, s4, some (.str nm), some (pidD pr), s7, s8, s9, s10, s11, s12, s13] M) (PostB B p k i) := by
  have hsf := srt_filter ho fun r => !decide (r.2 = pr)
  have hof : Own (o.filter fun r => !decide (r.2 = pr)) := ho.sub List.filter_sublist
  have hlf := List.length_filter_le (fun r : Mi.Row => !decide (r.2 = pr)) o
  have hN : (M.set n (.fdK (ownKv o)))[n]? = some (.fdK (ownKv o)) := set_self hq
  have hNa : ∀ acc : List D, (M.set n (.fdK (ownKv o)) ++ [.lst acc])[n]? = some (.fdK (ownKv o)) := fun acc => append_get hN
  have lc : eLc (iDict fItem (eVar 2)) [12, 13] (gT (gsCons (gN 12) (gsCons (gN 13) gsNil))) (bOf (eBin oNe (eVar 13) (eVar 6))) (eTup (eCons (eVar 12) (eCons (eVar 13) eNil))) [some (.ref p), some (book o), some (.ref n), s3, s4, some (.str nm), some (pidD pr), s7, s8, s9, s10, s11, s12, s13] (M.set n (.fdK (ownKv o))) =
      some (.ref (M.set n (.fdK (ownKv o))).length, M.set n (.fdK (ownKv o)) ++ [.lst ((o.filter fun r => !decide (r.2 = pr)).map rowD)]) := by
    have gen : ∀ (tb : D → Bool), (∀ r ∈ o, tb (rowD r) = !decide (r.2 = pr)) → eLc (iDict fItem (eVar 2)) [12, 13] (gT (gsCons (gN 12) (gsCons (gN 13) gsNil))) (bOf (eBin oNe (eVar 13) (eVar 6))) (eTup (eCons (eVar 12) (eCons (eVar 13) eNil))) [some (.ref p), some (book o), some (.ref n), s3, s4, some (.str nm), some (pidD pr), s7, s8, s9, s10, s11, s12, s13] (M.set n (.fdK (ownKv o))) =
        some (.ref (M.set n (.fdK (ownKv o))).length, M.set n (.fdK (ownKv o)) ++ [.lst (((o.map rowD).filter tb).map fun d => d)]) := by
      intro tb htb
      refine lc_plain (M1 := M.set n (.fdK (ownKv o))) (get := fun M2 => (fdAt M2 n).map fun kvs => kvs.map fItem) (o.map rowD) tb (fun d => d) ?_ ?_ ?_ ?_
      · show (if (fdAt (M.set n (.fdK (ownKv o))) n).isSome then some ((fun M2 => (fdAt M2 n).map fun kvs => kvs.map fItem), M.set n (.fdK (ownKv o))) else none) = _
        have : fdAt (M.set n (.fdK (ownKv o))) n = some (ownKv o) := by unfold fdAt; rw [hN]
        rw [this]
        rfl
      · rw [List.length_map, sizeLine_eq]; omega
      · intro acc
        have : fdAt (M.set n (.fdK (ownKv o)) ++ [.lst acc]) n = some (ownKv o) := by unfold fdAt; rw [hNa acc]
        simp only [this, Option.map_some]
        congr 1
        unfold ownKv
        rw [List.map_map]
        rfl
      · intro d hd
        obtain ⟨r, hr, rfl⟩ := List.mem_map.mp hd
        refine ⟨[some (.ref p), some (book o), some (.ref n), s3, s4, some (.str nm), some (pidD pr), s7, s8, s9, s10, s11, some (.str r.1), some (pidD r.2)], rfl, fun acc => ⟨?_, fun _ => ?_⟩⟩
        · rw [htb r hr]
          show bindO (oNe (pidD r.2) (pidD pr) _) _ = _
          rw [ne_pids (row_pid (ho.ok r hr)) hp]
          rfl
        · show (if [Mi.D.str r.1, pidD r.2].length ≤ sizeLine then some (Mi.D.tup [.str r.1, pidD r.2], _) else none) = _
          rw [if_pos (show [Mi.D.str r.1, pidD r.2].length ≤ sizeLine from sz2)]
          rfl
    have key := gen (fun d => match d with
      | .tup [_, .tup [_, .tup xs]] => !decide ((xs.map fun x => match x with
        | .int i => i
        | _ => 0) = pr)
      | _ => false) fun r _ => by
        show (!decide (((r.2.map Mi.D.int).map fun x => match x with
          | .int i => i
          | _ => 0) = pr)) = _
        have : ((r.2.map Mi.D.int).map fun x => match x with
          | .int i => i
          | _ => 0) = r.2 := by
          rw [List.map_map]
          exact List.map_id _
        rw [this]
    rw [key, List.map_id']
    congr 3
    rw [List.filter_map]
    congr 3
    refine List.filter_congr fun r _ => ?_
    show (!decide (((r.2.map Mi.D.int).map fun x => match x with
          | .int i => i
          | _ => 0) = pr)) = _
    have : ((r.2.map Mi.D.int).map fun x => match x with
          | .int i => i
          | _ => 0) = r.2 := by
      rw [List.map_map]
      exact List.map_id _
    rw [this]
  have lk : eLock (eVar 2) (eLc (iDict fItem (eVar 2)) [12, 13] (gT (gsCons (gN 12) (gsCons (gN 13) gsNil))) (bOf (eBin oNe (eVar 13) (eVar 6))) (eTup (eCons (eVar 12) (eCons (eVar 13) eNil)))) [some (.ref p), some (book o), some (.ref n), s3, s4, some (.str nm), some (pidD pr), s7, s8, s9, s10, s11, s12, s13] M =
      some (.ref M.length, M ++ [.lst ((o.filter fun r => !decide (r.2 = pr)).map rowD)]) := by
    show (match M[n]? with
      | some (.dK kvs) => match eLc (iDict fItem (eVar 2)) [12, 13] (gT (gsCons (gN 12) (gsCons (gN 13) gsNil))) (bOf (eBin oNe (eVar 13) (eVar 6))) (eTup (eCons (eVar 12) (eCons (eVar 13) eNil))) [some (.ref p), some (book o), some (.ref n), s3, s4, some (.str nm), some (pidD pr), s7, s8, s9, s10, s11, s12, s13] (M.set n (.fdK kvs)) with
        | some (d, M2) => match M2[n]? with
          | some (.fdK kvs2) => some (d, M2.set n (.dK kvs2))
          | _ => none
        | none => none
      | _ => none) = _
    rw [hq]
    simp only
    rw [lc]
    simp only
    rw [hNa]
    simp only
    rw [set_back hq, List.length_set]
  unfold p_B4
  rw [ok_seq]
  simp only [sSet, eCall, eCons, eNil, ok_bind]
  rw [lk]
  simp only [ok_some]
  generalize hfo : (o.filter fun r => !decide (r.2 = pr)) = fo at *
  have fd : fDict [.ref M.length] (M ++ [.lst (fo.map rowD)]) = some (.ref (M ++ [.lst (fo.map rowD)] : Mem).length, M ++ [.lst (fo.map rowD)] ++ [.dK (ownKv fo)]) := by
    unfold fDict
    simp only [lst_last, pairs_own]
    have := merge_own (b := fo) (a := []) (by rw [List.nil_append]; exact hof.nd)
    rw [show mergeD [] (ownKv fo) = ownKv fo from this]
  rw [fd]
  simp only [ok_some, List.set]
  have kp1 : Kp [] M (M ++ [.lst (fo.map rowD)] ++ [.dK (ownKv fo)]) := Kp.push.trans Kp.push
  have hb1 : B.length ≤ (M ++ [.lst (fo.map rowD)] : Mem).length := by have := fr.1; rw [List.length_append]; omega
  have hq1 : (M ++ [.lst (fo.map rowD)] ++ [.dK (ownKv fo)])[(M ++ [.lst (fo.map rowD)] : Mem).length]? = some (.dK (ownKv fo)) := push_last
  generalize (M ++ [.lst (fo.map rowD)] : Mem).length = n1 at *
  generalize (M ++ [.lst (fo.map rowD)] ++ [.dK (ownKv fo)] : Mem) = M1 at *
  have pot1 := pot.keep kp1 (by simp)
  refine ok_par (eTup2 ?_)
  show Ok (callN (j + 6) 10 [book o, pidD pr] M1) _
  refine (c_left (srt_ok ho) hp (by rw [srt_len]; omega)).mono ?_
  rintro _ M2 ⟨rfl, kp2⟩
  rw [hsf]
  have hq2 := kp2.get hq1 (by simp)
  have pot2 := pot1.keep kp2 (by simp)
  simp only [eC, ok_some]
  refine eTup2 ((ev_due (n := n1) rfl hq2 hof (by omega)).mono ?_)
  rintro _ M4 ⟨rfl, kp4⟩
  refine ok_some.mpr ?_
  exact ⟨_, fo, n1, _, _, _, _, _, _, _, _, _, _, _, rfl, kp4.get hq2 (by simp), hof, by omega, pot2.keep kp4 (by simp), r0_non.up (by decide), Fine.non.up (by decide) (by decide), ((fr.step kp1 (by simp)).step kp2 (by simp)).step kp4 (by simp), hb1⟩
end Pr
set_option Elab.async false
set_option linter.all false
set_option maxRecDepth 100000
namespace Pr
open PySem PySem.Spec PyProof.Rows L2 Mi
def Lap (B : Mem) (p i : Nat) (ρ : Mi.Loc) (M : Mem) : Prop := ∃ (o : List Mi.Row) (n : Nat) (s3 s4 s5 s6 s7 s8 s9 s10 s11 s12 s13 : Option D),
  ρ = [some (.ref p), some (book o), some (.ref n), s3, s4, s5, s6, s7, s8, s9, s10, s11, s12, s13] ∧ M[n]? = some (.dK (ownKv o)) ∧ Own o ∧ o.length ≤ i ∧ PotAt M p (10 + 10 * i) ∧ Frm B p M ∧ B.length ≤ n
theorem items_names {M M' : Mem} {p : Nat} (hp : p < M.length) (kp : Kp [p] (M ++ [.lst (names4.map .str)]) M') : itemsOf M' (.ref M.length) = some (names4.map .str) := lstAt_of (kp.get push_last (by simp; omega))
theorem lap_ok {B : Mem} {j p i : Nat} {ρ : Mi.Loc} {M : Mem} {Q : Fl → Mem → Prop} (h : Lap B p i ρ M) (hi : i ≤ 50) : Ok (p_LAP (callN (j + 6)) ρ M) (Mi.Turn (Lap B p (i + 1)) Q) := by
  obtain ⟨o, n, s3, s4, s5, s6, s7, s8, s9, s10, s11, s12, s13, rfl, hq, ho, hl, pot, fr, hb⟩ := h
  unfold p_LAP p_A1
  rw [ok_seq]
  simp only [sAsg, eTup, eCons, eNil, eCall, eVar, eC]
  simp
  refine (c_take pot (by omega) (by decide) (by decide)).mono ?_
  rintro _ M1 ⟨way, rfl, w1, w2, pot1, kp1⟩
  have hq1 := kp1.get hq (by simpa using pot_ne pot hq)
  rw [c_names]
  refine ok_some.mpr ?_
  have kpa : Kp [] M1 (M1 ++ [.lst (names4.map .str)]) := Kp.push
  have pot1' := pot1.keep kpa (by simp)
  refine (c_of pot1' (by omega) (d := .ref M1.length) (xs := names4.map .str) lst_last (fun M' kp => items_names pot1.lt kp) (by decide) (by decide)).mono ?_
  rintro x M2 ⟨hx, pot2, kp2⟩
  obtain ⟨nm, hnm, rfl⟩ := List.mem_map.mp hx
  have hq2 := kp2.get (kpa.get hq1 (by simp)) (by simpa using pot_ne pot hq)
  rw [c_procs]
  refine ok_some.mpr ?_
  have kpb : Kp [] M2 (M2 ++ [.lst (pids3.map pidD)]) := Kp.push
  have pot2' := pot2.keep kpb (by simp)
  refine (c_of pot2' (by omega) (d := .ref M2.length) (xs := pids3.map pidD) lst_last (fun M' kp => lstAt_of (kp.get push_last (by have := pot2.lt; simp; omega))) (by decide) (by decide)).mono ?_
  rintro x M3 ⟨hx, pot3, kp3⟩
  obtain ⟨pr, hpr, rfl⟩ := List.mem_map.mp hx
  have hq3 := kp3.get (kpb.get hq2 (by simp)) (by simpa using pot_ne pot hq)
  have fr3 := ((((fr.step kp1 (by simp)).step kpa (by simp)).step kp2 (by simp)).step kpb (by simp)).step kp3 (by simp)
  rw [if_pos sz3]
  refine ⟨[some (.ref p), some (book o), some (.ref n), s3, some (.int way), some (.str nm), some (pidD pr), s7, s8, s9, s10, s11, s12, s13], rfl, ?_⟩
  rw [ok_seq]
  have br : Ok (p_BR (callN (j + 6)) [some (.ref p), some (book o), some (.ref n), s3, some (.int way), some (.str nm), some (pidD pr), s7, s8, s9, s10, s11, s12, s13] M3) (PostB B p (10 + 10 * (i + 1)) i) := by
    have up : ∀ {k : Nat} {fl : Fl} {M' : Mem}, k ≤ 10 + 10 * (i + 1) → PostB B p k i fl M' → PostB B p (10 + 10 * (i + 1)) i fl M' := by
      rintro k fl M' hk ⟨b1, o', n', e, pe, s3, s4, s5, s6, s7, s8, s11, s12, s13, h1, h2, h3, h4, h5, h6, h7, h8⟩
      exact ⟨b1, o', n', e, pe, s3, s4, s5, s6, s7, s8, s11, s12, s13, h1, h2, h3, h4, h5.up hk, h6, h7, h8⟩
    unfold p_BR
    have t1 : bOf (eBin oLt (eVar 4) (eC (.int 3))) [some (.ref p), some (book o), some (.ref n), s3, some (.int way), some (.str nm), some (pidD pr), s7, s8, s9, s10, s11, s12, s13] M3 = some (decide (way < 3), M3) := rfl
    have t2 : ∀ c : Int, bOf (eBin oEq (eVar 4) (eC (.int c))) [some (.ref p), some (book o), some (.ref n), s3, some (.int way), some (.str nm), some (pidD pr), s7, s8, s9, s10, s11, s12, s13] M3 = some (way == c, M3) := fun c => by
      show bindO (oEq (.int way) (.int c) M3) _ = _
      rw [eq_ints]
      rfl
    simp only [sIf, ok_bind, t1, t2, ok_some]
    split
    · exact (br1 hq3 ho hl (by omega) hnm hpr pot3 (by omega) fr3 hb).mono fun fl M' z => up (by omega) z
    · refine ok_bind.mpr (ok_some.mpr ?_)
      split
      · exact (br2 hq3 ho hl (by omega) hnm hpr pot3 fr3 hb).mono fun fl M' z => up (by omega) z
      · rw [t2]
        refine ok_bind.mpr (ok_some.mpr ?_)
        split
        · exact (br3 hq3 ho hl (by omega) hnm hpr pot3 fr3 hb).mono fun fl M' z => up (by omega) z
        · exact (br4 hq3 ho hl (by omega) hpr pot3 fr3 hb).mono fun fl M' z => up (by omega) z
  refine br.mono ?_
  rintro _ M4 ⟨b1, o', n', e, pe, t3, t4, t5, t6, t7, t8, t11, t12, t13, rfl, h2, h3, h4, h5, h6, h7, h8, h9⟩
  show Ok (p_TAIL (callN (j + 6)) [some (.ref p), some b1, some (.ref n'), t3, t4, t5, t6, t7, t8, some (.tup [book o', e]), some (.tup [book o', e]), t11, t12, t13] M4) (Mi.Turn (Lap B p (i + 1)) Q)
  refine tail_ok (i := i) h3 (by omega) h6 h7 ?_
  exact ⟨o', n', _, _, _, _, _, _, _, _, _, _, _, rfl, h2, h3, h4, h5, h8, h9⟩
end Pr
set_option Elab.async false
set_option linter.all false
set_option maxRecDepth 100000
namespace Pr
open PySem PySem.Spec PyProof.Rows L2 Mi
theorem bls_all {α : Type} (f : α → Bool) : ∀ l : List α, blsOf (l.map fun a => Mi.D.bl (f a)) = some (l.map f)
  | [] => rfl
  | a :: l => by
    show (blsOf (l.map fun a => Mi.D.bl (f a))).map (f a :: ·) = _
    rw [bls_all f l]
    rfl
theorem find_undef {o : List Mi.Row} (ho : Own o) : (srt o).find? (fun r => decide (r.1 = ("undefined" : Str))) = none := by
  rw [List.find?_eq_none]
  intro r hr
  have := row_name (ho.ok r ((srt_perm o).mem_iff.mp hr))
  have h : ∀ n ∈ names4, ¬ (decide (n = ("undefined" : Str)) = true) := by decide +kernel
  exact h r.1 this
theorem eq_same {M : Mem} {e : D} {pe : PyData} (r : Reads0 30 e pe) (f : Fine 100 3 pe) : oEq e e M = some (.bl true, M) := by
  have h : eqD M e e = some true := by
    rw [eq_plain r r (by decide) (by decide) (f.shaped (by decide)) (f.shaped (by decide))]
    rw [SeqAt.eqv_refl _ f.lay]
  unfold oEq
  split
  · rename_i a b
    rw [decide_eq_true rfl]
  · rw [h]
    rfl
theorem end_ok {B : Mem} {j p i : Nat} {ρ : Mi.Loc} {M : Mem} (h : Lap B p i ρ M) (hi : i ≤ 50) : Ok (p_END (callN (j + 6)) ρ M) fun fl M' => fl = .ret (.bl true) ∧ Kp [] M M' := by
  obtain ⟨o, n, s3, s4, s5, s6, s7, s8, s9, s10, s11, s12, s13, rfl, hq, ho, hl, pot, fr, hb⟩ := h
  have e1 : eBin (oIs false) (eCall (callN (j + 6) 9 ) (eCons (eVar 1) (eCons (eC (.str "undefined")) eNil))) (eC .non) [some (.ref p), some (book o), some (.ref n), s3, s4, s5, s6, s7, s8, s9, s10, s11, s12, s13] M = some (.bl true, M) := by
    show bindO (callN (j + 6) 9 [book o, .str "undefined"] M) _ = _
    rw [c_who (srt_ok ho) (by decide), find_undef ho]
    rfl
  have lc : Ok (eLc (iSq (eCall (callN (j + 6) 17 ) eNil)) [5] (gN 5) bYes (eBin oEq (eCall (callN (j + 6) 9 ) (eCons (eVar 1) (eCons (eVar 5) eNil))) (eDget2 (eVar 2) (eVar 5) (eC .non))) [some (.ref p), some (book o), some (.ref n), s3, s4, s5, s6, s7, s8, s9, s10, s11, s12, s13] M) fun d M' => ∃ D0, d = .ref D0 ∧ M'[D0]? = some (.lst (names4.map fun _ => .bl true)) ∧ Kp [] M M' := by
    refine ok_lc names4.length (by rw [sizeLine_eq]; decide) (fun D0 k acc M' => Kp [D0] (M ++ [.lst (names4.map .str)]) M' ∧ D0 = (M ++ [MO.lst (names4.map Mi.D.str)] : Mem).length ∧ acc = (names4.take k).map fun _ => .bl true) ?_
    have es : iSq (eCall (callN (j + 6) 17 ) eNil) [some (.ref p), some (book o), some (.ref n), s3, s4, s5, s6, s7, s8, s9, s10, s11, s12, s13] M = some ((fun M2 => lstAt M2 M.length), M ++ [.lst (names4.map .str)]) := by
      show bindO (bindO (some ([], M)) (callN (j + 6) 17 )) _ = _
      show bindO (callN (j + 6) 17 [] M) _ = _
      rw [c_names]
      show (if (lstAt (M ++ [.lst (names4.map .str)]) M.length).isSome then some ((fun M2 => lstAt M2 M.length), M ++ [.lst (names4.map .str)]) else none) = _
      rw [lst_last]
      rfl
    rw [es]
    have hn0 : (M ++ [MO.lst (names4.map Mi.D.str)])[M.length]? = some (.lst (names4.map .str)) := push_last
    have hne : M.length ≠ (M ++ [MO.lst (names4.map Mi.D.str)] : Mem).length := by simp
    refine ok_some.mpr ⟨⟨Kp.push, rfl, rfl⟩, ⟨_, lstAt_of (append_get hn0), rfl⟩, ?_, ?_⟩
    · rintro k acc M' hk _ hD ⟨kp, _, ha⟩
      have hnames := kp.get hn0 (by simpa using hne)
      refine ⟨names4.map .str, lstAt_of hnames, rfl, fun d hd => ?_⟩
      obtain ⟨nm, hnm, rfl⟩ := by rw [List.getElem?_map, Option.map_eq_some_iff] at hd; exact hd
      have hm := List.mem_of_getElem? hnm
      refine ⟨[some (.ref p), some (book o), some (.ref n), s3, s4, some (.str nm), s6, s7, s8, s9, s10, s11, s12, s13], rfl, ?_⟩
      refine ok_some.mpr ?_
      rw [if_pos rfl]
      have hq1 : M'[n]? = some (.dK (ownKv o)) := kp.get (append_get hq) (by have := lt_of_get hq; simp; omega)
      have x1 : eCall (callN (j + 6) 9 ) (eCons (eVar 1) (eCons (eVar 5) eNil)) [some (.ref p), some (book o), some (.ref n), s3, s4, some (.str nm), s6, s7, s8, s9, s10, s11, s12, s13] M' = some (((o.find? fun r => decide (r.1 = nm)).map fun r => pidD r.2).getD .non, M') := by
        show callN (j + 6) 9 [book o, .str nm] M' = _
        rw [c_who (srt_ok ho) (n5 hm), srt_find ho]
      have x2 : eDget2 (eVar 2) (eVar 5) (eC .non) [some (.ref p), some (book o), some (.ref n), s3, s4, some (.str nm), s6, s7, s8, s9, s10, s11, s12, s13] M' = some (((o.find? fun r => decide (r.1 = nm)).map fun r => pidD r.2).getD .non, M') := by
        show (match M'[n]? with
          | some (.dK _) => bindO (some (Mi.D.str nm, M')) fun i M2 => bindO (some (Mi.D.non, M2)) fun c M3 => match M3[n]?, keyD i with
            | some (.dK kvs), some k => some ((valD kvs k).getD c, M3)
            | _, _ => none
          | _ => none) = _
        rw [hq1]
        show (match M'[n]?, keyD (.str nm) with
            | some (.dK kvs), some k => some ((valD kvs k).getD .non, M')
            | _, _ => none) = _
        rw [hq1]
        show some ((valD (ownKv o) (.inr nm)).getD .non, M') = _
        rw [val_own]
      have x3 : ∃ pe, Reads0 30 (((o.find? fun r => decide (r.1 = nm)).map fun r => pidD r.2).getD .non) pe ∧ Fine 100 3 pe := by
        cases q : o.find? fun r => decide (r.1 = nm) with
        | none => exact ⟨.none, r0_non.up (by decide), Fine.non.up (by decide) (by decide)⟩
        | some r =>
          have hr := row_pid (ho.ok r (List.mem_of_find?_eq_some q))
          exact ⟨_, (pid_reads hr).up (by decide), (pid_fine hr).up (by decide) (by decide)⟩
      obtain ⟨pe, r, f⟩ := x3
      simp only [eBin, ok_bind, x1, ok_some, x2]
      rw [eq_same r f]
      refine ok_some.mpr ⟨hD, kp.trans (Kp.set (by simp)), (by first | rfl | trivial), ?_⟩
      rw [List.take_add_one, hnm, List.map_append, ha]
      rfl
    · rintro acc M' hD ⟨kp, _, ha⟩
      exact ⟨_, rfl, by rw [hD, ha]; rfl, ⟨by have := kp.1; rw [List.length_append] at this; omega, fun q hq _ => (kp.2 q (by rw [List.length_append]; omega) (by simp; omega)).trans (List.getElem?_append_left hq)⟩⟩
  unfold p_END
  simp only [sRet, eAnd, bOf, ok_bind, e1, ok_some]
  rw [if_pos trivial]
  simp only [eCall, eCons, eNil, ok_bind]
  refine lc.mono ?_
  rintro _ M' ⟨D0, rfl, hD, hk⟩
  have : fAll [.ref D0] M' = some (.bl true, M') := by
    unfold fAll
    simp only [lstAt_of hD]
    rfl
  simp only [ok_some, this]
  exact ⟨trivial, hk⟩
theorem right_ok {j p : Nat} {M : Mem} (pot : PotAt M p 0) : Ok (callN (j + 7) 18 [.ref p] M) fun d M' => d = .bl true ∧ Frm M p M' := by
  show Ok (runB 14 (b__law_right (callN (j + 6))) [.ref p] M) _
  unfold runB
  rw [right_eq, ok_bind, ok_seq]
  have a0 : p_A0 (callN (j + 6)) (startD 14 [.ref p]) M = some (.next [some (.ref p), some (book []), some (.ref M.length), none, none, none, none, none, none, none, none, none, none, none], M ++ [.dK (ownKv [])]) := by
    have s0 : (0 : Nat) ≤ sizeLine := Nat.zero_le _
    simp [p_A0, sAsg, eTup, eCons, eNil, eDnew, bindO, sz2, s0, gT, gsCons, gsNil, gN, startD, List.set, book, srt, ownKv]
  rw [a0]
  refine ok_some.mpr ?_
  show Ok (sSeq (sFor (iRg1 (eCons (eBin oAdd (eC (.int 5)) (eCall (callN (j + 6) 13 ) (eCons (eVar 0) (eCons (eC (.int 10)) eNil)))) eNil)) (gN 3) (p_LAP (callN (j + 6)))) (p_END (callN (j + 6))) _ _) _
  rw [ok_seq]
  have hq : (M ++ [.dK (ownKv [])])[M.length]? = some (.dK (ownKv [])) := push_last
  have kp0 : Kp [] M (M ++ [.dK (ownKv [])]) := Kp.push
  have pot0 := pot.keep kp0 (by simp)
  have fr0 : Frm M p (M ++ [.dK (ownKv [])]) := Frm.refl.step kp0 (by simp)
  generalize (M ++ [.dK (ownKv [])] : Mem) = M0 at *
  have own0 : Own [] := ⟨fun r hr => (by cases hr), List.nodup_nil⟩
  -- how many laps
  unfold sFor
  rw [ok_bind]
  simp only [iRg1, eCons, eNil, eBin, eC, eCall, eVar, ok_bind, ok_some]
  refine ok_some.mpr ?_
  refine (c_take (j := j + 5) (u := 10) pot0 (by omega) (by decide) (by decide)).mono ?_
  rintro _ M1 ⟨r, rfl, r1, r2, pot1, kp1⟩
  have hadd : oAdd (.int 5) (.int r) M1 = some (.int (5 + r), M1) := rfl
  rw [hadd]
  refine ok_some.mpr ?_
  show Ok (if -(2 ^ 62) ≤ (5 + r) ∧ (5 + r) < 2 ^ 62 then some ((fun _ : Mem => some (rgD 0 (5 + r).toNat)), M1) else none) _
  rw [if_pos ⟨by omega, by omega⟩]
  refine ok_some.mpr ?_
  have hlen : (rgD 0 (5 + r).toNat).length = (5 + r).toNat := by unfold rgD; simp
  generalize hn : (5 + r).toNat = n at *
  have hn50 : n ≤ 50 := by omega
  refine ok_forN n (fun i ρ M' => Lap M p i ρ M') ?_ ?_ _ 0 _ M1 (Nat.zero_le _) (by rw [hlen]; omega) ?_
  · rintro i ρ M' hi h
    refine ⟨rgD 0 n, rfl, hlen, fun d hd => ?_⟩
    refine ⟨_, rfl, ?_⟩
    refine lap_ok ?_ (by omega)
    obtain ⟨o, n', s3, s4, s5, s6, s7, s8, s9, s10, s11, s12, s13, rfl, h1, h2, h3, h4, h5, h6⟩ := h
    exact ⟨o, n', some d, s4, s5, s6, s7, s8, s9, s10, s11, s12, s13, rfl, h1, h2, h3, h4, h5, h6⟩
  · rintro ρ M' h
    have fr := h
    obtain ⟨o, n', s3, s4, s5, s6, s7, s8, s9, s10, s11, s12, s13, _, h1, h2, h3, h4, h5, h6⟩ := fr
    refine (end_ok (j := j) h hn50).mono ?_
    rintro _ M2 ⟨rfl, kp2⟩
    exact ok_some.mpr ⟨rfl, h5.step kp2 (by simp)⟩
  · exact ⟨[], M.length, none, none, none, none, none, none, none, none, none, none, none, rfl, kp1.get hq (by simpa using (fun z => by have := pot.lt; omega)), own0, Nat.le_refl _, pot1.up (by omega), fr0.step kp1 (by simp), Nat.le_refl _⟩
theorem law_true (ns : List Int) (hn : ns.length ≤ 63) : ∃ M', callN 8 19 [.ref 0] [.flst (ns.map .int)] = some (.bl true, M') := by
  have key : Ok (callN 8 19 [.ref 0] [.flst (ns.map .int)]) fun d _ => d = .bl true := by
    show Ok (runB 2 (b_law (callN 7)) [.ref 0] [.flst (ns.map .int)]) _
    unfold runB b_law
    simp only [sRet, eCall, eCons, eNil, ok_bind]
    have h0 : ([.flst (ns.map .int)] : Mem)[0]? = some (.flst (ns.map .int)) := rfl
    generalize hM : ([.flst (ns.map .int)] : Mem) = M at *
    have lc : Ok (eLc (iSq (eCall (callN 7 15 ) (eCons (eVar 0) (eCons (eC (.int 1)) eNil)))) [1] (gN 1) bYes (eCall (callN 7 18 ) (eCons (eCall (callN 7 12 ) (eCons (eVar 0) (eCons (eVar 1) eNil))) eNil)) [some (.ref 0), none] M) fun d M' => ∃ D0, d = .ref D0 ∧ M'[D0]? = some (.lst [.bl true]) := by
      have es : iSq (eCall (callN 7 15 ) (eCons (eVar 0) (eCons (eC (.int 1)) eNil))) [some (.ref 0), none] M = some ((fun M2 => lstAt M2 M.length), M ++ [.lst (rgD 0 1)]) := by
        obtain ⟨d, M', e, rfl, rfl⟩ := cells_spec (most := 1) h0 (by decide) (by omega)
        show bindO (callN 7 15 [.ref 0, .int 1] M) _ = _
        have e' : callN 7 15 [.ref 0, .int 1] M = some (.ref M.length, M ++ [.lst (rgD 0 (max 1 (min 1 ns.length)))]) := e
        have hmx : max 1 (min 1 ns.length) = 1 := by omega
        rw [hmx] at e'
        rw [e']
        show (if (lstAt (M ++ [.lst (rgD 0 1)]) M.length).isSome then some ((fun M2 => lstAt M2 M.length), M ++ [.lst (rgD 0 1)]) else none) = _
        rw [lst_last]
        rfl
      have hn0 : (M ++ [MO.lst (rgD 0 1)])[M.length]? = some (.lst (rgD 0 1)) := push_last
      refine ok_lc 1 (by rw [sizeLine_eq]; decide) (fun D0 k acc M' => Kp [D0] (M ++ [.lst (rgD 0 1)]) M' ∧ acc = (List.replicate k (.bl true))) ?_
      rw [es]
      have hne : M.length ≠ (M ++ [MO.lst (rgD 0 1)] : Mem).length := by simp
      refine ok_some.mpr ⟨⟨Kp.push, rfl⟩, ⟨_, lstAt_of (append_get hn0), rfl⟩, ?_, ?_⟩
      · rintro k acc M' hk _ hD ⟨kp, ha⟩
        have hcells := kp.get hn0 (by simpa using hne)
        refine ⟨rgD 0 1, lstAt_of hcells, rfl, fun d hd => ?_⟩
        have hk0 : k = 0 := by
          have := (List.getElem?_eq_some_iff.mp hd).1
          have hl1 : (rgD 0 1).length = 1 := rfl
          omega
        subst hk0
        have hd0 : d = .int 0 := by
          have : (rgD 0 1)[0]? = some (Mi.D.int 0) := rfl
          rw [this] at hd
          exact (Option.some.inj hd).symm
        subst hd0
        refine ⟨[some (.ref 0), some (.int 0)], rfl, ?_⟩
        refine ok_some.mpr ?_
        rw [if_pos rfl]
        have h0' : M'[0]? = some (.flst (ns.map .int)) := kp.get (append_get h0) (by simp)
        simp only [eCall, eCons, eNil, eVar]
        simp
        refine (pot_spec (A := 1223) (B := 587) (C := 73417) (E := 7937) (F := 541) (i := 0) (by decide) (by decide) (by decide) h0' (by decide)).mono ?_
        rintro _ M1 ⟨p, rfl, hp, pot, kp1⟩
        refine (right_ok (j := 0) pot).mono ?_
        rintro _ M2 ⟨rfl, fr⟩
        have hD2 : M2[(M ++ [MO.lst (rgD 0 1)] : Mem).length]? = some (.lst acc) := by
          have h1 := kp1.get hD (by simp)
          rw [fr.2 _ (lt_of_get h1) (by have := lt_of_get hD; omega)]
          exact h1
        have hD2' : M2[M.length + 1]? = some (.lst acc) := by simpa using hD2
        have ha0 : acc = [] := ha
        subst ha0
        have hl0 : (M ++ [MO.lst (rgD 0 1)] : Mem).length = M.length + 1 := by simp
        rw [hl0] at kp
        have k1 : M.length + 1 ≤ M'.length := by have := kp.1; rw [hl0] at this; exact this
        have k2 := kp1.1
        refine ⟨hD2', ⟨by rw [List.length_set, hl0]; have := fr.1; omega, fun q hq hq2 => ?_⟩, rfl⟩
        rw [hl0] at hq
        rw [List.getElem?_set_ne (fun z => hq2 (by rw [← z]; simp))]
        rw [fr.2 q (by omega) (by omega), kp1.2 q (by omega) (by simp)]
        exact kp.2 q (by rw [hl0]; exact hq) hq2
      · rintro acc M' hD ⟨kp, ha⟩
        exact ⟨_, rfl, by rw [hD, ha]; rfl⟩
    refine (show Ok (eLc _ _ _ _ _ (startD 2 [.ref 0]) M) _ from lc).mono ?_
    rintro _ M' ⟨D0, rfl, hD⟩
    have : fAll [.ref D0] M' = some (.bl true, M') := by
      unfold fAll
      simp only [lstAt_of hD]
      rfl
    simp only [ok_some, this]
  obtain ⟨d, M', e, rfl⟩ := key
  exact ⟨M', e⟩
end Pr
set_option Elab.async false
set_option linter.all false
set_option maxRecDepth 100000
set_option maxHeartbeats 2000000
namespace Pr
open PySem PySem.Spec PyProof.Rows L2
theorem sz63 : (63 : Nat) ≤ sizeLine := by rw [sizeLine_eq]; decide
end Pr
open PySem PySem.W PySem.Calls PyProof.Rows
theorem PySem.Challenge.cw_arrivalmill_k22_whole_the_book_of_names_holds : PySem.Challenge.rw_arrivalmill_k22_whole_the_book_of_names.Holds := by
  w_on; o_law
  refine HandSHeadRun.head_any (r := OpenLaw.row PySem.Challenge.rw_arrivalmill_k22_whole_the_book_of_names) (q := view (OpenLaw.row PySem.Challenge.rw_arrivalmill_k22_whole_the_book_of_names).prog [29]) (H := Pr.hk) (ob := Pr.ob) (M := 20000) (loose := Pr.others) (d := HandSHeadRun.topDef (OpenLaw.row PySem.Challenge.rw_arrivalmill_k22_whole_the_book_of_names).prog 29) (kwd := []) Pr.ob_eq
    (by kernel_rfl) (fun s => by kernel_rfl) Pr.run (by kernel_rfl) (by kernel_rfl) (by kernel_rfl) (by rfl) (by first | assumption | decide +kernel) (by decide +kernel) ⟨rfl, rfl, rfl, rfl, rfl, by decide +kernel⟩ ?hw ?hc
  case hw => w_witness2
  case hc =>
    refine Mi.walk_data (l := PySem.Challenge.rw_arrivalmill_k22_whole_the_book_of_names) (n := 63) (k := 8) (x := "script") (g := Pr.callN 8 19) rfl Pr.sz63 (by kernel_rfl) ⟨rfl, by decide, by decide⟩ ?F Pr.law_true
    intro w mg fa h Y G hmg0
    obtain ⟨K, KX, c⟩ := Y
    have hmg : mg ("law" : PySem.Str) = some (.ref fa) := by
      have e : (HandSHeadRun.topDef (OpenLaw.row PySem.Challenge.rw_arrivalmill_k22_whole_the_book_of_names).prog 29).name = ("law" : PySem.Str) := by kernel_rfl
      rw [← e]
      exact hmg0
    have hd := Pr.hd_of (w := w) KX G c
    obtain ⟨fd, F⟩ := hd.d19
    have e := hmg.symm.trans (hd.gl 19 "law" ["script"] rfl)
    cases e
    have b := L2.FunD.bindsA (ps := ["script"]) F fun _ _ _ _ _ _ us hl => match us, hl with | [_], _ => rfl
    exact ⟨K, fd, Pr.adr K, KX, fun s v => b s [v] rfl, fun base _ _ => Pr.ok_law (Pr.all_fns hd 7) F⟩
