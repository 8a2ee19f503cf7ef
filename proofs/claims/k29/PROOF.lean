import PyProof.Rows.All
import Wide.All
import OpenK.AllK
import Wide.FinOn
import HandS.ForMost
import HandS.Wide
import HandS.Deep
import HandS.Conv
import HandS.Flow
import HandS.Exc
import HandS.Lambda
import HandS.Words
import HandS.Defaults
import HandS.HeadEnd
import HandS.TupAny
import HandS.NoneIn
import PyProof.CallFns
import HandS.IsInst
import HandS.Style
import HandS.Zip
import KE.SortData
import HandS.SortOrd
import HandS.Star
import HandS.Iter
import HandS.ListItems
import HandS.DictTup
import PyProof.Transfer
import HandS.Text
import HandS.StrMore
import PyProof.TupleOfSeq
import HandS.More
import HandS.HeadHook3
import PyProof.ReprLen
import PyProof.ReprReads
import PyProof.Rows.RegFStrParts
import PyProof.P3Eq
import HandS.ForExc
import HandS.WordsExc
import KE.KExcIs
import HandS.ExcIs
import PyProof.InstNe
import HandS.EndBits
import HandS.HeadHook4
import KE.GoesMore
import KE.GoesEnum
import HandS.Head4
import PySem.Challenge.RW_arrivalmill_k29_whole_clocks_and_their_t
set_option Elab.async false
set_option linter.all false
set_option maxRecDepth 100000
set_option maxHeartbeats 1000000
/-! Mi: the hand layer once more, with whole data (tuples of tuples) in the place of addresses, and what is made mutable by its number. -/
namespace Mi
open PySem PySem.Spec PyProof.Rows L2

/-- data: tuples whole, mutable things by number, defs by number -/
inductive D where
  | non | bl (b : Bool) | int (i : Int) | str (x : Str) | tup (xs : List D) | ref (n : Nat) | fn (i : Nat)

/-- what is mutable -/
inductive MO where
  | lst (xs : List D) | flst (xs : List D) | dK (kvs : List (Key × D)) | fdK (kvs : List (Key × D))
  /-- an instance of the class c (by number, as defs are); an exception object that is kept, of the class c, with its value -/
  | ins (c : Nat) (fs : List (Str × D)) | xo (c : Nat) (v : D)
  /-- the table of the code objects of the lambdas of one def, all of this name -/
  | tab (i : Nat) (q : Str)
abbrev Mem := List MO

structure Gm where
  K : PySem.W.Frag
  fa : Nat → Addr

mutual
inductive RD (G : Gm) (H : Hp) (m : List Addr) : D → V → Prop
  | non : RD G H m .non .non
  | bl (b : Bool) : RD G H m (.bl b) (.bl b)
  | int (i : Int) : RD G H m (.int i) (.int i)
  | str (x : Str) : RD G H m (.str x) (.str x)
  | tup {a : Addr} {ds : List D} {vs : List V} : SqT G.K H a vs → RDs G H m ds vs → RD G H m (.tup ds) (.ref a)
  | ref {n : Nat} {a : Addr} : m[n]? = some a → RD G H m (.ref n) (.ref a)
  | fn (i : Nat) : RD G H m (.fn i) (.ref (G.fa i))
inductive RDs (G : Gm) (H : Hp) (m : List Addr) : List D → List V → Prop
  | nil : RDs G H m [] []
  | cons {d : D} {ds : List D} {v : V} {vs : List V} : RD G H m d v → RDs G H m ds vs → RDs G H m (d :: ds) (v :: vs)
end

/-- tuples stay -/
def ExT (G : Gm) (H H' : Hp) : Prop := ∀ a xs, SqT G.K H a xs → SqT G.K H' a xs
/-- and what is locked -/
structure Ext (G : Gm) (H H' : Hp) : Prop where
  t : ExT G H H'
  z : ∀ a ob u, H a = some (.frz ob u) → H' a = some (.frz ob u)
  e : ∀ a φ, H a = some (.ext φ) → H' a = some (.ext φ)
  x : ∀ a fs, H a = some (.xd fs) → H' a = some (.xd fs)
theorem Ext.refl {G : Gm} {H : Hp} : Ext G H H := ⟨fun _ _ h => h, fun _ _ _ h => h, fun _ _ h => h, fun _ _ h => h⟩
theorem Ext.trans {G : Gm} {H H1 H2 : Hp} (a : Ext G H H1) (b : Ext G H1 H2) : Ext G H H2 := ⟨fun _ _ h => b.t _ _ (a.t _ _ h), fun _ _ _ h => b.z _ _ _ (a.z _ _ _ h), fun _ _ h => b.e _ _ (a.e _ _ h), fun _ _ h => b.x _ _ (a.x _ _ h)⟩
/-- where an address isn't a tuple -/
theorem ExT.at_ {G : Gm} {H : Hp} {p : Addr} {o : HO} (h : ∀ xs, H p ≠ some (.tup xs)) (h2 : ∀ ob xs, H p ≠ some (.frz ob (.tup xs))) : ExT G H (upd H p o) := fun a xs q => by
  by_cases e : a = p
  · subst e
    rcases q with q | q
    · rcases q with q | ⟨ob, q⟩
      · exact absurd q (h _)
      · exact absurd q (h2 _ _)
    · exact .inr q
  · rcases q with q | q
    · left
      rcases q with q | ⟨ob, q⟩
      · left; rw [upd_ne e]; exact q
      · right; exact ⟨ob, by rw [upd_ne e]; exact q⟩
    · exact .inr q
/-- a new address -/
theorem Ext.new {G : Gm} {H : Hp} {p : Addr} {o : HO} (h : H p = none) : Ext G H (upd H p o) := ⟨ExT.at_ (by rw [h]; intro _ z; cases z) (by rw [h]; intro _ _ z; cases z), fun a ob u q => by rw [upd_ne (ne_of_none q h)]; exact q, fun a u q => by rw [upd_ne (ne_of_none q h)]; exact q, fun a u q => by rw [upd_ne (ne_of_none q h)]; exact q⟩
/-- what the layer writes: lists, dicts, instances -/
def MutL : Option HO → Prop
  | some (.lst _) => True
  | some (.dK _) => True
  | some (.ins _ _ _) => True
  | _ => False
theorem MutL.mut {o : Option HO} (h : MutL o) : Mut o := by
  cases o with
  | none => exact h.elim
  | some o => cases o <;> first | trivial | exact h.elim
theorem mutL_tup {xs : List V} (h : MutL (some (.tup xs))) : False := h
theorem mutL_frz {o : Obj} {u : HO} (h : MutL (some (.frz o u))) : False := h
theorem mutL_ext {φ : Heap → Prop} (h : MutL (some (.ext φ))) : False := h
theorem mutL_xd {fs : List (Str × V)} (h : MutL (some (.xd fs))) : False := h
theorem mutL_ne {H : Hp} {p a : Addr} {u : HO} (h : MutL (H p)) (q : H a = some u) (n : ¬ MutL (some u)) : a ≠ p := by
  intro e
  rw [e] at q
  rw [q] at h
  exact n h
/-- what may be written is no tuple -/
theorem Ext.write {G : Gm} {H : Hp} {p : Addr} {o : HO} (h : MutL (H p)) : Ext G H (upd H p o) where
  t := ExT.at_ (fun xs z => by rw [z] at h; exact mutL_tup h) (fun ob xs z => by rw [z] at h; exact mutL_frz h)
  z := fun a ob u q => by rw [upd_ne (mutL_ne h q mutL_frz)]; exact q
  e := fun a φ q => by rw [upd_ne (mutL_ne h q mutL_ext)]; exact q
  x := fun a fs q => by rw [upd_ne (mutL_ne h q mutL_xd)]; exact q

theorem pre_get {m m' : List Addr} {n : Nat} {a : Addr} (h : m <+: m') (e : m[n]? = some a) : m'[n]? = some a := by
  obtain ⟨t, rfl⟩ := h
  have hl : n < m.length := (List.getElem?_eq_some_iff.mp e).1
  rw [List.getElem?_append_left hl]
  exact e

mutual
theorem RD.monoT {G : Gm} {H H' : Hp} {m m' : List Addr} (hm : m <+: m') (hx : ExT G H H') : ∀ {d : D} {v : V}, RD G H m d v → RD G H' m' d v
  | _, _, .non => .non
  | _, _, .bl b => .bl b
  | _, _, .int b => .int b
  | _, _, .str b => .str b
  | _, _, .tup h r => .tup (hx _ _ h) (RDs.monoT hm hx r)
  | _, _, .ref h => .ref (pre_get hm h)
  | _, _, .fn i => .fn i
theorem RDs.monoT {G : Gm} {H H' : Hp} {m m' : List Addr} (hm : m <+: m') (hx : ExT G H H') : ∀ {ds : List D} {vs : List V}, RDs G H m ds vs → RDs G H' m' ds vs
  | _, _, .nil => .nil
  | _, _, .cons r t => .cons (RD.monoT hm hx r) (RDs.monoT hm hx t)
end
theorem RD.mono {G : Gm} {H H' : Hp} {m m' : List Addr} (hm : m <+: m') (hx : Ext G H H') {d : D} {v : V} (r : RD G H m d v) : RD G H' m' d v := r.monoT hm hx.t
theorem RDs.mono {G : Gm} {H H' : Hp} {m m' : List Addr} (hm : m <+: m') (hx : Ext G H H') {d : List D} {v : List V} (r : RDs G H m d v) : RDs G H' m' d v := r.monoT hm hx.t
theorem RDs.length {G : Gm} {H : Hp} {m : List Addr} : ∀ {ds : List D} {vs : List V}, RDs G H m ds vs → ds.length = vs.length
  | _, _, .nil => rfl
  | _, _, .cons _ t => by rw [List.length_cons, List.length_cons, RDs.length t]
theorem RDs.append {G : Gm} {H : Hp} {m : List Addr} : ∀ {ds es : List D} {vs ws : List V}, RDs G H m ds vs → RDs G H m es ws → RDs G H m (ds ++ es) (vs ++ ws)
  | _, _, _, _, .nil, s => s
  | _, _, _, _, .cons r t, s => .cons r (RDs.append t s)
theorem RDs.get {G : Gm} {H : Hp} {m : List Addr} : ∀ {ds : List D} {vs : List V} {i : Nat} {d : D}, RDs G H m ds vs → ds[i]? = some d → ∃ v, vs[i]? = some v ∧ RD G H m d v
  | _, _, _, _, .nil, e => by simp at e
  | _, _, 0, _, .cons r _, e => by simp at e; subst e; exact ⟨_, rfl, r⟩
  | _, _, i + 1, _, .cons _ t, e => by simpa using RDs.get (i := i) t (by simpa using e)
theorem RDs.getV {G : Gm} {H : Hp} {m : List Addr} : ∀ {ds : List D} {vs : List V} {i : Nat} {v : V}, RDs G H m ds vs → vs[i]? = some v → ∃ d, ds[i]? = some d ∧ RD G H m d v
  | _, _, _, _, .nil, e => by simp at e
  | _, _, 0, _, .cons r _, e => by simp at e; subst e; exact ⟨_, rfl, r⟩
  | _, _, i + 1, _, .cons _ t, e => by simpa using RDs.getV (i := i) t (by simpa using e)
theorem RDs.set {G : Gm} {H : Hp} {m : List Addr} {d : D} {v : V} (r : RD G H m d v) : ∀ {ds : List D} {vs : List V} (i : Nat), RDs G H m ds vs → RDs G H m (ds.set i d) (vs.set i v)
  | _, _, _, .nil => .nil
  | _, _, 0, .cons _ t => .cons r t
  | _, _, i + 1, .cons q t => .cons q (RDs.set r i t)
theorem RDs.take {G : Gm} {H : Hp} {m : List Addr} : ∀ {ds : List D} {vs : List V} (i : Nat), RDs G H m ds vs → RDs G H m (ds.take i) (vs.take i)
  | _, _, 0, _ => .nil
  | _, _, _ + 1, .nil => .nil
  | _, _, i + 1, .cons q t => .cons q (RDs.take i t)
theorem RDs.drop {G : Gm} {H : Hp} {m : List Addr} : ∀ {ds : List D} {vs : List V} (i : Nat), RDs G H m ds vs → RDs G H m (ds.drop i) (vs.drop i)
  | _, _, 0, r => r
  | _, _, _ + 1, .nil => .nil
  | _, _, i + 1, .cons q t => RDs.drop i t

/-- pairs of a dict -/
inductive RKs (G : Gm) (H : Hp) (m : List Addr) : List (Key × D) → List (Key × V) → Prop
  | nil : RKs G H m [] []
  | cons {k : Key} {d : D} {v : V} {ds : List (Key × D)} {vs : List (Key × V)} : RD G H m d v → RKs G H m ds vs → RKs G H m ((k, d) :: ds) ((k, v) :: vs)
theorem RKs.monoT {G : Gm} {H H' : Hp} {m m' : List Addr} (hm : m <+: m') (hx : ExT G H H') : ∀ {ds : List (Key × D)} {vs : List (Key × V)}, RKs G H m ds vs → RKs G H' m' ds vs
  | _, _, .nil => .nil
  | _, _, .cons r t => .cons (r.monoT hm hx) (RKs.monoT hm hx t)
theorem RKs.mono {G : Gm} {H H' : Hp} {m m' : List Addr} (hm : m <+: m') (hx : Ext G H H') {d : List (Key × D)} {v : List (Key × V)} (r : RKs G H m d v) : RKs G H' m' d v := r.monoT hm hx.t

/-- fields of an instance -/
inductive RFs (G : Gm) (H : Hp) (m : List Addr) : List (Str × D) → List (Str × V) → Prop
  | nil : RFs G H m [] []
  | cons {k : Str} {d : D} {v : V} {ds : List (Str × D)} {vs : List (Str × V)} : RD G H m d v → RFs G H m ds vs → RFs G H m ((k, d) :: ds) ((k, v) :: vs)
theorem RFs.monoT {G : Gm} {H H' : Hp} {m m' : List Addr} (hm : m <+: m') (hx : ExT G H H') : ∀ {ds : List (Str × D)} {vs : List (Str × V)}, RFs G H m ds vs → RFs G H' m' ds vs
  | _, _, .nil => .nil
  | _, _, .cons r t => .cons (r.monoT hm hx) (RFs.monoT hm hx t)
theorem RFs.mono {G : Gm} {H H' : Hp} {m m' : List Addr} (hm : m <+: m') (hx : Ext G H H') {d : List (Str × D)} {v : List (Str × V)} (r : RFs G H m d v) : RFs G H' m' d v := r.monoT hm hx.t
/-- an exception object that is kept: its class, its dict -/
def XkO (cls : Value) (d : Option Addr) (a : Addr) : HO := .ext fun h => ∃ (oe : Obj) (vs : Array Value), h.get? a = some oe ∧ Zc cls d oe ∧ oe.data = .fields vs

def RO (G : Gm) (H : Hp) (m : List Addr) (a : Addr) : MO → Prop
  | .lst xs => ∃ vs, H a = some (.lst vs) ∧ RDs G H m xs vs
  | .flst xs => ∃ vs, ((∃ ob, H a = some (.frz ob (.lst vs))) ∨ ∃ (o : Obj) (its : Array Value) (n : Nat), G.K.lookup a = some o ∧ o.cls = .type "list" ∧ o.dict = none ∧ o.data = .seq its n ∧ its.size ≤ sizeLine ∧ Vals vs its.toList) ∧ RDs G H m xs vs
  | .dK kvs => ∃ kws, H a = some (.dK kws) ∧ RKs G H m kvs kws
  | .fdK kvs => ∃ ob kws, H a = some (.frz ob (.dK kws)) ∧ RKs G H m kvs kws
  | .ins c fs => ∃ dx gs, H a = some (.ins (G.fa c) dx gs) ∧ RFs G H m fs gs
  | .xo c v => ∃ d w, H a = some (XkO (.ref (G.fa c)) (some d) a) ∧ H d = some (.xd [("value", w)]) ∧ RD G H m v w
  | .tab i q => a = G.fa i ∧ LamX.TabS H a q

def MO.mut : MO → Bool
  | .lst _ => true
  | .dK _ => true
  | .ins _ _ => true
  | _ => false
/-- stands by one number alone -/
def MO.own : MO → Bool
  | .flst _ => false
  | _ => true
theorem MO.mut_own {o : MO} (h : o.mut = true) : o.own = true := by cases o <;> first | rfl | cases h
structure RM (G : Gm) (H : Hp) (m : List Addr) (M : Mem) : Prop where
  len : m.length = M.length
  nd : ∀ (i j : Nat) (a : Addr) (o u : MO), m[i]? = some a → m[j]? = some a → M[i]? = some o → M[j]? = some u → o.own = true → u.own = true → i = j
  at_ : ∀ (n : Nat) (a : Addr) (o : MO), m[n]? = some a → M[n]? = some o → RO G H m a o

theorem RM.addr {G : Gm} {H : Hp} {m : List Addr} {M : Mem} (h : RM G H m M) {n : Nat} {o : MO} (e : M[n]? = some o) : ∃ a, m[n]? = some a ∧ RO G H m a o := by
  have hl : n < M.length := (List.getElem?_eq_some_iff.mp e).1
  have hm : n < m.length := by rw [h.len]; exact hl
  exact ⟨m[n], List.getElem?_eq_getElem hm, h.at_ n _ o (List.getElem?_eq_getElem hm) e⟩

theorem RO.mutH {G : Gm} {H : Hp} {m : List Addr} {a : Addr} {o : MO} (h : RO G H m a o) (u : o.mut = true) : MutL (H a) := by
  cases o with
  | lst xs => obtain ⟨_, e, _⟩ := h; rw [e]; trivial
  | flst xs => cases u
  | dK xs => obtain ⟨_, e, _⟩ := h; rw [e]; trivial
  | fdK xs => cases u
  | ins c fs => obtain ⟨_, _, e, _⟩ := h; rw [e]; trivial
  | xo c v => cases u
  | tab i q => cases u
theorem RO.ownH {G : Gm} {H : Hp} {m : List Addr} {a : Addr} {o : MO} (h : RO G H m a o) (u : o.own = true) : H a ≠ none := by
  cases o with
  | lst xs => obtain ⟨_, e, _⟩ := h; rw [e]; simp
  | flst xs => cases u
  | dK xs => obtain ⟨_, e, _⟩ := h; rw [e]; simp
  | fdK xs => obtain ⟨_, _, e, _⟩ := h; rw [e]; simp
  | ins c fs => obtain ⟨_, _, e, _⟩ := h; rw [e]; simp
  | xo c v => obtain ⟨_, _, e, _⟩ := h; rw [e]; simp [XkO]
  | tab i q => obtain ⟨_, _, e, _⟩ := h; rw [e]; simp
/-- a table stays where its address and the codes stay -/
theorem tabS_stay {H H' : Hp} {P : Addr} {q : Str} (t : LamX.TabS H P q) (hP : H' P = H P) (he : ∀ a φ, H a = some (.ext φ) → H' a = some (.ext φ)) : LamX.TabS H' P q := by
  obtain ⟨ps, h1, h2, h3⟩ := t
  refine ⟨ps, hP.trans h1, h2, fun pos cv hc => ?_⟩
  obtain ⟨c, e1, e2⟩ := h3 pos cv hc
  exact ⟨c, e1, he _ _ e2⟩

theorem RO.stay_f {G : Gm} {H H' : Hp} {m m' : List Addr} {a : Addr} {xs : List D} (h : RO G H m a (.flst xs)) (hm : m <+: m') (hx : Ext G H H') (e : ∀ ob u, H a = some (.frz ob u) → H' a = H a) : RO G H' m' a (.flst xs) := by
  obtain ⟨vs, q, r⟩ := h
  refine ⟨vs, ?_, r.mono hm hx⟩
  rcases q with ⟨ob, q⟩ | q
  · exact .inl ⟨ob, (e _ _ q).trans q⟩
  · exact .inr q
/-- an object stays where the heap stays at its address -/
theorem RO.stay {G : Gm} {H H' : Hp} {m m' : List Addr} {a : Addr} {o : MO} (h : RO G H m a o) (hm : m <+: m') (hx : Ext G H H') (e : H a ≠ none → H' a = H a) : RO G H' m' a o := by
  cases o with
  | lst xs => obtain ⟨vs, q, r⟩ := h; exact ⟨vs, (e (by rw [q]; simp)).trans q, r.mono hm hx⟩
  | flst xs => exact RO.stay_f h hm hx fun ob u q => e (by rw [q]; simp)
  | dK xs => obtain ⟨vs, q, r⟩ := h; exact ⟨vs, (e (by rw [q]; simp)).trans q, r.mono hm hx⟩
  | fdK xs => obtain ⟨ob, vs, q, r⟩ := h; exact ⟨ob, vs, (e (by rw [q]; simp)).trans q, r.mono hm hx⟩
  | ins c fs => obtain ⟨dx, gs, q, r⟩ := h; exact ⟨dx, gs, (e (by rw [q]; simp)).trans q, r.mono hm hx⟩
  | xo c v => obtain ⟨d, w, q1, q2, r⟩ := h; exact ⟨d, w, hx.e _ _ q1, hx.x _ _ q2, r.mono hm hx⟩
  | tab i q => exact ⟨h.1, tabS_stay h.2 (e (by obtain ⟨_, _, z, _⟩ := h; rw [z]; simp)) hx.e⟩
theorem mut_some {o : Option HO} (h : Mut o) : o ≠ none := by
  intro e
  subst e
  exact h

/-- an object more -/
theorem RM.push {G : Gm} {H : Hp} {m : List Addr} {M : Mem} {p : Addr} {ho : HO} {o : MO} (h : RM G H m M) (hp : H p = none) (r : RO G (upd H p ho) (m ++ [p]) p o) : RM G (upd H p ho) (m ++ [p]) (M ++ [o]) := by
  have split : ∀ (n : Nat) (a : Addr) (ob : MO), (m ++ [p])[n]? = some a → (M ++ [o])[n]? = some ob → (m[n]? = some a ∧ M[n]? = some ob) ∨ (n = m.length ∧ a = p ∧ ob = o) := fun n a ob e1 e2 => by
    by_cases hn : n < m.length
    · rw [List.getElem?_append_left hn] at e1
      rw [List.getElem?_append_left (by rw [← h.len]; exact hn)] at e2
      exact .inl ⟨e1, e2⟩
    · have hl : n < (m ++ [p]).length := (List.getElem?_eq_some_iff.mp e1).1
      rw [List.length_append, List.length_singleton] at hl
      have en : n = m.length := by omega
      subst en
      rw [List.getElem?_append_right (Nat.le_refl _), Nat.sub_self] at e1
      rw [List.getElem?_append_right (by rw [h.len]; exact Nat.le_refl _), h.len, Nat.sub_self] at e2
      simp only [List.getElem?_cons_zero, Option.some.injEq] at e1 e2
      exact .inr ⟨rfl, e1.symm, e2.symm⟩
  refine ⟨by rw [List.length_append, List.length_append, h.len, List.length_singleton, List.length_singleton], fun i j a u v e1 e2 f1 f2 mu mv => ?_, fun n a ob e1 e2 => ?_⟩
  · rcases split i a u e1 f1 with ⟨x1, x2⟩ | ⟨x1, x2, x3⟩
    · rcases split j a v e2 f2 with ⟨y1, y2⟩ | ⟨y1, y2, y3⟩
      · exact h.nd i j a u v x1 y1 x2 y2 mu mv
      · subst y2
        exact absurd hp ((h.at_ i a u x1 x2).ownH mu)
    · rcases split j a v e2 f2 with ⟨y1, y2⟩ | ⟨y1, y2, y3⟩
      · subst x2
        exact absurd hp ((h.at_ j a v y1 y2).ownH mv)
      · rw [x1, y1]
  · rcases split n a ob e1 e2 with ⟨x1, x2⟩ | ⟨x1, x2, x3⟩
    · refine (h.at_ n a ob x1 x2).stay (List.prefix_append _ _) (Ext.new hp) fun q => upd_ne fun z => ?_
      subst z
      exact q hp
    · subst x2 x3
      exact r

/-- an object written -/
theorem RM.set {G : Gm} {H : Hp} {m : List Addr} {M : Mem} {n : Nat} {a : Addr} {ho : HO} {o u : MO} (h : RM G H m M) (e : m[n]? = some a) (eM : M[n]? = some u) (hu : u.mut = true) (ho' : o.mut = true) (r : RO G (upd H a ho) m a o) : RM G (upd H a ho) m (M.set n o) := by
  have mu : MutL (H a) := (h.at_ n a u e eM).mutH hu
  have hl : n < M.length := (List.getElem?_eq_some_iff.mp eM).1
  have get : ∀ (j : Nat) (ob : MO), (M.set n o)[j]? = some ob → (j = n ∧ ob = o) ∨ (j ≠ n ∧ M[j]? = some ob) := fun j ob q => by
    by_cases hj : j = n
    · subst hj
      rw [List.getElem?_set_self hl] at q
      cases q
      exact .inl ⟨rfl, rfl⟩
    · rw [List.getElem?_set_ne (Ne.symm hj)] at q
      exact .inr ⟨hj, q⟩
  have mutOf : ∀ (j : Nat) (ob : MO), (M.set n o)[j]? = some ob → ob.own = true → ∃ ob', M[j]? = some ob' ∧ ob'.own = true := fun j ob q m1 => by
    rcases get j ob q with ⟨rfl, rfl⟩ | ⟨_, q⟩
    · exact ⟨u, eM, MO.mut_own hu⟩
    · exact ⟨ob, q, m1⟩
  refine ⟨by rw [List.length_set, h.len], fun i j b x y e1 e2 f1 f2 mx my => ?_, fun j b ob e1 e2 => ?_⟩
  · obtain ⟨x', g1, g2⟩ := mutOf i x f1 mx
    obtain ⟨y', k1, k2⟩ := mutOf j y f2 my
    exact h.nd i j b x' y' e1 e2 g1 k1 g2 k2
  · rcases get j ob e2 with ⟨rfl, rfl⟩ | ⟨hj, q⟩
    · rw [e] at e1
      cases e1
      exact r
    · have old := h.at_ j b ob e1 q
      by_cases hb : b = a
      · subst hb
        cases om : ob.own with
        | true => exact absurd (h.nd j n b ob u e1 e q eM om (MO.mut_own hu)) hj
        | false =>
          cases ob with
          | flst xs =>
            refine RO.stay_f old (List.prefix_refl _) (Ext.write mu) fun ob' u' z => ?_
            rw [z] at mu
            exact mu.elim
          | lst xs => cases om
          | dK xs => cases om
          | fdK xs => cases om
          | ins _ _ => cases om
          | xo _ _ => cases om
          | tab _ _ => cases om
      · exact old.stay (List.prefix_refl _) (Ext.write mu) fun _ => upd_ne hb

/-- what stands by one number alone is exchanged at its address -/
theorem RM.swap {G : Gm} {H : Hp} {m : List Addr} {M : Mem} {n : Nat} {a : Addr} {ho : HO} {o u : MO} (h : RM G H m M) (e : m[n]? = some a) (eM : M[n]? = some u) (hu : u.own = true) (ho' : o.own = true) (hx : ExT G H (upd H a ho)) (hl : ∀ ob xs, H a ≠ some (.frz ob (.lst xs))) (hE : (∀ φ, H a ≠ some (.ext φ)) ∧ ∀ fs, H a ≠ some (.xd fs)) (r : RO G (upd H a ho) m a o) : RM G (upd H a ho) m (M.set n o) := by
  have hn : n < M.length := (List.getElem?_eq_some_iff.mp eM).1
  have get : ∀ (j : Nat) (ob : MO), (M.set n o)[j]? = some ob → (j = n ∧ ob = o) ∨ (j ≠ n ∧ M[j]? = some ob) := fun j ob q => by
    by_cases hj : j = n
    · subst hj
      rw [List.getElem?_set_self hn] at q
      cases q
      exact .inl ⟨rfl, rfl⟩
    · rw [List.getElem?_set_ne (Ne.symm hj)] at q
      exact .inr ⟨hj, q⟩
  have mutOf : ∀ (j : Nat) (ob : MO), (M.set n o)[j]? = some ob → ob.own = true → ∃ ob', M[j]? = some ob' ∧ ob'.own = true := fun j ob q m1 => by
    rcases get j ob q with ⟨rfl, rfl⟩ | ⟨_, q⟩
    · exact ⟨u, eM, hu⟩
    · exact ⟨ob, q, m1⟩
  refine ⟨by rw [List.length_set, h.len], fun i j b x y e1 e2 f1 f2 mx my => ?_, fun j b ob e1 e2 => ?_⟩
  · obtain ⟨x', g1, g2⟩ := mutOf i x f1 mx
    obtain ⟨y', k1, k2⟩ := mutOf j y f2 my
    exact h.nd i j b x' y' e1 e2 g1 k1 g2 k2
  · rcases get j ob e2 with ⟨rfl, rfl⟩ | ⟨hj, q⟩
    · rw [e] at e1
      cases e1
      exact r
    · have old := h.at_ j b ob e1 q
      by_cases hb : b = a
      · subst hb
        cases om : ob.own with
        | true => exact absurd (h.nd j n b ob u e1 e q eM om hu) hj
        | false =>
          cases ob with
          | flst xs =>
            obtain ⟨vs, q1, q2⟩ := old
            refine ⟨vs, ?_, q2.monoT (List.prefix_refl _) hx⟩
            rcases q1 with ⟨ob, q1⟩ | q1
            · exact absurd q1 (hl _ _)
            · exact .inr q1
          | lst xs => cases om
          | dK xs => cases om
          | fdK xs => cases om
          | ins _ _ => cases om
          | xo _ _ => cases om
          | tab _ _ => cases om
      · cases ob with
        | lst xs => obtain ⟨vs, q1, q2⟩ := old; exact ⟨vs, by rw [upd_ne hb]; exact q1, q2.monoT (List.prefix_refl _) hx⟩
        | flst xs =>
          obtain ⟨vs, q1, q2⟩ := old
          refine ⟨vs, ?_, q2.monoT (List.prefix_refl _) hx⟩
          rcases q1 with ⟨ob, q1⟩ | q1
          · exact .inl ⟨ob, by rw [upd_ne hb]; exact q1⟩
          · exact .inr q1
        | dK xs => obtain ⟨vs, q1, q2⟩ := old; exact ⟨vs, by rw [upd_ne hb]; exact q1, q2.monoT (List.prefix_refl _) hx⟩
        | fdK xs => obtain ⟨ob, vs, q1, q2⟩ := old; exact ⟨ob, vs, by rw [upd_ne hb]; exact q1, q2.monoT (List.prefix_refl _) hx⟩
        | ins c fs => obtain ⟨dx, gs, q1, q2⟩ := old; exact ⟨dx, gs, by rw [upd_ne hb]; exact q1, q2.monoT (List.prefix_refl _) hx⟩
        | xo c v =>
          obtain ⟨d, w, q1, q2, q3⟩ := old
          refine ⟨d, w, by rw [upd_ne hb]; exact q1, ?_, q3.monoT (List.prefix_refl _) hx⟩
          rw [upd_ne (fun z => hE.2 _ (by rw [← z]; exact q2))]
          exact q2
        | tab i q => exact ⟨old.1, tabS_stay old.2 (upd_ne hb) fun b φ z => (by rw [upd_ne (fun y => hE.1 _ (by rw [← y]; exact z))]; exact z)⟩

/-- the heap changed elsewhere -/
theorem RM.stay {G : Gm} {H H' : Hp} {m : List Addr} {M : Mem} (h : RM G H m M) (hx : Ext G H H') (e : ∀ a, H a ≠ none → H' a = H a) : RM G H' m M :=
  ⟨h.len, h.nd, fun n a o e1 e2 => (h.at_ n a o e1 e2).stay (List.prefix_refl _) hx (e a)⟩
theorem RM.new {G : Gm} {H : Hp} {m : List Addr} {M : Mem} {p : Addr} {o : HO} (h : RM G H m M) (hp : H p = none) : RM G (upd H p o) m M :=
  h.stay (Ext.new hp) fun a q => upd_ne fun z => q (z ▸ hp)

/-- slots -/
abbrev Loc := List (Option D)
structure Rho (G : Gm) (H : Hp) (m : List Addr) (ρ : Loc) (σ : L2.St) : Prop where
  len : σ.length = ρ.length
  at_ : ∀ (i : Nat) (d : D), ρ[i]? = some (some d) → ∃ v, σ[i]? = some (some v) ∧ RD G H m d v
theorem Rho.monoT {G : Gm} {H H' : Hp} {m m' : List Addr} {ρ : Loc} {σ : L2.St} (h : Rho G H m ρ σ) (hm : m <+: m') (hx : ExT G H H') : Rho G H' m' ρ σ :=
  ⟨h.len, fun i d e => let ⟨v, q, r⟩ := h.at_ i d e; ⟨v, q, r.monoT hm hx⟩⟩
theorem Rho.mono {G : Gm} {H H' : Hp} {m m' : List Addr} {ρ : Loc} {σ : L2.St} (h : Rho G H m ρ σ) (hm : m <+: m') (hx : Ext G H H') : Rho G H' m' ρ σ := h.monoT hm hx.t
theorem Rho.set {G : Gm} {H : Hp} {m : List Addr} {ρ : Loc} {σ : L2.St} {d : D} {v : V} (h : Rho G H m ρ σ) (i : Nat) (r : RD G H m d v) : Rho G H m (ρ.set i (some d)) (σ.set i (some v)) := by
  refine ⟨by rw [List.length_set, List.length_set, h.len], fun j e q => ?_⟩
  by_cases hj : j = i
  · subst hj
    have hl : j < ρ.length := by have := (List.getElem?_eq_some_iff.mp q).1; rw [List.length_set] at this; exact this
    rw [List.getElem?_set_self hl] at q
    cases q
    exact ⟨v, by rw [List.getElem?_set_self (by rw [h.len]; exact hl)], r⟩
  · rw [List.getElem?_set_ne (Ne.symm hj)] at q
    obtain ⟨w, q1, q2⟩ := h.at_ j e q
    exact ⟨w, by rw [List.getElem?_set_ne (Ne.symm hj)]; exact q1, q2⟩
/-- slots forgotten -/
def wipeD (ρ : Loc) : List Nat → Loc
  | [] => ρ
  | v :: vs => (wipeD ρ vs).set v none
theorem Rho.wipe {G : Gm} {H : Hp} {m : List Addr} {ρ : Loc} {σ : L2.St} (h : Rho G H m ρ σ) : ∀ vs : List Nat, Rho G H m (wipeD ρ vs) (wipe σ vs)
  | [] => h
  | v :: vs => by
    have ih := Rho.wipe h vs
    refine ⟨by unfold wipeD L2.wipe; rw [List.length_set, List.length_set, ih.len], fun j e q => ?_⟩
    unfold wipeD at q
    unfold L2.wipe
    by_cases hj : j = v
    · subst hj
      have hl : j < (wipeD ρ vs).length := by have := (List.getElem?_eq_some_iff.mp q).1; rw [List.length_set] at this; exact this
      rw [List.getElem?_set_self hl] at q
      cases q
    · rw [List.getElem?_set_ne (Ne.symm hj)] at q
      obtain ⟨w, q1, q2⟩ := ih.at_ j e q
      exact ⟨w, by rw [List.getElem?_set_ne (Ne.symm hj)]; exact q1, q2⟩

/-! ### readings by what comes out -/
abbrev R (α : Type) := Option (α × Mem)
abbrev Ev := Loc → Mem → R D
abbrev EvL := Loc → Mem → R (List D)
@[inline] def bindO {α β : Type} (x : R α) (f : α → Mem → R β) : R β := match x with
  | some (a, M) => f a M
  | none => none
/-- behind it: the heap has grown, the memory is M' -/
def Fin (G : Gm) (m : List Addr) (H : Hp) (M' : Mem) (k : List Addr → Hp → Prop) : Prop := ∀ m' H', m <+: m' → Ext G H H' → RM G H' m' M' → k m' H'
theorem Fin.mono {G : Gm} {m m1 : List Addr} {H H1 : Hp} {M' : Mem} {k : List Addr → Hp → Prop} (f : Fin G m H M' k) (hm : m <+: m1) (hx : Ext G H H1) : Fin G m1 H1 M' k :=
  fun m' H' a b c => f m' H' (hm.trans a) (hx.trans b) c
theorem Fin.here {G : Gm} {m : List Addr} {H : Hp} {M' : Mem} {k : List Addr → Hp → Prop} (f : Fin G m H M' k) (r : RM G H m M') : k m H := f m H (List.prefix_refl _) Ext.refl r

def TEof (G : Gm) (ev : Ev) : TE := fun σ H Q => ∃ m M ρ d M', Rho G H m ρ σ ∧ RM G H m M ∧ ev ρ M = some (d, M') ∧ Fin G m H M' fun m' H' => ∀ v, RD G H' m' d v → Q v H'
def TAof (G : Gm) (ev : EvL) : TA := fun σ H Q => ∃ m M ρ ds M', Rho G H m ρ σ ∧ RM G H m M ∧ ev ρ M = some (ds, M') ∧ Fin G m H M' fun m' H' => ∀ vs, RDs G H' m' ds vs → Q vs H'
/-- tests -/
abbrev EvB := Loc → Mem → R Bool
def TTof (G : Gm) (ev : EvB) : TT := fun σ H Q => ∃ m M ρ b M', Rho G H m ρ σ ∧ RM G H m M ∧ ev ρ M = some (b, M') ∧ Fin G m H M' fun _ H' => Q b H'
end Mi

namespace L2
theorem PE.imp {X : Cx} {e : PySem.Expr} {t t' : TE} (h : PE X e t) (i : ∀ σ H Q, t' σ H Q → t σ H Q) : PE X e t' := ⟨fun p s σ H Q I q => h.run p s σ H Q I (i σ H Q q)⟩
theorem PT.imp {X : Cx} {e : PySem.Expr} {t t' : TT} (h : PT X e t) (i : ∀ σ H Q, t' σ H Q → t σ H Q) : PT X e t' := ⟨fun p s σ H Q I q => h.run p s σ H Q I (i σ H Q q)⟩
theorem PW.imp {X : Cx} {e : PySem.Expr} {t t' : TT} (h : PW X e t) (i : ∀ σ H Q, t' σ H Q → t σ H Q) : PW X e t' := ⟨fun w p s σ H Q I q => h.run w p s σ H Q I (i σ H Q q)⟩
theorem PA.imp {X : Cx} {e : List PySem.Expr} {t t' : TA} (h : PA X e t) (i : ∀ σ H Q, t' σ H Q → t σ H Q) : PA X e t' := ⟨fun z p s σ H Q I q => h.run z p s σ H Q I (i σ H Q q)⟩
theorem PS.imp {X : Cx} {e : PySem.Stmt} {t t' : TS} (h : PS X e t) (i : ∀ D σ H, t' D σ H → t D σ H) : PS X e t' := ⟨fun p s σ H D I q => h.run p s σ H D I (i D σ H q)⟩
theorem PSs.imp {X : Cx} {e : List PySem.Stmt} {t t' : TS} (h : PSs X e t) (i : ∀ D σ H, t' D σ H → t D σ H) : PSs X e t' := ⟨fun p s σ H D I q => h.run p s σ H D I (i D σ H q)⟩
theorem PTs.imp {X : Cx} {e : List PySem.Expr} {t t' : TT} (h : PTs X e t) (i : ∀ σ H Q, t' σ H Q → t σ H Q) : PTs X e t' := ⟨fun p s σ H Q I q => h.run p s σ H Q I (i σ H Q q)⟩
end L2
set_option Elab.async false
set_option linter.all false
set_option maxRecDepth 100000
namespace Mi
open PySem PySem.Spec PyProof.Rows L2

section
variable {G : Gm} {α : Type} {m : List Addr} {M M' : Mem} {ρ : Loc} {σ : L2.St} {H : Hp} {r : α} {k : List Addr → Hp → Prop}
theorem te_bind {ev : Ev} {f : D → Mem → R α} (hρ : Rho G H m ρ σ) (hM : RM G H m M) (e : bindO (ev ρ M) f = some (r, M')) (fin : Fin G m H M' k) {Q : VK}
    (next : ∀ m1 H1 M1 d v, Rho G H1 m1 ρ σ → RM G H1 m1 M1 → RD G H1 m1 d v → f d M1 = some (r, M') → Fin G m1 H1 M' k → m <+: m1 → Ext G H H1 → Q v H1) : TEof G ev σ H Q := by
  cases q : ev ρ M with
  | none => rw [q] at e; cases e
  | some p =>
    obtain ⟨d, M1⟩ := p
    rw [q] at e
    exact ⟨m, M, ρ, d, M1, hρ, hM, q, fun m1 H1 a b c v rd => next m1 H1 M1 d v (hρ.mono a b) c rd e (fin.mono a b) a b⟩
theorem ta_bind {ev : EvL} {f : List D → Mem → R α} (hρ : Rho G H m ρ σ) (hM : RM G H m M) (e : bindO (ev ρ M) f = some (r, M')) (fin : Fin G m H M' k) {Q : List V → Hp → Prop}
    (next : ∀ m1 H1 M1 d v, Rho G H1 m1 ρ σ → RM G H1 m1 M1 → RDs G H1 m1 d v → f d M1 = some (r, M') → Fin G m1 H1 M' k → m <+: m1 → Ext G H H1 → Q v H1) : TAof G ev σ H Q := by
  cases q : ev ρ M with
  | none => rw [q] at e; cases e
  | some p =>
    obtain ⟨d, M1⟩ := p
    rw [q] at e
    exact ⟨m, M, ρ, d, M1, hρ, hM, q, fun m1 H1 a b c v rd => next m1 H1 M1 d v (hρ.mono a b) c rd e (fin.mono a b) a b⟩
theorem tt_bind {ev : EvB} {f : Bool → Mem → R α} (hρ : Rho G H m ρ σ) (hM : RM G H m M) (e : bindO (ev ρ M) f = some (r, M')) (fin : Fin G m H M' k) {Q : Bool → Hp → Prop}
    (next : ∀ m1 H1 M1 b, Rho G H1 m1 ρ σ → RM G H1 m1 M1 → f b M1 = some (r, M') → Fin G m1 H1 M' k → m <+: m1 → Ext G H H1 → Q b H1) : TTof G ev σ H Q := by
  cases q : ev ρ M with
  | none => rw [q] at e; cases e
  | some p =>
    obtain ⟨d, M1⟩ := p
    rw [q] at e
    exact ⟨m, M, ρ, d, M1, hρ, hM, q, fun m1 H1 a b c => next m1 H1 M1 d (hρ.mono a b) c e (fin.mono a b) a b⟩
end

/-! ### what operators come to -/
/-- the reading of an operator by data -/
def OpS (G : Gm) (f : D → D → Mem → R D) (r : R2) : Prop := ∀ m H M x y dx dy d M' Q, RM G H m M → RD G H m dx x → RD G H m dy y → f dx dy M = some (d, M') → (Fin G m H M' fun m' H' => ∀ v, RD G H' m' d v → Q v H') → r x y H Q
def CaS (G : Gm) (f : List D → Mem → R D) (r : List V → Hp → VK → Prop) : Prop := ∀ m H M xs ds d M' Q, RM G H m M → RDs G H m ds xs → f ds M = some (d, M') → (Fin G m H M' fun m' H' => ∀ v, RD G H' m' d v → Q v H') → r xs H Q
def orR (r q : R2) : R2 := fun x y H Q => r x y H Q ∨ q x y H Q
theorem opr_or {X : Cx} {f : Value → Value → Sem Value} {r q : R2} (a : OpR X f r) (b : OpR X f q) : OpR X f (orR r q) := fun pins s σ H x y v u Q I rx ry h => h.elim (a pins s σ H x y v u Q I rx ry) (b pins s σ H x y v u Q I rx ry)
def orC (r q : List V → Hp → VK → Prop) : List V → Hp → VK → Prop := fun xs H Q => r xs H Q ∨ q xs H Q
theorem car_or {X : Cx} {f : Value} {r q : List V → Hp → VK → Prop} (a : CallR X f r) (b : CallR X f q) : CallR X f (orC r q) := fun pins s σ H xs us Q I rx h => h.elim (a pins s σ H xs us Q I rx) (b pins s σ H xs us Q I rx)

section
variable {X : Cx} {pos p : Pos} {a b e : Expr} {eva evb : Ev}
abbrev GX (X : Cx) (fa : Nat → Addr) : Gm := ⟨X.K, fa⟩
variable {fa : Nat → Addr}

def eVar (i : Nat) : Ev := fun ρ M => match ρ[i]? with
  | some (some d) => some (d, M)
  | _ => none
theorem l_var (i : Nat) {x : Str} (hN : X.N[i]? = some x := by rfl) (hv : Vis X.env.scope x := by first | exact Or.inl rfl | exact Or.inr (Or.inl rfl) | exact Or.inr (Or.inr rfl)) (hd : (x == ("__debug__" : Str)) = false := by decide) (hcd : (x == ("__classdict__" : Str)) = false := by decide) :
    PE X (.Name x pos) (TEof (GX X fa) (eVar i)) := by
  refine (pe_var hN hv hd hcd).imp fun σ H Q ⟨m, M, ρ, d, M', hρ, hM, e, fin⟩ => ?_
  unfold eVar at e
  split at e
  · rename_i d' q
    cases e
    obtain ⟨v, q1, q2⟩ := hρ.at_ i _ q
    exact ⟨v, q1, fin.here hM v q2⟩
  · cases e
def eC (d : D) : Ev := fun _ M => some (d, M)
theorem l_int {i : Int} {j} : PE X (.Constant (.int i) j pos) (TEof (GX X fa) (eC (.int i))) :=
  pe_int.imp fun σ H Q ⟨m, M, ρ, d, M', hρ, hM, e, fin⟩ => by cases e; exact fin.here hM _ (.int i)
theorem l_bl {i : Bool} {j} : PE X (.Constant (.bool i) j pos) (TEof (GX X fa) (eC (.bl i))) :=
  pe_bl.imp fun σ H Q ⟨m, M, ρ, d, M', hρ, hM, e, fin⟩ => by cases e; exact fin.here hM _ (.bl i)
theorem l_str {i : Str} {j} : PE X (.Constant (.str i) j pos) (TEof (GX X fa) (eC (.str i))) :=
  pe_str.imp fun σ H Q ⟨m, M, ρ, d, M', hρ, hM, e, fin⟩ => by cases e; exact fin.here hM _ (.str i)
theorem l_non {j} : PE X (.Constant .none j pos) (TEof (GX X fa) (eC .non)) :=
  pe_non.imp fun σ H Q ⟨m, M, ρ, d, M', hρ, hM, e, fin⟩ => by cases e; exact fin.here hM _ .non

/-! arguments -/
def eNil : EvL := fun _ M => some ([], M)
def eCons (ev : Ev) (evs : EvL) : EvL := fun ρ M => bindO (ev ρ M) fun d M1 => bindO (evs ρ M1) fun ds M2 => some (d :: ds, M2)
theorem l_nil : PA X [] (TAof (GX X fa) eNil) := pa_nil.imp fun σ H Q ⟨m, M, ρ, d, M', hρ, hM, e, fin⟩ => by cases e; exact fin.here hM _ .nil
theorem l_cons {es : List Expr} {evs : EvL} (ha : PE X e (TEof (GX X fa) eva)) (hr : PA X es (TAof (GX X fa) evs)) (hs : starEach (e :: es) X.env = (false, eval e X.env) :: starEach es X.env := by rfl) : PA X (e :: es) (TAof (GX X fa) (eCons eva evs)) := by
  refine (pa_cons ha hr hs).imp fun σ H Q ⟨m, M, ρ, d, M', hρ, hM, e, fin⟩ => ?_
  refine te_bind hρ hM e fin fun m1 H1 M1 d1 v hρ1 hM1 rd e1 fin1 p1 x1 => ?_
  refine ta_bind hρ1 hM1 e1 fin1 fun m2 H2 M2 d2 vs hρ2 hM2 rds e2 fin2 p2 x2 => ?_
  cases e2
  exact fin2.here hM2 _ (.cons (rd.mono p2 x2) rds)

/-! displays -/
def eTup (evs : EvL) : Ev := fun ρ M => bindO (evs ρ M) fun ds M1 => if ds.length ≤ sizeLine then some (.tup ds, M1) else none
theorem l_tup {es : List Expr} {k : Nat} {evs : EvL} (h : PA X es (TAof (GX X fa) evs)) : PE X (.Tuple es k pos) (TEof (GX X fa) (eTup evs)) := by
  refine (pe_tup h).imp fun σ H Q ⟨m, M, ρ, d, M', hρ, hM, e, fin⟩ => ?_
  refine ta_bind hρ hM e fin fun m1 H1 M1 ds vs hρ1 hM1 rds e1 fin1 p1 x1 => ?_
  split at e1
  · rename_i hl
    cases e1
    refine ⟨by rw [← rds.length]; exact hl, fun p hp => ?_⟩
    refine fin1 m1 _ (List.prefix_refl _) (Ext.new hp) (hM1.new hp) _ ?_
    exact .tup (SqT.of upd_same) (rds.mono (List.prefix_refl _) (Ext.new hp))
  · cases e1
def eLst (evs : EvL) : Ev := fun ρ M => bindO (evs ρ M) fun ds M1 => if ds.length ≤ sizeLine then some (.ref M1.length, M1 ++ [.lst ds]) else none
/-- a new object of the memory -/
theorem fin_push {G : Gm} {m : List Addr} {H : Hp} {M : Mem} {o : MO} {ho : HO} {k : List Addr → Hp → Prop} {p : Addr} (fin : Fin G m H (M ++ [o]) k) (hM : RM G H m M) (hp : H p = none) (r : RO G (upd H p ho) (m ++ [p]) p o) : k (m ++ [p]) (upd H p ho) :=
  fin _ _ (List.prefix_append _ _) (Ext.new hp) (hM.push hp r)
theorem ref_last {G : Gm} {m : List Addr} {H H' : Hp} {M : Mem} {p : Addr} (hM : RM G H m M) : RD G H' (m ++ [p]) (.ref M.length) (.ref p) :=
  .ref (by rw [← hM.len, List.getElem?_append_right (Nat.le_refl _), Nat.sub_self]; rfl)
theorem l_lst {es : List Expr} {evs : EvL} (h : PA X es (TAof (GX X fa) evs)) : PE X (.List es pos) (TEof (GX X fa) (eLst evs)) := by
  refine (pe_lst h).imp fun σ H Q ⟨m, M, ρ, d, M', hρ, hM, e, fin⟩ => ?_
  refine ta_bind hρ hM e fin fun m1 H1 M1 ds vs hρ1 hM1 rds e1 fin1 p1 x1 => ?_
  split at e1
  · rename_i hl
    cases e1
    refine ⟨by rw [← rds.length]; exact hl, fun p hp => ?_⟩
    exact fin_push fin1 hM1 hp ⟨vs, upd_same, rds.mono (List.prefix_append _ _) (Ext.new hp)⟩ _ (ref_last hM1)
  · cases e1

/-! operators -/
def eBin (f : D → D → Mem → R D) (eva evb : Ev) : Ev := fun ρ M => bindO (eva ρ M) fun x M1 => bindO (evb ρ M1) fun y M2 => f x y M2
theorem bin_split {r : R2} {f : D → D → Mem → R D} (os : OpS (GX X fa) f r) {σ : L2.St} {H : Hp} {Q : VK} (h : TEof (GX X fa) (eBin f eva evb) σ H Q) : tOp r (TEof (GX X fa) eva) (TEof (GX X fa) evb) σ H Q := by
  obtain ⟨m, M, ρ, d, M', hρ, hM, e, fin⟩ := h
  refine te_bind hρ hM e fin fun m1 H1 M1 d1 v hρ1 hM1 rd e1 fin1 p1 x1 => ?_
  refine te_bind hρ1 hM1 e1 fin1 fun m2 H2 M2 d2 w hρ2 hM2 rd2 e2 fin2 p2 x2 => ?_
  exact os m2 H2 M2 v w d1 d2 d M' Q hM2 (rd.mono p2 x2) rd2 e2 fin2
theorem l_bin {op : Operator} {r : R2} {f : D → D → Mem → R D} (ho : OpR X (binaryOp op) r) (os : OpS (GX X fa) f r) (ha : PE X a (TEof (GX X fa) eva)) (hb : PE X b (TEof (GX X fa) evb)) : PE X (.BinOp a op b pos) (TEof (GX X fa) (eBin f eva evb)) :=
  (pe_op ho ha hb).imp fun _ _ _ h => bin_split os h
theorem l_cmp {op : CmpOp} {r : R2} {f : D → D → Mem → R D} (ho : OpR X (compareOp op) r) (os : OpS (GX X fa) f r) (ha : PE X a (TEof (GX X fa) eva)) (hb : PE X b (TEof (GX X fa) evb)) (hm : behindInMarks op b = false := by first | exact nomark _ | rfl | with_unfolding_all rfl) : PE X (.Compare a [op] [b] pos) (TEof (GX X fa) (eBin f eva evb)) :=
  (pe_cmpR ho ha hb hm).imp fun _ _ _ h => bin_split os h
/-- a bool -/
def bOf (ev : Ev) : EvB := fun ρ M => bindO (ev ρ M) fun d M1 => match d with
  | .bl b => some (b, M1)
  | _ => none
theorem bOf_split {ev : Ev} {σ : L2.St} {H : Hp} {Q : Bool → Hp → Prop} (h : TTof (GX X fa) (bOf ev) σ H Q) : TEof (GX X fa) ev σ H fun x H1 => ∃ c, x = .bl c ∧ Q c H1 := by
  obtain ⟨m, M, ρ, d, M', hρ, hM, e, fin⟩ := h
  refine te_bind hρ hM e fin fun m1 H1 M1 d1 v hρ1 hM1 rd e1 fin1 p1 x1 => ?_
  cases rd with
  | bl c => cases e1; exact ⟨_, rfl, fin1.here hM1⟩
  | non => cases e1
  | int i => cases e1
  | str x => cases e1
  | tup _ _ => cases e1
  | ref _ => cases e1
  | fn _ => cases e1
theorem l_tval (h : PE X e (TEof (GX X fa) eva)) (he : ∀ whole, isTrue e X.env whole = (do let v ← whole; standAt e.pos; holding [v] (truthy v)) := by intro _; rfl) : PT X e (TTof (GX X fa) (bOf eva)) :=
  (pt_val h he).imp fun _ _ _ h => bOf_split h
theorem l_tcmp {op : CmpOp} {r : R2} {f : D → D → Mem → R D} (ho : OpR X (compareOp op) r) (os : OpS (GX X fa) f r) (ha : PE X a (TEof (GX X fa) eva)) (hb : PE X b (TEof (GX X fa) evb)) (hm : behindInMarks op b = false := by first | exact nomark _ | rfl | with_unfolding_all rfl) : PT X (.Compare a [op] [b] pos) (TTof (GX X fa) (bOf (eBin f eva evb))) :=
  (pt_cmpR ho ha hb hm).imp fun _ _ _ h => by
    obtain ⟨m, M, ρ, d, M', hρ, hM, e, fin⟩ := bOf_split h
    exact bin_split os ⟨m, M, ρ, d, M', hρ, hM, e, fin⟩

/-! and, or, not, if -/
def bAnd (t u : EvB) : EvB := fun ρ M => bindO (t ρ M) fun c M1 => if c = true then u ρ M1 else some (false, M1)
def bOr (t u : EvB) : EvB := fun ρ M => bindO (t ρ M) fun c M1 => if c = true then some (true, M1) else u ρ M1
def bNot (t : EvB) : EvB := fun ρ M => bindO (t ρ M) fun c M1 => some (!c, M1)
variable {t u : EvB} {rest : List Expr}
theorem l_wand1 (ha : PT X a (TTof (GX X fa) t)) : PW X (.BoolOp .And [a] pos) (TTof (GX X fa) t) := pw_and1 ha
theorem l_wor1 (ha : PT X a (TTof (GX X fa) t)) : PW X (.BoolOp .Or [a] pos) (TTof (GX X fa) t) := pw_or1 ha
theorem l_wand (ha : PT X a (TTof (GX X fa) t)) (hb : PW X (.BoolOp .And (b :: rest) pos) (TTof (GX X fa) u)) : PW X (.BoolOp .And (a :: b :: rest) pos) (TTof (GX X fa) (bAnd t u)) := by
  refine (pw_and ha hb).imp fun σ H Q ⟨m, M, ρ, d, M', hρ, hM, e, fin⟩ => ?_
  refine tt_bind hρ hM e fin fun m1 H1 M1 c hρ1 hM1 e1 fin1 p1 x1 => ?_
  cases c with
  | true => rw [if_pos rfl] at e1; rw [if_pos rfl]; exact ⟨m1, M1, ρ, d, M', hρ1, hM1, e1, fin1⟩
  | false => rw [if_neg (by decide)] at e1; rw [if_neg (by decide)]; cases e1; exact fin1.here hM1
theorem l_wor (ha : PT X a (TTof (GX X fa) t)) (hb : PW X (.BoolOp .Or (b :: rest) pos) (TTof (GX X fa) u)) : PW X (.BoolOp .Or (a :: b :: rest) pos) (TTof (GX X fa) (bOr t u)) := by
  refine (pw_or ha hb).imp fun σ H Q ⟨m, M, ρ, d, M', hρ, hM, e, fin⟩ => ?_
  refine tt_bind hρ hM e fin fun m1 H1 M1 c hρ1 hM1 e1 fin1 p1 x1 => ?_
  cases c with
  | true => rw [if_pos rfl] at e1; rw [if_pos rfl]; cases e1; exact fin1.here hM1
  | false => rw [if_neg (by decide)] at e1; rw [if_neg (by decide)]; exact ⟨m1, M1, ρ, d, M', hρ1, hM1, e1, fin1⟩
theorem l_tw (h : PW X e (TTof (GX X fa) t)) : PT X e (TTof (GX X fa) t) := h.pt
theorem l_tnot (ha : PT X a (TTof (GX X fa) t)) : PT X (.UnaryOp .Not a pos) (TTof (GX X fa) (bNot t)) := by
  refine (pt_not ha).imp fun σ H Q ⟨m, M, ρ, d, M', hρ, hM, e, fin⟩ => ?_
  refine tt_bind hρ hM e fin fun m1 H1 M1 c hρ1 hM1 e1 fin1 p1 x1 => ?_
  cases e1
  exact fin1.here hM1
/-- as values, all of them bools -/
def eAnd (x y : Ev) : Ev := fun ρ M => bindO (bOf x ρ M) fun c M1 => if c = true then y ρ M1 else some (.bl false, M1)
def eOr (x y : Ev) : Ev := fun ρ M => bindO (bOf x ρ M) fun c M1 => if c = true then some (.bl true, M1) else y ρ M1
def eNot (x : Ev) : Ev := fun ρ M => bindO (bOf x ρ M) fun c M1 => some (.bl (!c), M1)
theorem b_bind {G : Gm} {α : Type} {m : List Addr} {M M' : Mem} {ρ : Loc} {σ : L2.St} {H : Hp} {r : α} {k : List Addr → Hp → Prop} {ev : Ev} {f : Bool → Mem → R α} (hρ : Rho G H m ρ σ) (hM : RM G H m M) (e : bindO (bOf ev ρ M) f = some (r, M')) (fin : Fin G m H M' k) {Q : VK}
    (next : ∀ m1 H1 M1 b, Rho G H1 m1 ρ σ → RM G H1 m1 M1 → f b M1 = some (r, M') → Fin G m1 H1 M' k → Q (.bl b) H1) : TEof G ev σ H Q := by
  have e' : bindO (ev ρ M) (fun d M1 => match d with
    | .bl b => f b M1
    | _ => none) = some (r, M') := by
    rw [← e]
    unfold bOf
    cases ev ρ M with
    | none => rfl
    | some p =>
      obtain ⟨d, M1⟩ := p
      cases d <;> rfl
  refine te_bind hρ hM e' fin fun m1 H1 M1 d1 v hρ1 hM1 rd e1 fin1 p1 x1 => ?_
  cases rd with
  | bl b => exact next m1 H1 M1 b hρ1 hM1 e1 fin1
  | non => cases e1
  | int i => cases e1
  | str x => cases e1
  | tup _ _ => cases e1
  | ref _ => cases e1
  | fn _ => cases e1
theorem l_one {op} (h : PE X a (TEof (GX X fa) eva)) : PE X (.BoolOp op [a] pos) (TEof (GX X fa) eva) := pe_one h
theorem l_and (ha : PE X a (TEof (GX X fa) eva)) (hb : PE X (.BoolOp .And (b :: rest) pos) (TEof (GX X fa) evb)) : PE X (.BoolOp .And (a :: b :: rest) pos) (TEof (GX X fa) (eAnd eva evb)) := by
  refine (pe_and ha hb).imp fun σ H Q ⟨m, M, ρ, d, M', hρ, hM, e, fin⟩ => ?_
  refine b_bind hρ hM e fin fun m1 H1 M1 c hρ1 hM1 e1 fin1 => ⟨c, rfl, ?_⟩
  cases c with
  | true => rw [if_pos rfl] at e1; rw [if_pos rfl]; exact ⟨m1, M1, ρ, d, M', hρ1, hM1, e1, fin1⟩
  | false => rw [if_neg (by decide)] at e1; rw [if_neg (by decide)]; cases e1; exact fin1.here hM1 _ (.bl false)
theorem l_or (ha : PE X a (TEof (GX X fa) eva)) (hb : PE X (.BoolOp .Or (b :: rest) pos) (TEof (GX X fa) evb)) : PE X (.BoolOp .Or (a :: b :: rest) pos) (TEof (GX X fa) (eOr eva evb)) := by
  refine (pe_or ha hb).imp fun σ H Q ⟨m, M, ρ, d, M', hρ, hM, e, fin⟩ => ?_
  refine b_bind hρ hM e fin fun m1 H1 M1 c hρ1 hM1 e1 fin1 => ⟨c, rfl, ?_⟩
  cases c with
  | true => rw [if_pos rfl] at e1; rw [if_pos rfl]; cases e1; exact fin1.here hM1 _ (.bl true)
  | false => rw [if_neg (by decide)] at e1; rw [if_neg (by decide)]; exact ⟨m1, M1, ρ, d, M', hρ1, hM1, e1, fin1⟩
theorem l_not (ha : PE X a (TEof (GX X fa) eva)) : PE X (.UnaryOp .Not a pos) (TEof (GX X fa) (eNot eva)) := by
  refine (pe_not ha).imp fun σ H Q ⟨m, M, ρ, d, M', hρ, hM, e, fin⟩ => ?_
  refine b_bind hρ hM e fin fun m1 H1 M1 c hρ1 hM1 e1 fin1 => ⟨c, rfl, ?_⟩
  cases e1
  exact fin1.here hM1 _ (.bl _)
def eIf (t : EvB) (x y : Ev) : Ev := fun ρ M => bindO (t ρ M) fun c M1 => if c = true then x ρ M1 else y ρ M1
theorem l_if {c : Expr} (hc : PT X c (TTof (GX X fa) t)) (ha : PE X a (TEof (GX X fa) eva)) (hb : PE X b (TEof (GX X fa) evb)) : PE X (.IfExp c a b pos) (TEof (GX X fa) (eIf t eva evb)) := by
  refine (pe_ifExp hc ha hb).imp fun σ H Q ⟨m, M, ρ, d, M', hρ, hM, e, fin⟩ => ?_
  refine tt_bind hρ hM e fin fun m1 H1 M1 c hρ1 hM1 e1 fin1 p1 x1 => ?_
  cases c with
  | true => rw [if_pos rfl] at e1; rw [if_pos rfl]; exact ⟨m1, M1, ρ, d, M', hρ1, hM1, e1, fin1⟩
  | false => rw [if_neg (by decide)] at e1; rw [if_neg (by decide)]; exact ⟨m1, M1, ρ, d, M', hρ1, hM1, e1, fin1⟩

/-! calls of built-ins by name -/
def eCall (f : List D → Mem → R D) (evs : EvL) : Ev := fun ρ M => bindO (evs ρ M) f
theorem call_split {r : List V → Hp → VK → Prop} {f : List D → Mem → R D} {evs : EvL} (os : CaS (GX X fa) f r) {σ : L2.St} {H : Hp} {Q : VK} (h : TEof (GX X fa) (eCall f evs) σ H Q) : tCB r (TAof (GX X fa) evs) σ H Q := by
  obtain ⟨m, M, ρ, d, M', hρ, hM, e, fin⟩ := h
  refine ta_bind hρ hM e fin fun m1 H1 M1 ds vs hρ1 hM1 rd e1 fin1 p1 x1 => ?_
  exact os m1 H1 M1 vs ds d M' Q hM1 rd e1 fin1
theorem l_callB {id : String} {r : List V → Hp → VK → Prop} {f : List D → Mem → R D} {x : Str} {es : List Expr} {evs : EvL} (hc : CallR X (.builtin id) r) (os : CaS (GX X fa) f r) (hv : bootBuiltins x = some (.builtin id)) (hm : X.mg x = none) (ha : PA X (e :: es) (TAof (GX X fa) evs)) (hg : Gl X x := by rfl) (hn : x ≠ "__name__" := by decide) (hdb : (x == ("__debug__" : Str)) = false := by decide)
    (he : starEach (e :: es) X.env = (false, eval e X.env) :: starEach es X.env := by rfl) (hpl : (backTo pos (starEach es X.env)).any (·.1) = false := by rfl) : PE X (.Call (.Name x p) (e :: es) [] pos) (TEof (GX X fa) (eCall f evs)) :=
  (pe_callB hc hg hm hv ha hn hdb he hpl).imp fun _ _ _ h => call_split os h
theorem l_callT {id : String} {r : List V → Hp → VK → Prop} {f : List D → Mem → R D} {x : Str} {es : List Expr} {evs : EvL} (hc : CallR X (.type id) r) (os : CaS (GX X fa) f r) (hv : bootBuiltins x = some (.type id)) (hm : X.mg x = none) (ha : PA X (e :: es) (TAof (GX X fa) evs)) (hg : Gl X x := by rfl) (hn : x ≠ "__name__" := by decide) (hdb : (x == ("__debug__" : Str)) = false := by decide)
    (he : starEach (e :: es) X.env = (false, eval e X.env) :: starEach es X.env := by rfl) (hpl : (backTo pos (starEach es X.env)).any (·.1) = false := by rfl) : PE X (.Call (.Name x p) (e :: es) [] pos) (TEof (GX X fa) (eCall f evs)) :=
  (pe_callTy hc hg hm hv ha hn hdb he hpl).imp fun _ _ _ h => call_split os h

/-! own defs -/
/-- what a def promises, by data -/
def SpOf (G : Gm) (n : Nat) (g : List D → Mem → R D) : Sp := fun vs H Q _ => vs.length = n ∧ ∃ m M ds d M', RDs G H m ds vs ∧ RM G H m M ∧ g ds M = some (d, M') ∧ Fin G m H M' fun m' H' => ∀ v, RD G H' m' d v → Q v H'
theorem l_call {k : Nat} {f : Addr} {fd : FuncData} {ps : List Str} {g : List D → Mem → R D} {x : Str} {es : List Expr} {evs : EvL} (F : FnOk X.prog X.w X.K X.mg X.base CX0 k f fd ps (SpOf (GX X fa) (es.length + 1) g)) (hr : Room k X.A) (hm : X.mg x = some (.ref f)) (hk : PySem.W.keepIn X.K (.ref f) = true) (hb : Binds X.K fd ps [])
    (ha : PA X (e :: es) (TAof (GX X fa) evs)) (hl : ∀ ρ M ds M', evs ρ M = some (ds, M') → ds.length = es.length + 1) (hg : Gl X x := by rfl) (hdb : (x == ("__debug__" : Str)) = false := by decide) (he : starEach (e :: es) X.env = (false, eval e X.env) :: starEach es X.env := by rfl) (hpl : (backTo pos (starEach es X.env)).any (·.1) = false := by rfl) :
    PE X (.Call (.Name x p) (e :: es) [] pos) (TEof (GX X fa) (eCall g evs)) := by
  refine (pe_call (E := fun _ _ _ => False) F hr hg hm hk hb .nil pass0 ha hdb he hpl).imp fun σ H Q h => ?_
  obtain ⟨m, M, ρ, d, M', hρ, hM, e, fin⟩ := h
  have hl' := hl ρ M
  cases q : evs ρ M with
  | none =>
    unfold eCall at e
    rw [q] at e
    cases e
  | some p =>
    obtain ⟨ds, M1⟩ := p
    unfold eCall at e
    rw [q] at e
    refine ⟨m, M, ρ, ds, M1, hρ, hM, q, fun m1 H1 a b c vs rds => ?_⟩
    show SpOf (GX X fa) (es.length + 1) g (vs ++ []) H1 Q fun x x_1 x_2 => False
    rw [List.append_nil]
    exact ⟨by rw [← rds.length]; exact hl' ds M1 q, m1, M1, ds, d, M', rds, c, e, fin.mono a b⟩
theorem len_nil : ∀ ρ M ds M', eNil ρ M = some (ds, M') → ds.length = 0 := fun ρ M ds M' h => by cases h; rfl
theorem len_cons {ev : Ev} {evs : EvL} {n : Nat} (h : ∀ ρ M ds M', evs ρ M = some (ds, M') → ds.length = n) : ∀ ρ M ds M', eCons ev evs ρ M = some (ds, M') → ds.length = n + 1 := fun ρ M ds M' e => by
  unfold eCons at e
  cases q : ev ρ M with
  | none => rw [q] at e; cases e
  | some p =>
    rw [q] at e
    have e' : bindO (evs ρ p.2) (fun ds M2 => some (p.1 :: ds, M2)) = some (ds, M') := e
    cases q2 : evs ρ p.2 with
    | none => rw [q2] at e'; cases e'
    | some p2 =>
      rw [q2] at e'
      have e2 : some (p.1 :: p2.1, p2.2) = some (ds, M') := e'
      cases e2
      rw [List.length_cons, h ρ _ p2.1 p2.2 q2]
theorem l_call0 {k : Nat} {f : Addr} {fd : FuncData} {ps : List Str} {g : List D → Mem → R D} {x : Str} (F : FnOk X.prog X.w X.K X.mg X.base CX0 k f fd ps (SpOf (GX X fa) 0 g)) (hr : Room k X.A) (hm : X.mg x = some (.ref f)) (hk : PySem.W.keepIn X.K (.ref f) = true) (hb : Binds X.K fd ps [])
    (hg : Gl X x := by rfl) (hdb : (x == ("__debug__" : Str)) = false := by decide) : PE X (.Call (.Name x p) [] [] pos) (TEof (GX X fa) (eCall g eNil)) := by
  refine (pe_call0 (E := fun _ _ _ => False) F hr hg hm hk hb .nil pass0 hdb).imp fun σ H Q h => ?_
  obtain ⟨m, M, ρ, d, M', hρ, hM, e, fin⟩ := h
  exact ⟨rfl, m, M, [], d, M', .nil, hM, e, fin⟩
end
end Mi
set_option Elab.async false
set_option linter.all false
set_option maxRecDepth 100000
namespace Mi
open PySem PySem.Spec PyProof.Rows L2

/-- how a statement ends -/
inductive Fl where
  | next (ρ : Loc) | ret (d : D) | brk (ρ : Loc) | cont (ρ : Loc)
  /-- raised: the slots then, the class by number, the value -/
  | exc (ρ : Loc) (c : Nat) (v : D)
abbrev Es := Loc → Mem → R Fl
def EndsOk (W : WX) (G : Gm) (D : Ends) : Fl → List Addr → Hp → Prop
  | .next ρ => fun m H => ∀ σ, Rho G H m ρ σ → D.nx σ H
  | .ret d => fun m H => ∀ v, RD G H m d v → D.rt v H
  | .brk ρ => fun m H => ∀ σ, Rho G H m ρ σ → D.bk σ H
  | .cont ρ => fun m H => ∀ σ, Rho G H m ρ σ → D.ct σ H
  | .exc ρ c x => fun m H => ∀ σ dd w, Rho G H m ρ σ → H dd = some (.xd [("value", w)]) → RD G H m x w → W (.ref (G.fa c)) (some dd) σ H
def TSw (W : WX) (G : Gm) (ev : Es) : TS := fun D σ H => ∃ m M ρ o M', Rho G H m ρ σ ∧ RM G H m M ∧ ev ρ M = some (o, M') ∧ Fin G m H M' (EndsOk W G D o)
abbrev noW : WX := fun _ _ _ _ => False
abbrev TSof (G : Gm) (ev : Es) : TS := TSw noW G ev

section
variable {X : Cx} {pos p : Pos} {a b e : Expr} {eva evb : Ev} {fa : Nat → Addr} {st : Stmt} {rest : List Stmt} {s1 s2 : Es} {t : EvB} {W : WX}
def sNil : Es := fun ρ M => some (.next ρ, M)
theorem l_snil : PSs X [] (TSw W (GX X fa) sNil) := pss_nil.imp fun D σ H ⟨m, M, ρ, o, M', hρ, hM, e, fin⟩ => by cases e; exact fin.here hM σ hρ
def sSeq (x y : Es) : Es := fun ρ M => bindO (x ρ M) fun o M1 => match o with
  | .next ρ1 => y ρ1 M1
  | o => some (o, M1)
theorem l_seq (h1 : PS X st (TSw W (GX X fa) s1)) (h2 : PSs X rest (TSw W (GX X fa) s2)) : PSs X (st :: rest) (TSw W (GX X fa) (sSeq s1 s2)) := by
  refine (pss_cons h1 h2).imp fun D σ H ⟨m, M, ρ, o, M', hρ, hM, e, fin⟩ => ?_
  unfold sSeq at e
  cases q : s1 ρ M with
  | none => rw [q] at e; cases e
  | some pr =>
    obtain ⟨o1, M1⟩ := pr
    rw [q] at e
    refine ⟨m, M, ρ, o1, M1, hρ, hM, q, fun m1 H1 x y z => ?_⟩
    cases o1 with
    | next ρ1 => exact fun σ1 hρ1 => ⟨m1, M1, ρ1, o, M', hρ1, z, e, fin.mono x y⟩
    | ret d => cases e; exact (fin.mono x y).here z
    | brk ρ1 => cases e; exact (fin.mono x y).here z
    | cont ρ1 => cases e; exact (fin.mono x y).here z
    | exc ρ1 c v => cases e; exact (fin.mono x y).here z
theorem l_sone (h1 : PS X st (TSw W (GX X fa) s1)) : PSs X [st] (TSw W (GX X fa) s1) := pss_one h1
def sRet (ev : Ev) : Es := fun ρ M => bindO (ev ρ M) fun d M1 => some (.ret d, M1)
theorem l_ret (he : PE X e (TEof (GX X fa) eva)) : PS X (.Return (some e) pos) (TSw W (GX X fa) (sRet eva)) := by
  refine (ps_ret he).imp fun D σ H ⟨m, M, ρ, o, M', hρ, hM, e, fin⟩ => ?_
  refine te_bind hρ hM e fin fun m1 H1 M1 d1 v hρ1 hM1 rd e1 fin1 p1 x1 => ?_
  cases e1
  exact fin1.here hM1 v rd
def sRetN : Es := fun _ M => some (.ret .non, M)
theorem l_retN : PS X (.Return none pos) (TSw W (GX X fa) sRetN) := ps_retN.imp fun D σ H ⟨m, M, ρ, o, M', hρ, hM, e, fin⟩ => by cases e; exact fin.here hM _ .non
def sPass : Es := fun ρ M => some (.next ρ, M)
theorem l_pass : PS X (.Pass pos) (TSw W (GX X fa) sPass) := ps_pass.imp fun D σ H ⟨m, M, ρ, o, M', hρ, hM, e, fin⟩ => by cases e; exact fin.here hM σ hρ
def sBrk : Es := fun ρ M => some (.brk ρ, M)
theorem l_brk : PS X (.Break pos) (TSw W (GX X fa) sBrk) := ps_break.imp fun D σ H ⟨m, M, ρ, o, M', hρ, hM, e, fin⟩ => by cases e; exact fin.here hM σ hρ
def sCont : Es := fun ρ M => some (.cont ρ, M)
theorem l_cont : PS X (.Continue pos) (TSw W (GX X fa) sCont) := ps_continue.imp fun D σ H ⟨m, M, ρ, o, M', hρ, hM, e, fin⟩ => by cases e; exact fin.here hM σ hρ
def sDrop (ev : Ev) : Es := fun ρ M => bindO (ev ρ M) fun _ M1 => some (.next ρ, M1)
theorem l_expr (he : PE X e (TEof (GX X fa) eva)) (hs : swapsWith e none pos.line X.env = pure false := by rfl) : PS X (.Expr e pos) (TSw W (GX X fa) (sDrop eva)) := by
  refine (ps_expr he hs).imp fun D σ H ⟨m, M, ρ, o, M', hρ, hM, e, fin⟩ => ?_
  refine te_bind hρ hM e fin fun m1 H1 M1 d1 v hρ1 hM1 rd e1 fin1 p1 x1 => ?_
  cases e1
  exact fin1.here hM1 σ hρ1
def sIf (t : EvB) (x y : Es) : Es := fun ρ M => bindO (t ρ M) fun c M1 => if c = true then x ρ M1 else y ρ M1
theorem l_sif {c : Expr} {xs ys : List Stmt} (hc : PT X c (TTof (GX X fa) t)) (hx : PSs X xs (TSw W (GX X fa) s1)) (hy : PSs X ys (TSw W (GX X fa) s2)) : PS X (.If c xs ys pos) (TSw W (GX X fa) (sIf t s1 s2)) := by
  refine (ps_if hc hx hy).imp fun D σ H ⟨m, M, ρ, o, M', hρ, hM, e, fin⟩ => ?_
  refine tt_bind hρ hM e fin fun m1 H1 M1 c hρ1 hM1 e1 fin1 p1 x1 => ?_
  cases c with
  | true => rw [if_pos rfl] at e1; rw [if_pos rfl]; exact ⟨m1, M1, ρ, o, M', hρ1, hM1, e1, fin1⟩
  | false => rw [if_neg (by decide)] at e1; rw [if_neg (by decide)]; exact ⟨m1, M1, ρ, o, M', hρ1, hM1, e1, fin1⟩

/-! targets: which slots, and how -/
def TGof (G : Gm) (vs : List Nat) (g : D → Loc → Option Loc) : TG := fun v σ H Q => ∃ m ρ d ρ', Rho G H m ρ σ ∧ RD G H m d v ∧ g d ρ = some ρ' ∧ ∀ σ', Rho G H m ρ' σ' → (σ'.length = σ.length ∧ ∀ j, j ∉ vs → σ'[j]? = σ[j]?) → Q σ' H
def TGsof (G : Gm) (vs : List Nat) (g : List D → Loc → Option Loc) : TGs := fun ws σ H Q => ∃ m ρ ds ρ', Rho G H m ρ σ ∧ RDs G H m ds ws ∧ g ds ρ = some ρ' ∧ ∀ σ', Rho G H m ρ' σ' → (σ'.length = σ.length ∧ ∀ j, j ∉ vs → σ'[j]? = σ[j]?) → Q σ' H
def gN (i : Nat) : D → Loc → Option Loc := fun d ρ => some (ρ.set i (some d))
def gsNil : List D → Loc → Option Loc := fun ds ρ => match ds with
  | [] => some ρ
  | _ => none
def gsCons (g : D → Loc → Option Loc) (gs : List D → Loc → Option Loc) : List D → Loc → Option Loc := fun ds ρ => match ds with
  | d :: r => (g d ρ).bind (gs r)
  | [] => none
def gT (gs : List D → Loc → Option Loc) : D → Loc → Option Loc := fun d ρ => match d with
  | .tup ds => gs ds ρ
  | _ => none
theorem PG.imp {X : Cx} {e : Expr} {t t' : TG} (h : PG X e t) (i : ∀ v σ H Q, t' v σ H Q → t v σ H Q) : PG X e t' := ⟨fun p s σ H v u Q I r q => h.run p s σ H v u Q I r (i v σ H Q q)⟩
theorem PGs.imp {X : Cx} {e : List Expr} {t t' : TGs} (h : PGs X e t) (i : ∀ v σ H Q, t' v σ H Q → t v σ H Q) : PGs X e t' := ⟨fun p s σ H v u Q I r q => h.run p s σ H v u Q I r (i v σ H Q q)⟩
theorem l_gname (i : Nat) {x : Str} (hN : X.N.Nodup) (hi : X.N[i]? = some x := by rfl) (hx : L2.Loc X.env.scope x := by first | exact Or.inl rfl | exact Or.inr rfl) (hf : X.fn x = true ∨ X.env.scope.names.lookup x = some .local := by first | exact .inl rfl | exact .inr rfl) : PG X (.Name x pos) (TGof (GX X fa) [i] (gN i)) := by
  refine PG.imp (pg_name hN hi hx hf) fun v σ H Q ⟨m, ρ, d, ρ', hρ, rd, e, k⟩ => ?_
  cases e
  exact k _ (hρ.set i rd) ⟨List.length_set, fun j hj => by rw [List.getElem?_set_ne (fun z => hj (by rw [z]; exact List.mem_singleton.mpr rfl))]⟩
theorem l_gsnil : PGs X [] (TGsof (GX X fa) [] gsNil) := by
  refine PGs.imp pgs_nil fun v σ H Q ⟨m, ρ, ds, ρ', hρ, rd, e, k⟩ => ?_
  cases rd with
  | nil => cases e; exact ⟨rfl, k σ hρ ⟨rfl, fun _ _ => rfl⟩⟩
  | cons _ _ => cases e
theorem l_gscons {es : List Expr} {vs ws : List Nat} {g : D → Loc → Option Loc} {gs : List D → Loc → Option Loc} (h1 : PG X e (TGof (GX X fa) vs g)) (h2 : PGs X es (TGsof (GX X fa) ws gs))
    (hs : (assignEach (e :: es) X.env).map (·.2) = assign e X.env :: (assignEach es X.env).map (·.2) := by rfl) : PGs X (e :: es) (TGsof (GX X fa) (vs ++ ws) (gsCons g gs)) := by
  refine PGs.imp (pgs_cons h1 h2 hs) fun v σ H Q ⟨m, ρ, ds, ρ', hρ, rd, e, k⟩ => ?_
  cases rd with
  | nil => cases e
  | @cons d ds v vr r rr =>
    have e' : (g d ρ).bind (gs ds) = some ρ' := e
    cases q : g d ρ with
    | none => rw [q] at e'; cases e'
    | some ρ1 =>
      rw [q] at e'
      refine ⟨v, vr, rfl, m, ρ, d, ρ1, hρ, r, q, fun σ1 hρ1 o1 => ?_⟩
      exact ⟨m, ρ1, ds, ρ', hρ1, rr, e', fun σ2 hρ2 o2 => k σ2 hρ2 ⟨o2.1.trans o1.1, fun j hj => (o2.2 j fun z => hj (List.mem_append_right _ z)).trans (o1.2 j fun z => hj (List.mem_append_left _ z))⟩⟩
theorem gs_len : ∀ {gs : List D → Loc → Option Loc}, True := trivial
theorem l_gtup {es : List Expr} {k : Nat} {vs : List Nat} {gs : List D → Loc → Option Loc} (h : PGs X es (TGsof (GX X fa) vs gs)) (hl : ∀ ds ρ ρ', gs ds ρ = some ρ' → ds.length = es.length) (hc : X.calm = true := by rfl)
    (hn : (assignEach es X.env).length = es.length := by rfl) (hst : (assignEach es X.env).findIdx? (·.1) = none := by rfl) : PG X (.Tuple es k pos) (TGof (GX X fa) vs (gT gs)) := by
  refine PG.imp (pg_tup hc h hn hst) fun v σ H Q ⟨m, ρ, d, ρ', hρ, rd, e, kk⟩ => ?_
  cases rd with
  | @tup a ds xs hs rds => exact ⟨a, xs, rfl, hs, by rw [← rds.length]; exact hl ds ρ ρ' e, m, ρ, ds, ρ', hρ, rds, e, kk⟩
  | non => cases e
  | bl _ => cases e
  | int _ => cases e
  | str _ => cases e
  | ref _ => cases e
  | fn _ => cases e
theorem glen_nil : ∀ ds ρ ρ', gsNil ds ρ = some ρ' → ds.length = 0 := fun ds ρ ρ' e => by
  cases ds with
  | nil => rfl
  | cons _ _ => cases e
theorem glen_cons {g : D → Loc → Option Loc} {gs : List D → Loc → Option Loc} {n : Nat} (h : ∀ ds ρ ρ', gs ds ρ = some ρ' → ds.length = n) : ∀ ds ρ ρ', gsCons g gs ds ρ = some ρ' → ds.length = n + 1 := fun ds ρ ρ' e => by
  cases ds with
  | nil => cases e
  | cons d r =>
    have e' : (g d ρ).bind (gs r) = some ρ' := e
    cases q : g d ρ with
    | none => rw [q] at e'; cases e'
    | some ρ1 =>
      rw [q] at e'
      rw [List.length_cons, h r ρ1 ρ' e']

/-- name = e -/
def sSet (i : Nat) (ev : Ev) : Es := fun ρ M => bindO (ev ρ M) fun d M1 => some (.next (ρ.set i (some d)), M1)
theorem l_set (i : Nat) {x : Str} {pos' : Pos} (hN : X.N.Nodup) (he : PE X e (TEof (GX X fa) eva)) (hi : X.N[i]? = some x := by rfl) (hx : L2.Loc X.env.scope x := by first | exact Or.inl rfl | exact Or.inr rfl) (hs : swapsWith e (some (.Name x pos')) pos.line X.env = pure false := by rfl) (hf : X.fn x = true ∨ X.env.scope.names.lookup x = some .local := by first | exact .inl rfl | exact .inr rfl) :
    PS X (.Assign [.Name x pos'] e pos) (TSw W (GX X fa) (sSet i eva)) := by
  refine (ps_set hN hi hx he hs hf).imp fun D σ H ⟨m, M, ρ, o, M', hρ, hM, e, fin⟩ => ?_
  refine te_bind hρ hM e fin fun m1 H1 M1 d1 v hρ1 hM1 rd e1 fin1 p1 x1 => ?_
  cases e1
  exact fin1.here hM1 _ (hρ1.set i rd)
/-- target = e -/
def sAsg (g : D → Loc → Option Loc) (ev : Ev) : Es := fun ρ M => bindO (ev ρ M) fun d M1 => (g d ρ).map fun ρ1 => (.next ρ1, M1)
theorem l_asg {tg : Expr} {vs : List Nat} {g : D → Loc → Option Loc} (he : PE X e (TEof (GX X fa) eva)) (hg : PG X tg (TGof (GX X fa) vs g)) (hs : swapsWithSole [tg] e pos.line X.env = pure false := by rfl) (hw : swappedStores [tg] e X.env = pure none := by rfl)
    (h1 : (assignEach [tg] X.env).map (·.2) = [assign tg X.env] := by rfl) : PS X (.Assign [tg] e pos) (TSw W (GX X fa) (sAsg g eva)) := by
  refine (ps_asg he hg hs hw h1).imp fun D σ H ⟨m, M, ρ, o, M', hρ, hM, e, fin⟩ => ?_
  refine te_bind hρ hM e fin fun m1 H1 M1 d1 v hρ1 hM1 rd e1 fin1 p1 x1 => ?_
  cases q : g d1 ρ with
  | none => rw [q] at e1; cases e1
  | some ρ1 =>
    rw [q] at e1
    cases e1
    exact ⟨m1, ρ, d1, ρ1, hρ1, rd, q, fun σ' hρ' _ => fin1.here hM1 σ' hρ'⟩
/-- a, b = x, y: both names local -/
def sPar (i j : Nat) (evs : EvL) : Es := fun ρ M => bindO (evs ρ M) fun ds M1 => match ds with
  | [d, e] => some (.next ((ρ.set i (some d)).set j (some e)), M1)
  | _ => none
theorem l_par (i j : Nat) {x y : Str} {evs : EvL} {px py pt : Pos} {kt k2 pt2} (hN : X.N.Nodup) (ha : PA X [a, b] (TAof (GX X fa) evs)) (hc : X.calm = true := by rfl) (hi : X.N[i]? = some x := by rfl) (hj : X.N[j]? = some y := by rfl) (hij : i ≠ j := by decide)
    (hx : X.env.scope.names.lookup x = some .local := by rfl) (hy : X.env.scope.names.lookup y = some .local := by rfl)
    (hw : swappedStores [.Tuple [.Name x px, .Name y py] kt pt] (.Tuple [a, b] k2 pt2) X.env = pure (some [x, y]) := by rfl)
    (hs : swapsWithSole [.Tuple [.Name x px, .Name y py] kt pt] (.Tuple [a, b] k2 pt2) pos.line X.env = pure false := by rfl) :
    PS X (.Assign [.Tuple [.Name x px, .Name y py] kt pt] (.Tuple [a, b] k2 pt2) pos) (TSw W (GX X fa) (sPar i j evs)) := by
  refine (ps_par hc hN hi hj hij hx hy ha hw hs).imp fun D σ H ⟨m, M, ρ, o, M', hρ, hM, e, fin⟩ => ?_
  refine ta_bind hρ hM e fin fun m1 H1 M1 ds vs hρ1 hM1 rds e1 fin1 p1 x1 => ?_
  cases rds with
  | nil => cases e1
  | cons r1 t1 =>
    cases t1 with
    | nil => cases e1
    | cons r2 t2 =>
      cases t2 with
      | nil =>
        cases e1
        exact ⟨_, _, rfl, fin1.here hM1 _ ((hρ1.set i r1).set j r2)⟩
      | cons _ _ => cases e1

/-! what is walked -/
abbrev Src := Mem → Option (List D)
def Wk (G : Gm) (J : It) (m0 : List Addr) (H0 : Hp) (get : Src) : Prop := ∀ (i : Nat) H m M xs, m0 <+: m → Ext G H0 H → RM G H m M → get M = some xs →
  (xs[i]? = none → J.stop i H) ∧ ∀ d, xs[i]? = some d → J.go i H ∧ ∀ x H2, J.yld i H x H2 → Ext G H H2 ∧ RM G H2 m M ∧ RD G H2 m d x
abbrev EvI := Loc → Mem → R Src
def TIof (G : Gm) (ev : EvI) : TI := fun σ H Rk => ∃ m M ρ get M', Rho G H m ρ σ ∧ RM G H m M ∧ ev ρ M = some (get, M') ∧ Fin G m H M' fun m' H' => ∀ J, Wk G J m' H' get → Rk J H'
theorem PI.imp {X : Cx} {tg e : Expr} {t t' : TI} (h : PI X tg e t) (i : ∀ σ H Q, t' σ H Q → t σ H Q) : PI X tg e t' := ⟨fun p s σ H Q I q => h.run p s σ H Q I (i σ H Q q)⟩
/-- the list of a number -/
def lstAt (M : Mem) (n : Nat) : Option (List D) := match M[n]? with
  | some (.lst xs) => some xs
  | some (.flst xs) => some xs
  | _ => none
theorem RM.lstAt {G : Gm} {H : Hp} {m : List Addr} {M : Mem} (h : RM G H m M) {n : Nat} {xs : List D} {a : Addr} (e : lstAt M n = some xs) (ea : m[n]? = some a) : ∃ vs, SqL G.K H a vs ∧ RDs G H m xs vs := by
  unfold Mi.lstAt at e
  split at e
  · rename_i ys q
    cases e
    obtain ⟨vs, q1, q2⟩ := h.at_ n a _ ea q
    exact ⟨vs, SqL.of q1, q2⟩
  · rename_i ys q
    cases e
    obtain ⟨vs, q1, q2⟩ := h.at_ n a _ ea q
    rcases q1 with ⟨ob, q1⟩ | q1
    · exact ⟨vs, .inl (.inr ⟨ob, q1⟩), q2⟩
    · exact ⟨vs, .inr q1, q2⟩
  · cases e
def iLst (ev : Ev) : EvI := fun ρ M => bindO (ev ρ M) fun d M1 => match d with
  | .ref n => if (lstAt M1 n).isSome then some ((fun M2 => lstAt M2 n), M1) else none
  | _ => none
def iTp (ev : Ev) : EvI := fun ρ M => bindO (ev ρ M) fun d M1 => match d with
  | .tup ds => some ((fun _ => some ds), M1)
  | _ => none
theorem l_ilst {tg : Expr} (he : PE X e (TEof (GX X fa) eva)) : PI X tg e (TIof (GX X fa) (iLst eva)) := by
  refine PI.imp (pi_list he) fun σ H Rk ⟨m, M, ρ, get, M', hρ, hM, e, fin⟩ => ?_
  refine te_bind hρ hM e fin fun m1 H1 M1 d1 v hρ1 hM1 rd e1 fin1 p1 x1 => ?_
  cases rd with
  | @ref n a ha =>
    have e2 : (if (Mi.lstAt M1 n).isSome then some ((fun M2 => Mi.lstAt M2 n), M1) else none) = some (get, M') := e1
    split at e2
    · rename_i hs
      cases e2
      obtain ⟨ys, hy⟩ := Option.isSome_iff_exists.mp hs
      obtain ⟨vs, q1, q2⟩ := hM1.lstAt hy ha
      refine ⟨a, rfl, ⟨vs, q1⟩, fin1.here hM1 _ fun i H2 m2 M2 xs pm xm hM2 hx => ?_⟩
      obtain ⟨ws, k1, k2⟩ := hM2.lstAt hx (pre_get pm ha)
      refine ⟨fun hn => ⟨ws, k1, by rw [← k2.length]; exact List.getElem?_eq_none_iff.mp hn⟩, fun d hd => ?_⟩
      obtain ⟨w, hw, rw'⟩ := k2.get hd
      refine ⟨⟨ws, w, k1, hw⟩, fun x H3 y => ?_⟩
      obtain ⟨rfl, y⟩ := y
      have ew := y ws k1
      rw [hw] at ew
      cases ew
      exact ⟨Ext.refl, hM2, rw'⟩
    · cases e2
  | non => cases e1
  | bl _ => cases e1
  | int _ => cases e1
  | str _ => cases e1
  | tup _ _ => cases e1
  | fn _ => cases e1
/-- the tuple at an address is one -/
theorem l_itup {tg : Expr} (he : PE X e (TEof (GX X fa) eva)) : PI X tg e (TIof (GX X fa) (iTp eva)) := by
  refine PI.imp (pi_tup he) fun σ H Rk ⟨m, M, ρ, get, M', hρ, hM, e, fin⟩ => ?_
  refine te_bind hρ hM e fin fun m1 H1 M1 d1 v hρ1 hM1 rd e1 fin1 p1 x1 => ?_
  cases rd with
  | @tup a ds vs ha rds =>
    cases e1
    refine ⟨a, rfl, ⟨vs, ha⟩, fin1.here hM1 _ fun i H2 m2 M2 xs pm xm hM2 hx => ?_⟩
    cases hx
    have ha2 := xm.t _ _ ha
    have rds2 := rds.mono pm xm
    refine ⟨fun hn => ⟨vs, ha2, by rw [← rds.length]; exact List.getElem?_eq_none_iff.mp hn⟩, fun d hd => ?_⟩
    obtain ⟨w, hw, rw'⟩ := rds2.get hd
    refine ⟨⟨vs, w, ha2, hw⟩, fun x H3 y => ?_⟩
    obtain ⟨rfl, y⟩ := y
    have ew := y vs ha2
    rw [hw] at ew
    cases ew
    exact ⟨Ext.refl, hM2, rw'⟩
  | non => cases e1
  | bl _ => cases e1
  | int _ => cases e1
  | str _ => cases e1
  | ref _ => cases e1
  | fn _ => cases e1
/-- range(n) -/
def rgD (lo : Int) (n : Nat) : List D := (List.range n).map fun i => .int (lo + (i : Nat))
theorem rgD_get {lo : Int} {n i : Nat} : (rgD lo n)[i]? = if i < n then some (.int (lo + (i : Nat))) else none := by
  unfold rgD
  rw [List.getElem?_map]
  by_cases h : i < n
  · rw [if_pos h, List.getElem?_eq_getElem (by rw [List.length_range]; exact h), List.getElem_range]; rfl
  · rw [if_neg h, List.getElem?_eq_none_iff.mpr (by rw [List.length_range]; omega)]; rfl
theorem wk_range {G : Gm} {lo : Int} {n : Nat} {m : List Addr} {H : Hp} : Wk G (Itr lo n) m H (fun _ => some (rgD lo n)) := fun i H2 m2 M2 xs pm xm hM2 hx => by
  cases hx
  rw [rgD_get]
  by_cases h : i < n
  · rw [if_pos h]
    refine ⟨fun z => (by cases z), fun d hd => ?_⟩
    cases hd
    refine ⟨h, fun x H3 y => ?_⟩
    obtain ⟨rfl, rfl⟩ := y
    exact ⟨Ext.refl, hM2, .int _⟩
  · rw [if_neg h]
    exact ⟨fun _ => by show n ≤ i; omega, fun d hd => by cases hd⟩
def iRg1 (evs : EvL) : EvI := fun ρ M => bindO (evs ρ M) fun ds M1 => match ds with
  | [.int j] => if -(2 ^ 62) ≤ j ∧ j < 2 ^ 62 then some ((fun _ => some (rgD 0 j.toNat)), M1) else none
  | _ => none
theorem l_irange1 {tg : Expr} {evs : EvL} (hm : X.mg "range" = none) (ha : PA X [a] (TAof (GX X fa) evs)) (hg : Gl X "range" := by rfl) (hs : starEach [a] X.env = [(false, eval a X.env)] := by rfl) : PI X tg (.Call (.Name "range" p) [a] [] pos) (TIof (GX X fa) (iRg1 evs)) := by
  refine PI.imp (pi_range1 hg hm ha hs) fun σ H Rk ⟨m, M, ρ, get, M', hρ, hM, e, fin⟩ => ?_
  refine ta_bind hρ hM e fin fun m1 H1 M1 ds vs hρ1 hM1 rds e1 fin1 p1 x1 => ?_
  cases rds with
  | nil => cases e1
  | cons r1 t1 =>
    cases t1 with
    | cons _ _ => cases r1 <;> cases e1
    | nil =>
      cases r1 with
      | int j =>
        have e2 : (if -(2 ^ 62) ≤ j ∧ j < 2 ^ 62 then some ((fun _ : Mem => some (rgD 0 j.toNat)), M1) else none) = some (get, M') := e1
        split at e2
        · rename_i hj
          cases e2
          exact ⟨j, rfl, hj.1, hj.2, fin1.here hM1 _ wk_range⟩
        · cases e2
      | non => cases e1
      | bl _ => cases e1
      | str _ => cases e1
      | tup _ _ => cases e1
      | ref _ => cases e1
      | fn _ => cases e1

/-! for -/
def forN (get : Src) (g : D → Loc → Option Loc) (body : Es) : Nat → Nat → Loc → Mem → R Fl
  | 0, _, _, _ => none
  | f + 1, i, ρ, M => match get M with
    | none => none
    | some xs => match xs[i]? with
      | none => some (.next ρ, M)
      | some d => match g d ρ with
        | none => none
        | some ρ1 => match body ρ1 M with
          | none => none
          | some (.next ρ2, M2) => forN get g body f (i + 1) ρ2 M2
          | some (.cont ρ2, M2) => forN get g body f (i + 1) ρ2 M2
          | some (.brk ρ2, M2) => some (.next ρ2, M2)
          | some (.ret d, M2) => some (.ret d, M2)
          | some (.exc ρ2 c v, M2) => some (.exc ρ2 c v, M2)
def sFor (src : EvI) (g : D → Loc → Option Loc) (body : Es) : Es := fun ρ M => bindO (src ρ M) fun get M1 => match get M1 with
  | none => none
  | some xs => forN get g body (xs.length + 1) 0 ρ M1
theorem l_for {tg iter : Expr} {body : List Stmt} {src : EvI} {vs : List Nat} {g : D → Loc → Option Loc} {bd : Es} (hp : PassesOwn (model X.prog X.w) X.A X.env X.xe) (hi : PI X tg iter (TIof (GX X fa) src)) (hg : PG X tg (TGof (GX X fa) vs g)) (hb : PSs X body (TSw W (GX X fa) bd)) (hc : X.calm = true := by rfl)
    (hs : ∀ x, foldedSetIterable iter X.env x = pure x := by intro _; rfl) : PS X (.For tg iter body [] pos) (TSw W (GX X fa) (sFor src g bd)) := by
  refine (ps_for hp hc hi hg hb hs).imp fun D σ H ⟨m, M, ρ, o, M', hρ, hM, e, fin⟩ => ?_
  unfold sFor at e
  cases q : src ρ M with
  | none => rw [q] at e; cases e
  | some pr =>
    obtain ⟨get, M1⟩ := pr
    rw [q] at e
    refine ⟨m, M, ρ, get, M1, hρ, hM, q, fun m1 H1 pm xm hM1 J wk => ?_⟩
    have e' : (match get M1 with
      | none => none
      | some xs => forN get g bd (xs.length + 1) 0 ρ M1) = some (o, M') := e
    refine ⟨fun i n σ H => ∃ m2 M2 ρ2, m1 <+: m2 ∧ Ext (GX X fa) H1 H ∧ Rho (GX X fa) H m2 ρ2 σ ∧ RM (GX X fa) H m2 M2 ∧ forN get g bd n i ρ2 M2 = some (o, M') ∧ Fin (GX X fa) m2 H M' (EndsOk W (GX X fa) D o), ?_, ?_⟩
    · cases gq : get M1 with
      | none => rw [gq] at e'; cases e'
      | some xs =>
        rw [gq] at e'
        exact ⟨xs.length + 1, m1, M1, ρ, List.prefix_refl _, Ext.refl, hρ.mono pm xm, hM1, e', fin.mono pm xm⟩
    · rintro i n σ2 H2 ⟨m2, M2, ρ2, pm2, xm2, hρ2, hM2, e2, fin2⟩
      cases n with
      | zero => cases e2
      | succ f =>
        have e3 : (match get M2 with
          | none => none
          | some xs => match xs[i]? with
            | none => some (.next ρ2, M2)
            | some d => match g d ρ2 with
              | none => none
              | some ρ1 => match bd ρ1 M2 with
                | none => none
                | some (.next ρ2, M2) => forN get g bd f (i + 1) ρ2 M2
                | some (.cont ρ2, M2) => forN get g bd f (i + 1) ρ2 M2
                | some (.brk ρ2, M2) => some (.next ρ2, M2)
                | some (.ret d, M2) => some (.ret d, M2)
                | some (.exc ρ2 c v, M2) => some (.exc ρ2 c v, M2)) = some (o, M') := e2
        cases gq : get M2 with
        | none => rw [gq] at e3; cases e3
        | some xs =>
          obtain ⟨w1, w2⟩ := wk i H2 m2 M2 xs pm2 xm2 hM2 gq
          rw [gq] at e3
          cases xq : xs[i]? with
          | none =>
            simp only [xq] at e3
            cases e3
            exact .inl ⟨w1 xq, fin2.here hM2 σ2 hρ2⟩
          | some d =>
            simp only [xq] at e3
            obtain ⟨hgo, hy⟩ := w2 d xq
            cases aq : g d ρ2 with
            | none => rw [aq] at e3; cases e3
            | some ρ3 =>
              rw [aq] at e3
              simp only at e3
              refine .inr ⟨hgo, fun σ' H' => ∃ m2 M2 ρ2, m1 <+: m2 ∧ Ext (GX X fa) H1 H' ∧ Rho (GX X fa) H' m2 ρ2 σ' ∧ RM (GX X fa) H' m2 M2 ∧ forN get g bd f (i + 1) ρ2 M2 = some (o, M') ∧ Fin (GX X fa) m2 H' M' (EndsOk W (GX X fa) D o), fun σ' H' z => ⟨f, Nat.lt_succ_self f, z⟩, fun x H3 yy => ?_⟩
              obtain ⟨xe3, hM3, rd3⟩ := hy x H3 yy
              refine ⟨m2, ρ2, d, ρ3, hρ2.mono (List.prefix_refl _) xe3, rd3, aq, fun σ3 hρ3 _ => ?_⟩
              cases bq : bd ρ3 M2 with
              | none => rw [bq] at e3; cases e3
              | some pr =>
                obtain ⟨o3, M3⟩ := pr
                rw [bq] at e3
                refine ⟨m2, M2, ρ3, o3, M3, hρ3, hM3, bq, fun m4 H4 pm4 xm4 hM4 => ?_⟩
                have fin4 : Fin (GX X fa) m4 H4 M' (EndsOk W (GX X fa) D o) := fin2.mono pm4 (xe3.trans xm4)
                have pm14 := pm2.trans pm4
                have xm14 := (xm2.trans xe3).trans xm4
                cases o3 with
                | next ρ4 => exact fun σ4 hρ4 => ⟨m4, M3, ρ4, pm14, xm14, hρ4, hM4, e3, fin4⟩
                | cont ρ4 => exact fun σ4 hρ4 => ⟨m4, M3, ρ4, pm14, xm14, hρ4, hM4, e3, fin4⟩
                | brk ρ4 => cases e3; exact fin4.here hM4
                | ret d4 => cases e3; exact fin4.here hM4
                | exc ρ4 c4 v4 => cases e3; exact fin4.here hM4
end
end Mi
set_option Elab.async false
set_option linter.all false
set_option maxRecDepth 100000
namespace Mi
open PySem PySem.Spec PyProof.Rows L2
section
variable {W : WX} {X : Cx} {pos p : Pos} {a b e : Expr} {eva evb : Ev} {fa : Nat → Addr}
/-- tests of a comprehension -/
def bYes : EvB := fun _ M => some (true, M)
theorem l_tsnil : PTs X [] (TTof (GX X fa) bYes) := pts_nil.imp fun σ H Q ⟨m, M, ρ, d, M', hρ, hM, e, fin⟩ => by cases e; exact fin.here hM
theorem l_tsone {t : EvB} (h : PT X a (TTof (GX X fa) t)) : PTs X [a] (TTof (GX X fa) t) := pts_one h
/-- the list at n grows -/
def lput (M : Mem) (n : Nat) (d : D) : Option Mem := match M[n]? with
  | some (.lst xs) => if xs.length < sizeLine then some (M.set n (.lst (xs ++ [d]))) else none
  | _ => none
def lcN (get : Src) (g : D → Loc → Option Loc) (t : EvB) (el : Ev) (D0 : Nat) (ρ : Loc) : Nat → Nat → Mem → Option Mem
  | 0, _, _ => none
  | f + 1, i, M => match get M with
    | none => none
    | some xs => match xs[i]? with
      | none => some M
      | some d => match g d ρ with
        | none => none
        | some ρ1 => match t ρ1 M with
          | none => none
          | some (false, M2) => lcN get g t el D0 ρ f (i + 1) M2
          | some (true, M2) => match el ρ1 M2 with
            | none => none
            | some (y, M3) => match lput M3 D0 y with
              | none => none
              | some M4 => lcN get g t el D0 ρ f (i + 1) M4
def eLc (src : EvI) (vs : List Nat) (g : D → Loc → Option Loc) (t : EvB) (el : Ev) : Ev := fun ρ M => bindO (src ρ M) fun get M1 => match get (M1 ++ [.lst []]) with
  | none => none
  | some xs => (lcN get g t el M1.length (wipeD ρ vs) (xs.length + 1) 0 (M1 ++ [.lst []])).map fun M2 => (.ref M1.length, M2)
theorem wipe_same {σ τ : L2.St} (hl : σ.length = τ.length) : ∀ vs : List Nat, (∀ j, j ∉ vs → σ[j]? = τ[j]?) → wipe σ vs = wipe τ vs := fun vs h => by
  have get : ∀ (vs : List Nat) (σ : L2.St) (j : Nat), (wipe σ vs)[j]? = if j ∈ vs then (if j < σ.length then some none else none) else σ[j]? := by
    intro vs
    induction vs with
    | nil => intro σ j; simp [L2.wipe]
    | cons v vs ih =>
      intro σ j
      unfold L2.wipe
      rw [List.getElem?_set, ih, wipe_length]
      by_cases hv : v = j
      · subst hv
        by_cases hl : v < σ.length <;> simp [hl]
      · have : j ≠ v := fun z => hv z.symm
        simp [hv, this]
  apply List.ext_getElem?
  intro j
  rw [get, get, hl]
  by_cases hj : j ∈ vs
  · rw [if_pos hj, if_pos hj]
  · rw [if_neg hj, if_neg hj, h j hj]
theorem wipe_wipe (σ : L2.St) (vs : List Nat) : wipe (wipe σ vs) vs = wipe σ vs := wipe_same (wipe_length σ vs) vs fun j hj => by
  have get : ∀ (vs : List Nat) (σ : L2.St) (j : Nat), j ∉ vs → (wipe σ vs)[j]? = σ[j]? := by
    intro vs
    induction vs with
    | nil => intro σ j _; rfl
    | cons v vs ih =>
      intro σ j hj
      unfold L2.wipe
      rw [List.getElem?_set_ne (fun z => hj (by rw [z]; exact List.mem_cons_self)), ih σ j fun z => hj (List.mem_cons_of_mem _ z)]
  exact get vs σ j hj
theorem RM.lput {G : Gm} {H : Hp} {m : List Addr} {M M' : Mem} {n : Nat} {d : D} {a : Addr} {v : V} (h : RM G H m M) (e : lput M n d = some M') (ea : m[n]? = some a) (rd : RD G H m d v) : ∃ vs, H a = some (.lst vs) ∧ vs.length < sizeLine ∧ RM G (upd H a (.lst (vs ++ [v]))) m M' ∧ Ext G H (upd H a (.lst (vs ++ [v]))) := by
  unfold Mi.lput at e
  split at e
  · rename_i xs q
    split at e
    · rename_i hl
      cases e
      obtain ⟨vs, q1, q2⟩ := h.at_ n a _ ea q
      have mu : MutL (H a) := by rw [q1]; trivial
      have xe : Ext G H (upd H a (.lst (vs ++ [v]))) := Ext.write mu
      refine ⟨vs, q1, by rw [← q2.length]; exact hl, h.set ea q rfl rfl ⟨vs ++ [v], upd_same, ?_⟩, xe⟩
      exact (q2.append (.cons rd .nil)).mono (List.prefix_refl _) xe
    · cases e
  · cases e
theorem lc_imp {src : EvI} {vs vs0 : List Nat} {g : D → Loc → Option Loc} {t : EvB} {el : Ev} (hvs : ∀ j, j ∈ vs → j ∈ vs0) : ∀ σ H Q, TEof (GX X fa) (eLc src vs0 g t el) σ H Q → tLc (TIof (GX X fa) src) (TGof (GX X fa) vs g) (TTof (GX X fa) t) (TEof (GX X fa) el) vs0 σ H Q := by
  intro σ H Q ⟨m, M, ρ, o, M', hρ, hM, e, fin⟩
  unfold eLc at e
  cases q : src ρ M with
  | none => rw [q] at e; cases e
  | some pr =>
    obtain ⟨get, M1⟩ := pr
    rw [q] at e
    refine ⟨m, M, ρ, get, M1, hρ, hM, q, fun m1 H1 pm xm hM1 J wk D hD => ?_⟩
    have e' : (match get (M1 ++ [.lst []]) with
      | none => none
      | some xs => (lcN get g t el M1.length (wipeD ρ vs0) (xs.length + 1) 0 (M1 ++ [.lst []])).map fun M2 => (Mi.D.ref M1.length, M2)) = some (o, M') := e
    have xD : Ext (GX X fa) H1 (upd H1 D (.lst [])) := Ext.new hD
    have hMD : RM (GX X fa) (upd H1 D (.lst [])) (m1 ++ [D]) (M1 ++ [.lst []]) := hM1.push hD ⟨[], upd_same, .nil⟩
    have hDn : (m1 ++ [D])[M1.length]? = some D := by rw [← hM1.len, List.getElem?_append_right (Nat.le_refl _), Nat.sub_self]; rfl
    have hρ0 : Rho (GX X fa) (upd H1 D (.lst [])) (m1 ++ [D]) (wipeD ρ vs0) (wipe σ vs0) := (hρ.wipe _).mono (pm.trans (List.prefix_append _ _)) (xm.trans xD)
    cases gq : get (M1 ++ [.lst []]) with
    | none => rw [gq] at e'; cases e'
    | some xs =>
      rw [gq] at e'
      cases lq : lcN get g t el M1.length (wipeD ρ vs0) (xs.length + 1) 0 (M1 ++ [.lst []]) with
      | none => simp only [lq] at e'; cases e'
      | some Mz =>
        simp only [lq] at e'
        cases e'
        have finD : Fin (GX X fa) (m1 ++ [D]) (upd H1 D (.lst [])) M' fun _ H' => Q (.ref D) H' := fun m' H' x y z => fin m' H' (pm.trans ((List.prefix_append _ _).trans x)) (xm.trans (xD.trans y)) z _ (.ref (pre_get x hDn))
        refine ⟨fun i n H => ∃ m2 M2, (m1 ++ [D]) <+: m2 ∧ Ext (GX X fa) (upd H1 D (.lst [])) H ∧ RM (GX X fa) H m2 M2 ∧ lcN get g t el M1.length (wipeD ρ vs0) n i M2 = some M', ⟨xs.length + 1, m1 ++ [D], M1 ++ [.lst []], List.prefix_refl _, Ext.refl, hMD, lq⟩, ?_⟩
        rintro i n H2 ⟨m2, M2, pm2, xm2, hM2, e2⟩
        cases n with
        | zero => cases e2
        | succ f =>
          have e3 : (match get M2 with
            | none => none
            | some xs => match xs[i]? with
              | none => some M2
              | some d => match g d (wipeD ρ vs0) with
                | none => none
                | some ρ1 => match t ρ1 M2 with
                  | none => none
                  | some (false, M2) => lcN get g t el M1.length (wipeD ρ vs0) f (i + 1) M2
                  | some (true, M2) => match el ρ1 M2 with
                    | none => none
                    | some (y, M3) => match lput M3 M1.length y with
                      | none => none
                      | some M4 => lcN get g t el M1.length (wipeD ρ vs0) f (i + 1) M4) = some M' := e2
          cases gq2 : get M2 with
          | none => rw [gq2] at e3; cases e3
          | some ys =>
            obtain ⟨w1, w2⟩ := wk i H2 m2 M2 ys ((List.prefix_append _ _).trans pm2) (xD.trans xm2) hM2 gq2
            rw [gq2] at e3
            cases xq : ys[i]? with
            | none =>
              simp only [xq] at e3
              cases e3
              exact .inl ⟨w1 xq, (finD.mono pm2 xm2).here hM2⟩
            | some d =>
              simp only [xq] at e3
              obtain ⟨hgo, hy⟩ := w2 d xq
              cases aq : g d (wipeD ρ vs0) with
              | none => rw [aq] at e3; cases e3
              | some ρ3 =>
                rw [aq] at e3
                simp only at e3
                refine .inr ⟨hgo, fun H' => ∃ m2 M2, (m1 ++ [D]) <+: m2 ∧ Ext (GX X fa) (upd H1 D (.lst [])) H' ∧ RM (GX X fa) H' m2 M2 ∧ lcN get g t el M1.length (wipeD ρ vs0) f (i + 1) M2 = some M', fun H' z => ⟨f, Nat.lt_succ_self f, z⟩, fun x H3 yy => ?_⟩
                obtain ⟨xe3, hM3, rd3⟩ := hy x H3 yy
                refine ⟨m2, wipeD ρ vs0, d, ρ3, hρ0.mono pm2 (xm2.trans xe3), rd3, aq, fun σ3 hρ3 o3 => ⟨?_, ?_⟩⟩
                · rw [wipe_same (o3.1) _ fun j hj => o3.2 j fun z => hj (hvs j z), wipe_wipe]
                · have xm23 := xm2.trans xe3
                  cases tq : t ρ3 M2 with
                  | none => rw [tq] at e3; cases e3
                  | some pr =>
                    obtain ⟨bb, M3⟩ := pr
                    rw [tq] at e3
                    refine ⟨m2, M2, ρ3, bb, M3, hρ3, hM3, tq, fun m4 H4 pm4 xm4 hM4 => ?_⟩
                    cases bb with
                    | false =>
                      rw [if_neg (by decide)]
                      exact ⟨m4, M3, pm2.trans pm4, xm23.trans xm4, hM4, e3⟩
                    | true =>
                      rw [if_pos rfl]
                      simp only at e3
                      cases eq : el ρ3 M3 with
                      | none => rw [eq] at e3; cases e3
                      | some pr =>
                        obtain ⟨y, M5⟩ := pr
                        rw [eq] at e3
                        simp only at e3
                        refine ⟨m4, M3, ρ3, y, M5, hρ3.mono pm4 xm4, hM4, eq, fun m5 H5 pm5 xm5 hM5 w rd5 => ?_⟩
                        cases pq : Mi.lput M5 M1.length y with
                        | none => rw [pq] at e3; cases e3
                        | some M6 =>
                          rw [pq] at e3
                          have pm25 := pm2.trans (pm4.trans pm5)
                          obtain ⟨acc, k1, k2, k3, k4⟩ := hM5.lput pq (pre_get pm25 hDn) rd5
                          exact ⟨acc, k1, k2, m5, M6, pm25, (xm23.trans (xm4.trans xm5)).trans k4, k3, e3⟩
theorem l_lc {elt tg iter : Expr} {ifs : List Expr} {scope : Scope} {own : List (Str × Nat)} {src : EvI} {vs : List Nat} {g : D → Loc → Option Loc} {t : EvB} {el : Ev} (hN : X.N.Nodup) (hi : PI X tg iter (TIof (GX X fa) src)) (ok : BlkOk X.N X.env.scope scope own)
    (hg : ∀ (s : Shared) (H : Hp) (C : Addr) (cl : List (Str × Addr)) (fp : List Addr), PG (X.blk s H scope (compEnvC scope cl C X.env) fp) tg (TGof (GX X fa) vs g)) (ht : ∀ (s : Shared) (H : Hp) (C : Addr) (cl : List (Str × Addr)) (fp : List Addr), PTs (X.blk s H scope (compEnvC scope cl C X.env) fp) ifs (TTof (GX X fa) t))
    (he : ∀ (s : Shared) (H : Hp) (C : Addr) (cl : List (Str × Addr)) (fp : List Addr), PE (X.blk s H scope (compEnvC scope cl C X.env) fp) elt (TEof (GX X fa) el)) (hvs : ∀ j, j ∈ vs → j ∈ own.map (·.2)) (hc : X.calm = true := by rfl) (hs : ∀ x, foldedSetIterable iter X.env x = pure x := by intro _; rfl) :
    PE X (.ListComp elt [⟨tg, iter, ifs, 0⟩] scope pos) (TEof (GX X fa) (eLc src (own.map (·.2)) g t el)) := (pe_lc hc hN hi ok hg ht he hs).imp (lc_imp hvs)
theorem l_setLc (i : Nat) {y : Str} {py spos : Pos} {elt tg iter : Expr} {ifs : List Expr} {scope : Scope} {own : List (Str × Nat)} {src : EvI} {vs : List Nat} {g : D → Loc → Option Loc} {t : EvB} {el : Ev} (hN : X.N.Nodup) (hi : PI X tg iter (TIof (GX X fa) src)) (ok : BlkOk X.N X.env.scope scope own)
    (hg : ∀ (s : Shared) (H : Hp) (C : Addr) (cl : List (Str × Addr)) (fp : List Addr), PG (X.blk s H scope (compEnvC scope cl C X.env) fp) tg (TGof (GX X fa) vs g)) (ht : ∀ (s : Shared) (H : Hp) (C : Addr) (cl : List (Str × Addr)) (fp : List Addr), PTs (X.blk s H scope (compEnvC scope cl C X.env) fp) ifs (TTof (GX X fa) t))
    (he : ∀ (s : Shared) (H : Hp) (C : Addr) (cl : List (Str × Addr)) (fp : List Addr), PE (X.blk s H scope (compEnvC scope cl C X.env) fp) elt (TEof (GX X fa) el)) (hvs : ∀ j, j ∈ vs → j ∈ own.map (·.2)) (hc : X.calm = true := by rfl) (hs : ∀ x, foldedSetIterable iter X.env x = pure x := by intro _; rfl)
    (hy : X.N[i]? = some y := by rfl) (hyl : X.env.scope.names.lookup y = some .local := by rfl) (hsw : swapsWith (.ListComp elt [⟨tg, iter, ifs, 0⟩] scope pos) (some (.Name y py)) spos.line X.env = pure true := by exact sw_true rfl rfl rfl (by decide +kernel)) :
    PS X (.Assign [.Name y py] (.ListComp elt [⟨tg, iter, ifs, 0⟩] scope pos) spos) (TSw W (GX X fa) (sSet i (eLc src (own.map (·.2)) g t el))) := by
  refine (ps_setLc hc hN hy hyl hsw hi ok hg ht he hs).imp fun D σ H ⟨m, M, ρ, o, M', hρ, hM, e, fin⟩ => ?_
  refine lc_imp hvs σ H _ ?_
  refine te_bind hρ hM e fin fun m1 H1 M1 d1 v hρ1 hM1 rd e1 fin1 p1 x1 => ?_
  cases e1
  exact fin1.here hM1 _ (hρ1.set i rd)
end
end Mi
set_option Elab.async false
set_option linter.all false
set_option maxRecDepth 100000
/-! own defs, where no repr is under way -/
namespace Mi
open PySem PySem.Spec PyProof.Rows L2

/-- a def keeps its promise wherever no repr is under way and nothing is let out -/
structure FnG (P : Program) (w : World) (K : PySem.W.Frag) (mg : Str → Option Value) (base : Heap) (k : Nat) (f : Addr) (fd : FuncData) (ps : List Str) (sp : Sp) : Prop where
  count : ∀ vs H Q E, sp vs H Q E → vs.length = ps.length
  go : ∀ (A : Around) (fr : List Env) (st : Shared) (H : Hp) (ar : Args) (us : List Value) (vs : List V) (Q : VK), Room k A → A.guards = some [] → Env0 P w K mg base A fr st H → BindsTo st fd ar (ps.zip us) → Vals vs us → sp vs H Q E0 →
    codeAny (model P w) A (.call (.ref f) ar) (CR CX0 fr P w H st Q E0) st

abbrev CxG (P : Program) (w : World) (K : PySem.W.Frag) (mg : Str → Option Value) (base : Heap) (N : List Str) (qual : Str) (sc : Scope) (f : Addr) (cd : Value) (A : Around) (fr : List Env) (st : Shared) (H : Hp) : Cx := (cxOf CX0 P w K mg base N qual sc f cd A fr st H E0).nox

/-- by its body -/
theorem fng_body {P : Program} {w : World} {K : PySem.W.Frag} {mg : Str → Option Value} {base : Heap} {x qual : Str} {pa : Arguments} {bd : List Stmt} {sc : Scope} {f : Addr} {fd : FuncData} {N ps : List Str} {k : Nat} {sp : Sp} (F : FunD K x qual pa bd sc [] [] f fd) (S : FnScope N ps sc)
    (count : ∀ vs H Q E, sp vs H Q E → vs.length = ps.length)
    (walk : ∀ (cd : Value) (A : Around) (fr : List Env) (st : Shared) (H : Hp), Room k (A.deeper (envOfC qual sc st.heap.objs.size f cd)) → (A.deeper (envOfC qual sc st.heap.objs.size f cd)).guards = some [] →
      ∃ t, PSs (CxG P w K mg base N qual sc f cd A fr st H) bd t ∧ ∀ vs Q, sp vs H Q E0 → t { nx := fun _ H' => Q .non H', rt := Q } (start N vs) H) : FnG P w K mg base (k + 1) f fd ps sp := by
  obtain ⟨oc, od, dV, kV, doc, pm, an, cd, ct, osl, rfl, lk, hcd, _, _⟩ := F.ex
  constructor
  · exact count
  intro A fr st H ar us vs Q hr hg e0 hb rv hsp
  have hKs : K.In st.heap := e0.mod.kin.keeps fun b o q => (e0.bs b o q).1
  have hlim : st.heap.NoLimit := e0.mod.nolimit.keeps fun b o q => (e0.bs b o q).1
  have kinds : ∀ y ∈ ps.zip us, sc.names.lookup y.1 = some .local ∨ (sc.names.lookup y.1 = some .cell ∧ ((cellsFrom (st.heap.objs.size + 1) sc.names []).lookup y.1).isSome = true) := by
    intro y hy
    obtain ⟨nm, u⟩ := y
    cases S.par nm (List.of_mem_zip hy).1 with
    | inl q => exact Or.inl q
    | inr q => exact Or.inr ⟨q, PySem.W.cellsFrom_some _ _ _ (Or.inl q)⟩
  apply codeAny_call_function hr.depth (hKs _ _ lk) rfl S.co S.gen rfl (PySem.W.codeRec_of hKs hcd)
  apply hb
  apply wpAny_newFunctionEnv_cells S.kind kinds
  intro env he s1 xi
  cases he
  refine ⟨hlim.keeps xi.toInCall.keep, ?_⟩
  apply codeAny_func
  obtain ⟨t, ht, hq⟩ := walk cd A fr st H (hr.deeper _) hg
  have I0 : Inv (cxOf CX0 P w K mg base N qual sc f cd A fr st H E0) [] (start N vs) H s1 := inv_start S hr.hd e0 (count _ _ _ _ hsp) rv xi
  have run := ht.run [] s1 (start N vs) H { nx := fun _ H' => Q .non H', rt := Q } (I0.wish _) (hq vs Q hsp)
  refine wpAny_mono run ?_ (fun _ _ z => z.elim)
  intro fl s' hs
  cases fl with
  | brk => exact hs.elim fun _ z => z.elim fun _ z => z.2.elim
  | cont => exact hs.elim fun _ z => z.elim fun _ z => z.2.elim
  | next =>
    obtain ⟨σ', H', J, q⟩ := hs
    exact ⟨.non, H', J.os, J.bare, J.base, J.hok, rfl, q⟩
  | ret u =>
    obtain ⟨v, σ', H', J, rv', q⟩ := hs
    exact ⟨v, H', J.os, J.bare, J.base, J.hok, rv', q⟩

section
variable {X : Cx} {k : Nat} {f : Addr} {fd : FuncData} {ps : List Str} {sp : Sp} {x : Str} {p pos : Pos} {e : Expr} {es : List Expr} {t : TA}
theorem fng_run {pins : List (Addr × Obj)} {σ : L2.St} {H : Hp} {st : Shared} {Q : VK} {us : List Value} {vs : List V} (F : FnG X.prog X.w X.K X.mg X.base k f fd ps sp) (hr : Room k X.A) (hg : X.A.guards = some []) (hb : Binds X.K fd ps [])
    (I : Inv X pins σ H st) (r : Vals vs us) (h : sp vs H Q E0) : wpAny (model X.prog X.w) X.A (call (.ref f) us) (EP X pins σ Q) X.xe st := by
  have hl : us.length = ps.length := r.length.symm.trans (F.count _ _ _ _ h)
  have hb' := hb st us I.kIn (by rw [List.append_nil]; exact hl)
  rw [List.append_nil] at hb'
  apply wpAny_call
  refine codeAny_mono (F.go X.A X.stack st H _ us vs Q hr hg I.env0 hb' r h) ?_
  intro rs s' hq
  cases rs with
  | error z => exact hq.elim
  | ok fl =>
    cases fl with
    | ret u => exact I.after hq
    | next => exact hq.elim
    | brk => exact hq.elim
    | cont => exact hq.elim
def tCallG (sp : Sp) (t : TA) : TE := fun σ H Q => t σ H fun vs H1 => sp vs H1 Q E0
theorem peg_call (F : FnG X.prog X.w X.K X.mg X.base k f fd ps sp) (hr : Room k X.A) (hgd : X.A.guards = some []) (hg : Gl X x) (hm : X.mg x = some (.ref f)) (hk : PySem.W.keepIn X.K (.ref f) = true) (hb : Binds X.K fd ps [])
    (ha : PA X (e :: es) t) (hdb : (x == ("__debug__" : Str)) = false) (he : starEach (e :: es) X.env = (false, eval e X.env) :: starEach es X.env) (hpl : (backTo pos (starEach es X.env)).any (·.1) = false) :
    PE X (.Call (.Name x p) (e :: es) [] pos) (tCallG sp t) := by
  constructor
  intro pins st σ H Q I h
  apply wpAny_Call_Name_kw (ld_glob I hg hm ?_ hdb)
  apply PySem.W.callWith_K (h₀ := X.base) I.ok.mod.kin hk (thn (ha.run pos pins st σ H _ I h) ?_) he hpl
  rintro us s1 ⟨vs, H1, I1, r, q⟩
  exact ⟨I1.kIn, fng_run F hr hgd hb I1 r q⟩
theorem peg_call0 (F : FnG X.prog X.w X.K X.mg X.base k f fd ps sp) (hr : Room k X.A) (hgd : X.A.guards = some []) (hg : Gl X x) (hm : X.mg x = some (.ref f)) (hk : PySem.W.keepIn X.K (.ref f) = true) (hb : Binds X.K fd ps [])
    (hdb : (x == ("__debug__" : Str)) = false) : PE X (.Call (.Name x p) [] [] pos) (tCallG sp tNil) := by
  constructor
  intro pins st σ H Q I h
  apply wpAny_Call_Name_kw (ld_glob I hg hm ?_ hdb)
  exact PySem.W.callWith_K0 I.kIn hk (fng_run (us := []) F hr hgd hb I .nil h)
end

/-! the data's promise -/
/-- all slots as a call begins -/
def startD (n : Nat) (ds : List D) : Loc := ds.map some ++ List.replicate (n - ds.length) none
def runB (n : Nat) (ev : Es) : List D → Mem → R D := fun ds M => bindO (ev (startD n ds) M) fun o M1 => match o with
  | .ret d => some (d, M1)
  | .next _ => some (.non, M1)
  | _ => none
theorem rho_start {G : Gm} {H : Hp} {m : List Addr} {N : List Str} {ds : List D} {vs : List V} (r : RDs G H m ds vs) : Rho G H m (startD N.length ds) (start N vs) := by
  unfold startD L2.start
  have hl := r.length
  refine ⟨by simp [hl], fun i d q => ?_⟩
  by_cases hi : i < ds.length
  · rw [List.getElem?_append_left (by simpa using hi), List.getElem?_map] at q
    cases e : ds[i]? with
    | none => rw [e] at q; cases q
    | some d' =>
      rw [e] at q
      cases q
      obtain ⟨v, hv, rd⟩ := r.get e
      exact ⟨v, by rw [List.getElem?_append_left (by rw [List.length_map, ← hl]; exact hi), List.getElem?_map, hv]; rfl, rd⟩
  · rw [List.getElem?_append_right (by simpa using hi), List.getElem?_replicate] at q
    split at q <;> cases q
theorem sp_body {G : Gm} {N : List Str} {ev : Es} {np : Nat} {vs : List V} {H : Hp} {Q : VK} {E : XK} (h : SpOf G np (runB N.length ev) vs H Q E) : TSof G ev { nx := fun _ H' => Q .non H', rt := Q } (start N vs) H := by
  obtain ⟨_, m, M, ds, d, M', rds, hM, e, fin⟩ := h
  unfold runB at e
  cases q : ev (startD N.length ds) M with
  | none => rw [q] at e; cases e
  | some pr =>
    obtain ⟨o, M1⟩ := pr
    rw [q] at e
    refine ⟨m, M, _, o, M1, rho_start rds, hM, q, fun m1 H1 a b c => ?_⟩
    cases o with
    | ret d1 => cases e; exact fin m1 H1 a b c
    | next ρ1 => cases e; exact fun σ _ => fin m1 H1 a b c _ .non
    | brk ρ1 => cases e
    | cont ρ1 => cases e
    | exc ρ1 c x => cases e
/-- a def of the table, by its body -/
theorem fng_of {P : Program} {w : World} {K : PySem.W.Frag} {mg : Str → Option Value} {base : Heap} {x qual : Str} {pa : Arguments} {bd : List Stmt} {sc : Scope} {f : Addr} {fd : FuncData} {N ps : List Str} {k : Nat} {fa : Nat → Addr} {ev : Es} (F : FunD K x qual pa bd sc [] [] f fd) (S : FnScope N ps sc)
    (walk : ∀ (cd : Value) (A : Around) (fr : List Env) (st : Shared) (H : Hp), Room k (A.deeper (envOfC qual sc st.heap.objs.size f cd)) → (A.deeper (envOfC qual sc st.heap.objs.size f cd)).guards = some [] →
      PSs (CxG P w K mg base N qual sc f cd A fr st H) bd (TSof ⟨K, fa⟩ ev)) : FnG P w K mg base (k + 1) f fd ps (SpOf ⟨K, fa⟩ ps.length (runB N.length ev)) :=
  fng_body F S (fun vs H Q E h => h.1) fun cd A fr st H hr hg => ⟨_, walk cd A fr st H hr hg, fun vs Q h => sp_body h⟩

/-! the table of defs -/
abbrev CallF := Nat → List D → Mem → R D
structure Fns (P : Program) (w : World) (K : PySem.W.Frag) (mg : Str → Option Value) (base : Heap) (fa : Nat → Addr) (tab : List (Str × List Str)) (call : CallF) (k : Nat) : Prop where
  ok : ∀ (i : Nat) (x : Str) (ps : List Str), tab[i]? = some (x, ps) → mg x = some (.ref (fa i)) ∧ PySem.W.keepIn K (.ref (fa i)) = true ∧ ∃ fd, Binds K fd ps [] ∧ FnG P w K mg base k (fa i) fd ps (SpOf ⟨K, fa⟩ ps.length (call i))
theorem fng_zero {P : Program} {w : World} {K : PySem.W.Frag} {mg : Str → Option Value} {base : Heap} {fa : Nat → Addr} {f : Addr} {fd : FuncData} {ps : List Str} {k n : Nat} (hn : n = ps.length) : FnG P w K mg base k f fd ps (SpOf ⟨K, fa⟩ n fun _ _ => none) :=
  ⟨fun vs H Q E h => h.1.trans hn, fun A fr st H ar us vs Q _ _ _ _ _ h => by obtain ⟨_, m, M, ds, d, M', _, _, e, _⟩ := h; cases e⟩
section
variable {X : Cx} {fa : Nat → Addr} {tab : List (Str × List Str)} {call : CallF} {k : Nat} {x : Str} {ps : List Str} {p pos : Pos} {e : Expr} {es : List Expr} {evs : EvL}
theorem l_fn (i : Nat) (T : Fns X.prog X.w X.K X.mg X.base fa tab call k) (hr : Room k X.A) (hgd : X.A.guards = some []) (ha : PA X (e :: es) (TAof (GX X fa) evs)) (hi : tab[i]? = some (x, ps) := by rfl) (hl : ps.length = es.length + 1 := by rfl)
    (hev : ∀ ρ M ds M', evs ρ M = some (ds, M') → ds.length = es.length + 1 := by repeat (first | exact len_nil | apply len_cons)) (hg : Gl X x := by rfl) (hdb : (x == ("__debug__" : Str)) = false := by decide) (he : starEach (e :: es) X.env = (false, eval e X.env) :: starEach es X.env := by rfl) (hpl : (backTo pos (starEach es X.env)).any (·.1) = false := by rfl) :
    PE X (.Call (.Name x p) (e :: es) [] pos) (TEof (GX X fa) (eCall (call i) evs)) := by
  obtain ⟨hm, hk, fd, hb, F⟩ := T.ok i x ps hi
  refine (peg_call F hr hgd hg hm hk hb ha hdb he hpl).imp fun σ H Q ⟨m, M, ρ, d, M', hρ, hM, e, fin⟩ => ?_
  have hev' := hev ρ M
  unfold eCall at e
  cases q : evs ρ M with
  | none => rw [q] at e; cases e
  | some pr =>
    obtain ⟨ds, M1⟩ := pr
    rw [q] at e
    refine ⟨m, M, ρ, ds, M1, hρ, hM, q, fun m1 H1 a b c vs rds => ?_⟩
    exact ⟨by rw [← rds.length, hl]; exact hev' ds M1 q, m1, M1, ds, d, M', rds, c, e, fin.mono a b⟩
theorem l_fn0 (i : Nat) (T : Fns X.prog X.w X.K X.mg X.base fa tab call k) (hr : Room k X.A) (hgd : X.A.guards = some []) (hi : tab[i]? = some (x, []) := by rfl) (hg : Gl X x := by rfl) (hdb : (x == ("__debug__" : Str)) = false := by decide) :
    PE X (.Call (.Name x p) [] [] pos) (TEof (GX X fa) (eCall (call i) eNil)) := by
  obtain ⟨hm, hk, fd, hb, F⟩ := T.ok i x [] hi
  refine (peg_call0 F hr hgd hg hm hk hb hdb).imp fun σ H Q ⟨m, M, ρ, d, M', hρ, hM, e, fin⟩ => ?_
  exact ⟨rfl, m, M, [], d, M', .nil, hM, e, fin⟩
end
end Mi
set_option Elab.async false
set_option linter.all false
set_option maxRecDepth 100000
/-! a law's end over data -/
namespace Mi
open PySem PySem.Spec PyProof.Rows L2
/-- the law's own promise at the state behind the top, by a call of which the data come to True -/
theorem law_here {P : Program} {w : World} {K : PySem.W.Frag} {mg mb : Str → Option Value} {k : Nat} {f a : Addr} {fd : FuncData} {x : Str} {g : List D → Mem → R D} {fa : Nat → Addr} {st : Shared} {vs : List Value} {ns : List Int}
    (KX : K.In st.heap) (hns : st.heap.Ns mainGlobals mg) (hb : st.heap.Ns builtinsNs mb) (hbb : ∀ y : Str, y ≠ "__name__" → mb y = bootBuiltins y) (hlim : st.heap.NoLimit) (hg : st.gens = #[])
    (ha : st.heap.get? a = some { cls := .type "list", data := .seq vs.toArray }) (hi : IntsAre vs ns) (hl : ns.length ≤ sizeLine) (hr : Room k callerA)
    (F : ∀ base : Heap, K.In base → base.Ns mainGlobals mg → FnG P w K mg base k f fd [x] (SpOf ⟨K, fa⟩ 1 g)) (hbind : ∀ (s : Shared) (u : Value), BindsTo s fd ⟨[u], []⟩ [(x, u)])
    (true_ : ∃ M', g [.ref 0] [.flst (ns.map .int)] = some (.bl true, M')) :
    codeAny (model P w) callerA (.call (.ref f) ⟨[.ref a], []⟩) (fun r s' => r = .ok (.ret (.bool true)) ∧ OldK st.heap s'.heap ∧ s'.os = st.os ∧ AllBare s'.gens) st := by
  have rv := vals_ints hi
  have cnt := hi.length
  obtain ⟨M', hM'⟩ := true_
  have rds : ∀ (H : Hp) (m : List Addr), RDs ⟨K, fa⟩ H m (ns.map Mi.D.int) (ns.map V.int) := by
    intro H m
    clear hi cnt rv hM' hl
    induction ns with
    | nil => exact .nil
    | cons n ns ih => exact .cons (.int n) ih
  have main : ∀ H : Hp, (∀ b, H b ≠ none → b = a ∧ ∃ o, H b = some (.frz o (.lst (ns.map V.int)))) → (H a ≠ none → K.lookup a = none) → RO ⟨K, fa⟩ H [a] a (.flst (ns.map .int)) → HOk P w H st.heap →
      codeAny (model P w) callerA (.call (.ref f) ⟨[.ref a], []⟩) (fun r s' => r = .ok (.ret (.bool true)) ∧ OldK st.heap s'.heap ∧ s'.os = st.os ∧ AllBare s'.gens) st := by
    intro H only hK ro hok
    have notdict : ∀ {b : Addr} {o : Obj} {es : Array DictEntry} {ep : Nat}, st.heap.get? b = some o → o.data = .dict es ep → H b = none := by
      intro b o es ep e d
      cases q : H b with
      | none => rfl
      | some u =>
        have z := (only b (by rw [q]; simp)).1
        rw [z, ha] at e
        cases e
        cases (show Data.seq vs.toArray _ = Data.dict es ep from d)
    have carry : ∀ {b : Addr} {m : Str → Option Value}, st.heap.Ns b m → (hidT st.heap H).Ns b m := by
      intro b m hb'
      obtain ⟨o, es, ep, e, d, r⟩ := hb'
      exact ⟨o, es, ep, hidT_get e (notdict e d), d, r⟩
    have kin : K.In (hidT st.heap H) := by
      intro b o e
      refine hidT_get (KX b o e) ?_
      cases q : H b with
      | none => rfl
      | some u =>
        have z := (only b (by rw [q]; simp)).1
        rw [z] at e q
        rw [hK (by rw [q]; simp)] at e
        cases e
    obtain ⟨mc, c1, c2⟩ := hlim
    have md : Mod K mg (hidT st.heap H) := ⟨kin, carry hns, ⟨mb, carry hb, hbb⟩, ⟨mc, carry c1, c2⟩⟩
    have e0 : Env0 P w K mg (hidT st.heap H) callerA [] st H := by
      refine ⟨rfl, md, fun b o e => of_hidT e, Nat.le_of_eq (hidT_size _ _), trivial, ?_, hok, .of_eq hg⟩
      intro b hb'
      cases hb'
    have rm : RM ⟨K, fa⟩ H [a] [.flst (ns.map .int)] := by
      refine ⟨rfl, ?_, ?_⟩
      · intro i j b o u e1 e2 f1 f2 m1 m2
        match i, f1 with
        | 0, f1 => cases f1; cases m1
        | i + 1, f1 => cases f1
      · intro n b o e1 e2
        match n, e1, e2 with
        | 0, e1, e2 => cases e1; cases e2; exact ro
        | n + 1, e1, e2 => cases e1
    have sp : SpOf ⟨K, fa⟩ 1 g [V.ref a] H (fun v _ => v = .bl true) E0 := ⟨rfl, [a], _, [.ref 0], .bl true, M', .cons (.ref rfl) .nil, rm, hM', fun m' H' _ _ _ v rd => by cases rd; rfl⟩
    refine codeAny_mono ((F _ kin (carry hns)).go callerA [] st H ⟨[.ref a], []⟩ [.ref a] [.ref a] _ hr rfl e0 (hbind st (.ref a)) (.cons rfl .nil) sp) ?_
    intro r s' h
    cases r with
    | error e => exact h.elim
    | ok fl =>
      cases fl with
      | next => exact h.elim
      | brk => exact h.elim
      | cont => exact h.elim
      | ret u =>
        obtain ⟨v, H', os, bare, un, hok', r', q⟩ := h
        cases (show v = .bl true from q)
        cases (show u = Value.bool true from r')
        refine ⟨rfl, OldK.of_keep ?_, os, bare⟩
        intro b o e
        cases q : H b with
        | none => exact un.keep b o e q List.not_mem_nil List.not_mem_nil
        | some u =>
          obtain ⟨_, ob, z⟩ := only b (by rw [q]; simp)
          have o1 := (hok b _ z).1
          have o2 := (hok' b _ (un.frzs b ob _ z)).1
          rw [e] at o1
          cases o1
          exact o2
  cases hk : K.lookup a with
  | some o =>
    have e := KX a o hk
    rw [ha] at e
    cases e
    refine main (fun _ => none) (fun b z => absurd rfl z) (fun z => absurd rfl z) ⟨ns.map V.int, .inr ⟨_, vs.toArray, _, hk, rfl, rfl, rfl, ?_, by simpa using rv⟩, rds _ _⟩ (fun b u z => by cases z)
    rw [List.size_toArray, cnt]
    exact hl
  | none =>
    refine main (fun b => if b = a then some (.frz { cls := .type "list", data := .seq vs.toArray } (.lst (ns.map V.int))) else none) ?_ (fun _ => hk) ⟨ns.map V.int, .inl ⟨_, if_pos rfl⟩, rds _ _⟩ ?_
    · intro b z
      by_cases hb' : b = a
      · exact ⟨hb', _, if_pos hb'⟩
      · exact absurd (if_neg hb') z
    · intro b u z
      by_cases hb' : b = a
      · have z' := (if_pos hb').symm.trans z
        cases z'
        subst hb'
        exact ⟨ha, by rw [List.length_map]; exact hl, vs, _, rv, ha⟩
      · have z' := (if_neg hb').symm.trans z
        cases z'
/-- the end of a law's row -/
theorem walk_data {l : PySem.W.OpenLaw} {n k : Nat} {q : Program} {loose : List Str} {XP : (Str → Option Value) → Heap → Prop} {YP : World → Heap → Prop} {d : DefRec} {x : Str} {g : List D → Mem → R D}
    (hn : l.most = some n) (hn2 : n ≤ sizeLine) (hdf : d.params.defaults = []) (hr : Room k callerA)
    (F : ∀ (w : World) (mg : Str → Option Value) (f : Addr) (h : Heap), YP w h → h.Ns mainGlobals mg → mg d.name = some (.ref f) →
      ∃ (K : PySem.W.Frag) (fd : FuncData) (fa : Nat → Addr), K.In h ∧ (∀ (s : Shared) (u : Value), BindsTo s fd ⟨[u], []⟩ [(x, u)]) ∧
        ∀ base : Heap, K.In base → base.Ns mainGlobals mg → FnG l.prog w K mg base k f fd [x] (SpOf ⟨K, fa⟩ 1 g))
    (true_ : ∀ ns : List Int, ns.length ≤ n → ∃ M', g [.ref 0] [.flst (ns.map .int)] = some (.bl true, M')) :
    PySem.W.WalkO q loose XP YP l.row.toRowW d [] (fun f vs => PySem.call f vs) := by
  apply Att.attach_call hn hdf
  intro w s₀ s₁ mg mb f o pm cd doc a vs ns G Y ho hd hcd hmg hobj hints hlen hg
  obtain ⟨K, fd, fa, KX, hb, hF⟩ := F w mg f _ Y G.T.g hmg
  exact law_here KX G.T.g G.T.b G.T.builtins G.T.nolimit hg hobj hints (Nat.le_trans hlen hn2) hr hF hb (true_ ns hlen)
end Mi
set_option Elab.async false
set_option linter.all false
set_option maxRecDepth 100000
/-! operators, calls of built-ins, items -/
namespace Mi
open PySem PySem.Spec PyProof.Rows L2

/-! whole data of the library's kind -/
mutual
def toPy (M : Mem) : Nat → D → Option PyData
  | 0, _ => none
  | _ + 1, .non => some .none
  | _ + 1, .bl b => some (.bool b)
  | _ + 1, .int i => some (.int i)
  | _ + 1, .str x => some (.str x)
  | n + 1, .tup xs => (toPys M n xs).map .tuple
  | n + 1, .ref k => match lstAt M k with
    | some xs => (toPys M n xs).map .list
    | none => none
  | _ + 1, .fn _ => none
def toPys (M : Mem) : Nat → List D → Option (List PyData)
  | 0, _ => none
  | _ + 1, [] => some []
  | n + 1, x :: xs => match toPy M n x with
    | some d => (toPys M n xs).map (d :: ·)
    | none => none
end
section
variable {G : Gm} {H : Hp} {m : List Addr} {M : Mem}
mutual
theorem toPy_dp (hM : RM G H m M) : ∀ (n : Nat) (d : D) (v : V) (p : PyData), toPy M n d = some p → RD G H m d v → Dp G.K H v p
  | 0, _, _, _, e, _ => by cases e
  | n + 1, .non, _, _, e, r => by cases r; cases e; exact .non
  | n + 1, .bl b, _, _, e, r => by cases r; cases e; exact .bl b
  | n + 1, .int i, _, _, e, r => by cases r; cases e; exact .int i
  | n + 1, .str x, _, _, e, r => by cases r; cases e; exact .str x
  | n + 1, .fn i, _, _, e, r => by cases e
  | n + 1, .tup xs, _, _, e, r => by
    cases r with
    | tup hs rds =>
      have e' : (toPys M n xs).map PyData.tuple = some _ := e
      cases q : toPys M n xs with
      | none => rw [q] at e'; cases e'
      | some ps =>
        rw [q] at e'
        cases e'
        exact .tup hs (toPys_dp hM n xs _ ps q rds)
  | n + 1, .ref k, _, _, e, r => by
    cases r with
    | ref ha =>
      have e' : (match lstAt M k with
        | some xs => (toPys M n xs).map PyData.list
        | none => none) = some _ := e
      cases q : lstAt M k with
      | none => rw [q] at e'; cases e'
      | some xs =>
        rw [q] at e'
        obtain ⟨vs, hs, rds⟩ := hM.lstAt q ha
        cases q2 : toPys M n xs with
        | none => simp only [q2] at e'; cases e'
        | some ps =>
          simp only [q2] at e'
          cases e'
          exact .lst hs (toPys_dp hM n xs _ ps q2 rds)
theorem toPys_dp (hM : RM G H m M) : ∀ (n : Nat) (ds : List D) (vs : List V) (ps : List PyData), toPys M n ds = some ps → RDs G H m ds vs → DpAll G.K H vs ps
  | 0, _, _, _, e, _ => by cases e
  | n + 1, [], _, _, e, r => by cases r; cases e; exact .nil
  | n + 1, d :: ds, _, _, e, r => by
    cases r with
    | cons r1 rr =>
      have e' : (match toPy M n d with
        | some p => (toPys M n ds).map (p :: ·)
        | none => none) = some _ := e
      cases q : toPy M n d with
      | none => rw [q] at e'; cases e'
      | some p =>
        rw [q] at e'
        cases q2 : toPys M n ds with
        | none => simp only [q2] at e'; cases e'
        | some ps =>
          simp only [q2] at e'
          cases e'
          exact .cons (toPy_dp hM n d _ p q r1) (toPys_dp hM n ds _ ps q2 rr)
end
end
abbrev fuelD : Nat := 100000
/-- a == b -/
def eqD (M : Mem) (x y : D) : Option Bool := match toPy M fuelD x, toPy M fuelD y with
  | some a, some b => if SeqAt.shaped a = true ∧ SeqAt.shaped b = true then some (PyData.eqv a b) else none
  | _, _ => none
def oEq : D → D → Mem → R D := fun x y M => match x, y with
  | .str a, .str b => some (.bl (decide (a = b)), M)
  | x, y => (eqD M x y).map fun b => (.bl b, M)
def oNe : D → D → Mem → R D := fun x y M => match x, y with
  | .str a, .str b => some (.bl (!decide (a = b)), M)
  | x, y => (eqD M x y).map fun b => (.bl (!b), M)
theorem dec_str (a b : Str) : decide (V.str a = V.str b) = decide (a = b) := by
  by_cases h : a = b
  · rw [h, decide_eq_true rfl, decide_eq_true rfl]
  · rw [decide_eq_false h, decide_eq_false fun z => h (V.str.inj z)]
theorem eqD_dp {G : Gm} {H : Hp} {m : List Addr} {M : Mem} (hM : RM G H m M) {x y : D} {v w : V} {b : Bool} (e : eqD M x y = some b) (rx : RD G H m x v) (ry : RD G H m y w) : ∃ p q, Dp G.K H v p ∧ Dp G.K H w q ∧ SeqAt.shaped p = true ∧ SeqAt.shaped q = true ∧ PyData.eqv p q = b := by
  unfold eqD at e
  cases q1 : toPy M fuelD x with
  | none => rw [q1] at e; cases e
  | some p =>
    cases q2 : toPy M fuelD y with
    | none => rw [q1, q2] at e; cases e
    | some q =>
      rw [q1, q2] at e
      simp only at e
      split at e
      · rename_i h
        cases e
        exact ⟨p, q, toPy_dp hM _ _ _ _ q1 rx, toPy_dp hM _ _ _ _ q2 ry, h.1, h.2, rfl⟩
      · cases e
section
variable {X : Cx} {fa : Nat → Addr}
theorem os_eq : OpS (GX X fa) oEq (orR rEq (rEqD X.K)) := fun m H M x y dx dy d M' Q hM rx ry e k => by
  unfold oEq at e
  split at e
  · cases e
    cases rx
    cases ry
    exact .inl ⟨rfl, by rw [dec_str]; exact k.here hM _ (.bl _)⟩
  · cases q : eqD M dx dy with
    | none => rw [q] at e; cases e
    | some b =>
      rw [q] at e
      cases e
      obtain ⟨p, r, h1, h2, h3, h4, h5⟩ := eqD_dp hM q rx ry
      exact .inr ⟨p, r, h1, h2, h3, h4, by rw [h5]; exact k.here hM _ (.bl b)⟩
theorem os_ne : OpS (GX X fa) oNe (orR rNe (rNeD X.K)) := fun m H M x y dx dy d M' Q hM rx ry e k => by
  unfold oNe at e
  split at e
  · cases e
    cases rx
    cases ry
    exact .inl ⟨rfl, by rw [dec_str]; exact k.here hM _ (.bl _)⟩
  · cases q : eqD M dx dy with
    | none => rw [q] at e; cases e
    | some b =>
      rw [q] at e
      cases e
      obtain ⟨p, r, h1, h2, h3, h4, h5⟩ := eqD_dp hM q rx ry
      exact .inr ⟨p, r, h1, h2, h3, h4, by rw [h5]; exact k.here hM _ (.bl _)⟩
/-! ints -/
def oI (c : Int → Int → Bool) (g : Int → Int → D) : D → D → Mem → R D := fun x y M => match x, y with
  | .int i, .int j => if c i j = true then some (g i j, M) else none
  | _, _ => none
theorem os_I {C : Int → Int → Prop} {c : Int → Int → Bool} {g : Int → Int → D} {gv : Int → Int → V} (hc : ∀ i j, c i j = true → C i j) (hg : ∀ (G : Gm) (H : Hp) (m : List Addr) i j v, RD G H m (g i j) v → v = gv i j) (hg2 : ∀ (G : Gm) (H : Hp) (m : List Addr) i j, RD G H m (g i j) (gv i j)) : OpS (GX X fa) (oI c g) (rI C gv) := fun m H M x y dx dy d M' Q hM rx ry e k => by
  unfold oI at e
  split at e
  · rename_i i j
    split at e
    · rename_i h
      cases e
      cases rx
      cases ry
      exact ⟨i, j, rfl, rfl, hc i j h, k.here hM _ (hg2 _ _ _ i j)⟩
    · cases e
  · cases e
def oI0 (g : Int → Int → D) : D → D → Mem → R D := fun x y M => match x, y with
  | .int i, .int j => some (g i j, M)
  | _, _ => none
theorem os_I0 {g : Int → Int → D} {gv : Int → Int → V} (hg2 : ∀ (G : Gm) (H : Hp) (m : List Addr) i j, RD G H m (g i j) (gv i j)) : OpS (GX X fa) (oI0 g) (rI0 gv) := fun m H M x y dx dy d M' Q hM rx ry e k => by
  unfold oI0 at e
  split at e
  · rename_i i j
    cases e
    cases rx
    cases ry
    exact ⟨i, j, rfl, rfl, k.here hM _ (hg2 _ _ _ i j)⟩
  · cases e
def oSub : D → D → Mem → R D := oI0 fun i j => .int (i - j)
theorem os_sub : OpS (GX X fa) oSub (rI0 fun i j => .int (i - j)) := os_I0 fun _ _ _ i j => .int _
def oLt : D → D → Mem → R D := oI0 fun i j => .bl (decide (i < j))
theorem os_lt : OpS (GX X fa) oLt (rI0 fun i j => .bl (decide (i < j))) := os_I0 fun _ _ _ i j => .bl _
def oLe : D → D → Mem → R D := oI0 fun i j => .bl (decide (i ≤ j))
theorem os_le : OpS (GX X fa) oLe (rI0 fun i j => .bl (decide (i ≤ j))) := os_I0 fun _ _ _ i j => .bl _
def oGt : D → D → Mem → R D := oI0 fun i j => .bl (decide (j < i))
theorem os_gt : OpS (GX X fa) oGt (rI0 fun i j => .bl (decide (j < i))) := os_I0 fun _ _ _ i j => .bl _
def oGe : D → D → Mem → R D := oI0 fun i j => .bl (decide (j ≤ i))
theorem os_ge : OpS (GX X fa) oGe (rI0 fun i j => .bl (decide (j ≤ i))) := os_I0 fun _ _ _ i j => .bl _
def cMul (i j : Int) : Bool := decide (i.natAbs.log2 + j.natAbs.log2 < 1000000)
def oMul : D → D → Mem → R D := oI cMul fun i j => .int (i * j)
theorem os_mul : OpS (GX X fa) oMul (rI CMulW fun i j => .int (i * j)) := os_I (fun i j h => by first | exact (of_decide_eq_true h : i.natAbs.log2 + j.natAbs.log2 < 1000000) | exact (of_decide_eq_true h : 0 < j ∧ j.natAbs.log2 < 9000) | exact (of_decide_eq_true h : 0 ≤ j ∧ j ≤ 1000000 ∧ i.natAbs < 2 ^ 64) | exact of_decide_eq_true h) (fun _ _ _ i j v r => by cases r; rfl) fun _ _ _ i j => .int _
def cDiv (_ j : Int) : Bool := decide (0 < j ∧ j.natAbs.log2 < 9000)
def oDiv : D → D → Mem → R D := oI cDiv fun i j => .int (i / j)
theorem os_div : OpS (GX X fa) oDiv (rI CDivW fun i j => .int (i / j)) := os_I (fun i j h => by first | exact (of_decide_eq_true h : i.natAbs.log2 + j.natAbs.log2 < 1000000) | exact (of_decide_eq_true h : 0 < j ∧ j.natAbs.log2 < 9000) | exact (of_decide_eq_true h : 0 ≤ j ∧ j ≤ 1000000 ∧ i.natAbs < 2 ^ 64) | exact of_decide_eq_true h) (fun _ _ _ i j v r => by cases r; rfl) fun _ _ _ i j => .int _
def oMod : D → D → Mem → R D := oI (fun _ j => decide (0 < j)) fun i j => .int (i % j)
theorem os_mod : OpS (GX X fa) oMod (rI (fun _ j => 0 < j) fun i j => .int (i % j)) := os_I (fun i j h => by first | exact (of_decide_eq_true h : i.natAbs.log2 + j.natAbs.log2 < 1000000) | exact (of_decide_eq_true h : 0 < j ∧ j.natAbs.log2 < 9000) | exact (of_decide_eq_true h : 0 ≤ j ∧ j ≤ 1000000 ∧ i.natAbs < 2 ^ 64) | exact of_decide_eq_true h) (fun _ _ _ i j v r => by cases r; rfl) fun _ _ _ i j => .int _
def CPowB (i j : Int) : Prop := 0 ≤ j ∧ (Builtin.Int.intBits i : Int) * j ≤ 2 ^ 27
instance (i j : Int) : Decidable (CPowB i j) := by unfold CPowB; infer_instance
theorem op_powB : OpR X (binaryOp .Pow) (rI CPowB fun i j => .int (i ^ j.toNat)) := opI fun _ _ _ _ _ _ _ hc q => PyProof.Rows.pow_int hc.1 hc.2 q
def cPow (i j : Int) : Bool := decide (CPowB i j)
def oPow : D → D → Mem → R D := oI cPow fun i j => .int (i ^ j.toNat)
theorem os_pow : OpS (GX X fa) oPow (rI CPowB fun i j => .int (i ^ j.toNat)) := os_I (fun i j h => of_decide_eq_true h) (fun _ _ _ i j v r => by cases r; rfl) fun _ _ _ i j => .int _
/-! + -/
def oAdd : D → D → Mem → R D := fun x y M => match x, y with
  | .int i, .int j => some (.int (i + j), M)
  | .str a, .str b => if a.length + b.length ≤ sizeLine then some (.str (a ++ b), M) else none
  | .tup xs, .tup ys => if xs.length + ys.length ≤ sizeLine then some (.tup (xs ++ ys), M) else none
  | .ref n, .ref k => match M[n]?, M[k]? with
    | some (.lst xs), some (.lst ys) => if xs.length + ys.length ≤ sizeLine then some (.ref M.length, M ++ [.lst (xs ++ ys)]) else none
    | _, _ => none
  | _, _ => none
abbrev rAdd4 (K : PySem.W.Frag) : R2 := orR (rI0 fun i j => .int (i + j)) (orR (fun x y H Q => ∃ i j, x = V.str i ∧ y = V.str j ∧ i.length + j.length ≤ sizeLine ∧ Q (.str (i ++ j)) H) (orR (rCatA K) rCat))
theorem opr_add4 : OpR X (binaryOp .Add) (rAdd4 X.K) := opr_or op_add (opr_or op_add_str (opr_or op_catA op_cat))
theorem os_add : OpS (GX X fa) oAdd (rAdd4 X.K) := fun m H M x y dx dy d M' Q hM rx ry e k => by
  unfold oAdd at e
  split at e
  · cases e; cases rx; cases ry; exact .inl ⟨_, _, rfl, rfl, k.here hM _ (.int _)⟩
  · split at e
    · rename_i h
      cases e; cases rx; cases ry
      exact .inr (.inl ⟨_, _, rfl, rfl, h, k.here hM _ (.str _)⟩)
    · cases e
  · split at e
    · rename_i xs ys h
      cases e
      cases rx with
      | @tup a _ vs ha rv =>
        cases ry with
        | @tup b _ ws hb rw' =>
          refine .inr (.inr (.inl ⟨a, b, vs, ws, rfl, rfl, ha, hb, by rw [← rv.length, ← rw'.length]; exact h, fun ev => ?_, fun ev ew => ?_, fun ev ew p hp => ?_⟩))
          · subst ev
            cases rv
            exact k.here hM _ (.tup hb rw')
          · subst ew
            cases rw'
            rw [List.append_nil] at k
            exact k.here hM _ (.tup ha rv)
          · refine k m _ (List.prefix_refl _) (Ext.new hp) (hM.new hp) _ (.tup (SqT.of upd_same) ?_)
            exact (rv.append rw').mono (List.prefix_refl _) (Ext.new hp)
    · cases e
  · rename_i n k'
    cases q1 : M[n]? with
    | none => rw [q1] at e; cases e
    | some o1 =>
      cases q2 : M[k']? with
      | none => rw [q1, q2] at e; cases o1 <;> cases e
      | some o2 =>
        rw [q1, q2] at e
        cases o1 with
        | lst xs =>
          cases o2 with
          | lst ys =>
            simp only at e
            split at e
            · rename_i h
              cases e
              cases rx with
              | @ref _ a ha =>
                cases ry with
                | @ref _ b hb =>
                  obtain ⟨vs, e1, r1⟩ := hM.at_ _ _ _ ha q1
                  obtain ⟨ws, e2, r2⟩ := hM.at_ _ _ _ hb q2
                  refine .inr (.inr (.inr ⟨a, b, vs, ws, rfl, rfl, e1, e2, by rw [← r1.length, ← r2.length]; exact h, fun p hp => ?_⟩))
                  exact fin_push k hM hp ⟨_, upd_same, (r1.append r2).mono (List.prefix_append _ _) (Ext.new hp)⟩ _ (ref_last hM)
            · cases e
          | _ => cases e
        | _ => cases e
  · cases e
/-! is None -/
def D.isNon : D → Bool
  | .non => true
  | _ => false
def oIs (neg : Bool) : D → D → Mem → R D := fun x y M => match y with
  | .non => some (.bl (if neg then !x.isNon else x.isNon), M)
  | _ => none
theorem isNon_iff {G : Gm} {H : Hp} {m : List Addr} {d : D} {v : V} (r : RD G H m d v) : decide (v = .non) = d.isNon := by
  cases r <;> first | rfl | exact decide_eq_false (fun z => by cases z)
theorem os_isN : OpS (GX X fa) (oIs false) (fun x y H Q => y = .non ∧ Q (.bl (decide (x = .non))) H) := fun m H M x y dx dy d M' Q hM rx ry e k => by
  cases ry with
  | non => cases e; exact ⟨rfl, by rw [isNon_iff rx]; exact k.here hM _ (.bl _)⟩
  | _ => cases e
theorem os_notN : OpS (GX X fa) (oIs true) (fun x y H Q => y = .non ∧ Q (.bl (!decide (x = .non))) H) := fun m H M x y dx dy d M' Q hM rx ry e k => by
  cases ry with
  | non => cases e; exact ⟨rfl, by rw [isNon_iff rx]; exact k.here hM _ (.bl _)⟩
  | _ => cases e
/-! items -/
def atD (xs : List D) (i : Int) : Option D := (L2.ixN xs.length i).bind fun j => xs[j]?
theorem atD_rel {G : Gm} {H : Hp} {m : List Addr} {xs : List D} {vs : List V} {i : Int} {d : D} (r : RDs G H m xs vs) (e : atD xs i = some d) : ∃ v, atI vs i = some v ∧ RD G H m d v := by
  unfold atD at e
  unfold atI
  rw [← r.length]
  cases q : L2.ixN xs.length i with
  | none => rw [q] at e; cases e
  | some j =>
    rw [q] at e
    exact r.get (show xs[j]? = some d from e)
def oIx : D → D → Mem → R D := fun x y M => match x, y with
  | .tup xs, .int i => (atD xs i).map fun d => (d, M)
  | .ref n, .int i => match lstAt M n with
    | some xs => (atD xs i).map fun d => (d, M)
    | none => none
  | _, _ => none
abbrev rIx2 (K : PySem.W.Frag) : R2 := orR (rIxL K) (rIxT K)
theorem ixr_or {r q : R2} (a : IxR X r) (b : IxR X q) : IxR X (orR r q) := fun va sl pins s σ H x y v u Q I rx ry h hs => Or.elim h (fun z => a va sl pins s σ H x y v u Q I rx ry z hs) (fun z => b va sl pins s σ H x y v u Q I rx ry z hs)
theorem ix_both : IxR X (rIx2 X.K) := ixr_or ix_list ix_tup
theorem os_ix : OpS (GX X fa) oIx (rIx2 X.K) := fun m H M x y dx dy d M' Q hM rx ry e k => by
  unfold oIx at e
  split at e
  · rename_i xs i
    cases q : atD xs i with
    | none => rw [q] at e; cases e
    | some d' =>
      rw [q] at e
      cases e
      cases ry
      cases rx with
      | @tup a _ vs ha rv =>
        obtain ⟨v, h1, h2⟩ := atD_rel rv q
        exact .inr ⟨a, vs, i, v, rfl, rfl, ha, h1, k.here hM _ h2⟩
  · rename_i n i
    cases q0 : lstAt M n with
    | none => rw [q0] at e; cases e
    | some xs =>
      rw [q0] at e
      simp only at e
      cases q : atD xs i with
      | none => rw [q] at e; cases e
      | some d' =>
        rw [q] at e
        cases e
        cases ry
        cases rx with
        | ref ha =>
          obtain ⟨vs, hs, rv⟩ := hM.lstAt q0 ha
          obtain ⟨v, h1, h2⟩ := atD_rel rv q
          exact .inl ⟨_, vs, i, v, rfl, rfl, hs, h1, k.here hM _ h2⟩
  · cases e
variable {a b e o i : Expr} {eva evb : Ev} {pos p : Pos}
theorem l_ix {r : R2} {f : D → D → Mem → R D} (hx : IxR X r) (os : OpS (GX X fa) f r) (ha : PE X a (TEof (GX X fa) eva)) (hb : PE X b (TEof (GX X fa) evb)) (hs : PlainIx b := by first | exact (fun _ _ => rfl) | exact (fun _ => rfl) | rfl) : PE X (.Subscript a b pos) (TEof (GX X fa) (eBin f eva evb)) :=
  (pe_ix hx ha hb hs).imp fun _ _ _ h => bin_split os h
end
end Mi
set_option Elab.async false
set_option linter.all false
set_option maxRecDepth 100000
/-! calls of built-ins by data; slices; items stored; dicts -/
namespace Mi
open PySem PySem.Spec PyProof.Rows L2
section
variable {W : WX} {X : Cx} {fa : Nat → Addr} {a b e o i : Expr} {eva evb evo evi : Ev} {pos p : Pos} {es : List Expr}

def fInt : List D → Mem → R D := fun ds M => match ds with
  | [.int i] => some (.int i, M)
  | [.bl b] => some (.int (if b then 1 else 0), M)
  | _ => none
theorem one_of {G : Gm} {H : Hp} {m : List Addr} {d : D} {xs : List V} (r : RDs G H m [d] xs) : ∃ v, xs = [v] ∧ RD G H m d v := by
  cases r with
  | cons h t => cases t; exact ⟨_, rfl, h⟩
theorem two_of {G : Gm} {H : Hp} {m : List Addr} {d e : D} {xs : List V} (r : RDs G H m [d, e] xs) : ∃ v w, xs = [v, w] ∧ RD G H m d v ∧ RD G H m e w := by
  cases r with
  | cons h t => cases t with
    | cons h2 t2 => cases t2; exact ⟨_, _, rfl, h, h2⟩
theorem cs_int : CaS (GX X fa) fInt (fun xs H Q => (∃ i, xs = [V.int i] ∧ Q (.int i) H) ∨ ∃ k, xs = [V.bl k] ∧ Q (.int (if k then 1 else 0)) H) := fun m H M xs ds d M' Q hM r e k => by
  unfold fInt at e
  split at e
  · cases e
    obtain ⟨v, rfl, rv⟩ := one_of r
    cases rv
    exact .inl ⟨_, rfl, k.here hM _ (.int _)⟩
  · cases e
    obtain ⟨v, rfl, rv⟩ := one_of r
    cases rv
    exact .inr ⟨_, rfl, k.here hM _ (.int _)⟩
  · cases e
def fAbs : List D → Mem → R D := fun ds M => match ds with
  | [.int i] => some (.int (if i < 0 then -i else i), M)
  | _ => none
theorem cs_abs : CaS (GX X fa) fAbs (fun xs H Q => ∃ i, xs = [V.int i] ∧ Q (.int (if i < 0 then -i else i)) H) := fun m H M xs ds d M' Q hM r e k => by
  unfold fAbs at e
  split at e
  · cases e
    obtain ⟨v, rfl, rv⟩ := one_of r
    cases rv
    exact ⟨_, rfl, k.here hM _ (.int _)⟩
  · cases e
def fMax : List D → Mem → R D := fun ds M => match ds with
  | [.int i, .int j] => some (.int (if j > i then j else i), M)
  | _ => none
theorem cs_max : CaS (GX X fa) fMax (fun xs H Q => ∃ i j, xs = [V.int i, V.int j] ∧ Q (.int (if j > i then j else i)) H) := fun m H M xs ds d M' Q hM r e k => by
  unfold fMax at e
  split at e
  · cases e
    obtain ⟨v, w, rfl, rv, rw'⟩ := two_of r
    cases rv
    cases rw'
    exact ⟨_, _, rfl, k.here hM _ (.int _)⟩
  · cases e
def fMin : List D → Mem → R D := fun ds M => match ds with
  | [.int i, .int j] => some (.int (if j < i then j else i), M)
  | _ => none
theorem cs_min : CaS (GX X fa) fMin (fun xs H Q => ∃ i j, xs = [V.int i, V.int j] ∧ Q (.int (if j < i then j else i)) H) := fun m H M xs ds d M' Q hM r e k => by
  unfold fMin at e
  split at e
  · cases e
    obtain ⟨v, w, rfl, rv, rw'⟩ := two_of r
    cases rv
    cases rw'
    exact ⟨_, _, rfl, k.here hM _ (.int _)⟩
  · cases e
/-- len -/
def fLen : List D → Mem → R D := fun ds M => match ds with
  | [.tup xs] => some (.int xs.length, M)
  | [.str x] => if x.length ≤ sizeLine then some (.int x.length, M) else none
  | [.ref n] => match M[n]? with
    | some (.dK kvs) => some (.int kvs.length, M)
    | _ => match lstAt M n with
      | some xs => some (.int xs.length, M)
      | none => none
  | _ => none
abbrev rLen2 (K : PySem.W.Frag) : List V → Hp → VK → Prop := orC (fun xs H Q => ∃ x n, xs = [x] ∧ LenV K x H n ∧ Q (.int n) H) (fun xs H Q => ∃ a kvs, xs = [V.ref a] ∧ H a = some (.dK kvs) ∧ Q (.int kvs.length) H)
theorem RKs.length {G : Gm} {H : Hp} {m : List Addr} : ∀ {ds : List (Key × D)} {vs : List (Key × V)}, RKs G H m ds vs → ds.length = vs.length
  | _, _, .nil => rfl
  | _, _, .cons _ t => by rw [List.length_cons, List.length_cons, RKs.length t]
theorem cs_len : CaS (GX X fa) fLen (rLen2 X.K) := fun m H M xs ds d M' Q hM r e k => by
  unfold fLen at e
  split at e
  · cases e
    obtain ⟨v, rfl, rv⟩ := one_of r
    cases rv with
    | @tup a _ vs ha rds => exact .inl ⟨_, vs.length, rfl, .inr ⟨vs, ha, rfl⟩, by rw [← rds.length]; exact k.here hM _ (.int _)⟩
  · split at e
    · rename_i h
      cases e
      obtain ⟨v, rfl, rv⟩ := one_of r
      cases rv
      exact .inl ⟨_, _, rfl, ⟨h, rfl⟩, k.here hM _ (.int _)⟩
    · cases e
  · obtain ⟨v, rfl, rv⟩ := one_of r
    cases rv with
    | ref ha =>
      split at e
      · rename_i kvs q
        cases e
        obtain ⟨kws, h1, h2⟩ := hM.at_ _ _ _ ha q
        exact .inr ⟨_, kws, rfl, h1, by rw [← h2.length]; exact k.here hM _ (.int _)⟩
      · split at e
        · rename_i xs q
          cases e
          obtain ⟨vs, h1, h2⟩ := hM.lstAt q ha
          exact .inl ⟨_, vs.length, rfl, .inl ⟨vs, h1, rfl⟩, by rw [← h2.length]; exact k.here hM _ (.int _)⟩
        · cases e
  · cases e
theorem cr_len2 : CallR X (.builtin "len") (rLen2 X.K) := car_or call_len call_lenD
/-- the items of a list or a tuple -/
def itemsOf (M : Mem) : D → Option (List D)
  | .tup xs => some xs
  | .ref n => lstAt M n
  | _ => none
/-- list(x) -/
def fList : List D → Mem → R D := fun ds M => match ds with
  | [x] => match itemsOf M x with
    | some xs => some (.ref M.length, M ++ [.lst xs])
    | none => none
  | _ => none
theorem cs_list : CaS (GX X fa) fList (fun xs H Q => ∃ p ys, xs = [V.ref p] ∧ (SqL X.K H p ys ∨ SqT X.K H p ys) ∧ ∀ l, H l = none → Q (.ref l) (upd H l (.lst ys))) := fun m H M xs ds d M' Q hM r e k => by
  unfold fList at e
  split at e
  · rename_i x
    split at e
    · rename_i ys q
      cases e
      obtain ⟨v, rfl, rv⟩ := one_of r
      cases rv with
      | @tup a _ vs ha rds =>
        cases q
        exact ⟨a, vs, rfl, .inr ha, fun l hl => fin_push k hM hl ⟨vs, upd_same, rds.mono (List.prefix_append _ _) (Ext.new hl)⟩ _ (ref_last hM)⟩
      | ref ha =>
        obtain ⟨vs, hs, rds⟩ := hM.lstAt q ha
        exact ⟨_, vs, rfl, .inl hs, fun l hl => fin_push k hM hl ⟨vs, upd_same, rds.mono (List.prefix_append _ _) (Ext.new hl)⟩ _ (ref_last hM)⟩
      | _ => cases q
    · cases e
  · cases e
/-- tuple(x) -/
def fTuple : List D → Mem → R D := fun ds M => match ds with
  | [x] => match itemsOf M x with
    | some xs => some (.tup xs, M)
    | none => none
  | _ => none
theorem cs_tuple : CaS (GX X fa) fTuple (fun xs H Q => ∃ p ys, xs = [V.ref p] ∧ ((SqL X.K H p ys ∧ ∀ l, H l = none → Q (.ref l) (upd H l (.tup ys))) ∨ (SqT X.K H p ys ∧ Q (.ref p) H))) := fun m H M xs ds d M' Q hM r e k => by
  unfold fTuple at e
  split at e
  · rename_i x
    split at e
    · rename_i ys q
      cases e
      obtain ⟨v, rfl, rv⟩ := one_of r
      cases rv with
      | @tup a _ vs ha rds =>
        cases q
        exact ⟨a, vs, rfl, .inr ⟨ha, k.here hM _ (.tup ha rds)⟩⟩
      | ref ha =>
        obtain ⟨vs, hs, rds⟩ := hM.lstAt q ha
        refine ⟨_, vs, rfl, .inl ⟨hs, fun l hl => ?_⟩⟩
        exact k m _ (List.prefix_refl _) (Ext.new hl) (hM.new hl) _ (.tup (SqT.of upd_same) (rds.mono (List.prefix_refl _) (Ext.new hl)))
      | _ => cases q
    · cases e
  · cases e
/-- all(list of bools), sum(list of ints) -/
def blsOf : List D → Option (List Bool)
  | [] => some []
  | .bl b :: r => (blsOf r).map (b :: ·)
  | _ => none
def intsOf : List D → Option (List Int)
  | [] => some []
  | .int b :: r => (intsOf r).map (b :: ·)
  | _ => none
theorem bls_rel {G : Gm} {H : Hp} {m : List Addr} : ∀ {ds : List D} {vs : List V} {bs : List Bool}, RDs G H m ds vs → blsOf ds = some bs → vs = bs.map V.bl
  | _, _, _, .nil, e => by cases e; rfl
  | _, _, _, .cons r t, e => by
    cases r with
    | bl b =>
      rename_i ds _
      unfold blsOf at e
      cases q : blsOf ds with
      | none => rw [q] at e; cases e
      | some bs =>
        rw [q] at e
        cases e
        rw [bls_rel t q]
        rfl
    | _ => cases e
theorem ints_rel {G : Gm} {H : Hp} {m : List Addr} : ∀ {ds : List D} {vs : List V} {bs : List Int}, RDs G H m ds vs → intsOf ds = some bs → vs = bs.map V.int
  | _, _, _, .nil, e => by cases e; rfl
  | _, _, _, .cons r t, e => by
    cases r with
    | int b =>
      rename_i ds _
      unfold intsOf at e
      cases q : intsOf ds with
      | none => rw [q] at e; cases e
      | some bs =>
        rw [q] at e
        cases e
        rw [ints_rel t q]
        rfl
    | _ => cases e
def fAll : List D → Mem → R D := fun ds M => match ds with
  | [.ref n] => match lstAt M n with
    | some xs => (blsOf xs).map fun bs => (.bl (bs.all id), M)
    | none => none
  | _ => none
theorem cs_all : CaS (GX X fa) fAll (rAll X.K) := fun m H M xs ds d M' Q hM r e k => by
  unfold fAll at e
  split at e
  · split at e
    · rename_i ys q
      cases q2 : blsOf ys with
      | none => rw [q2] at e; cases e
      | some bs =>
        rw [q2] at e
        cases e
        obtain ⟨v, rfl, rv⟩ := one_of r
        cases rv with
        | ref ha =>
          obtain ⟨vs, hs, rds⟩ := hM.lstAt q ha
          rw [bls_rel rds q2] at hs
          exact ⟨_, bs, rfl, hs, k.here hM _ (.bl _)⟩
    · cases e
  · cases e
def fAny : List D → Mem → R D := fun ds M => match ds with
  | [.ref n] => match lstAt M n with
    | some xs => (blsOf xs).map fun bs => (.bl (bs.any id), M)
    | none => none
  | _ => none
theorem cs_any : CaS (GX X fa) fAny (rAny X.K) := fun m H M xs ds d M' Q hM r e k => by
  unfold fAny at e
  split at e
  · split at e
    · rename_i ys q
      cases q2 : blsOf ys with
      | none => rw [q2] at e; cases e
      | some bs =>
        rw [q2] at e
        cases e
        obtain ⟨v, rfl, rv⟩ := one_of r
        cases rv with
        | ref ha =>
          obtain ⟨vs, hs, rds⟩ := hM.lstAt q ha
          rw [bls_rel rds q2] at hs
          exact ⟨_, bs, rfl, hs, k.here hM _ (.bl _)⟩
    · cases e
  · cases e
def fSum : List D → Mem → R D := fun ds M => match ds with
  | [.ref n] => match lstAt M n with
    | some xs => (intsOf xs).map fun bs => (.int bs.sum, M)
    | none => none
  | _ => none
theorem cs_sum : CaS (GX X fa) fSum (rSum X.K) := fun m H M xs ds d M' Q hM r e k => by
  unfold fSum at e
  split at e
  · split at e
    · rename_i ys q
      cases q2 : intsOf ys with
      | none => rw [q2] at e; cases e
      | some bs =>
        rw [q2] at e
        cases e
        obtain ⟨v, rfl, rv⟩ := one_of r
        cases rv with
        | ref ha =>
          obtain ⟨vs, hs, rds⟩ := hM.lstAt q ha
          rw [ints_rel rds q2] at hs
          exact ⟨_, bs, rfl, hs, k.here hM _ (.int _)⟩
    · cases e
  · cases e
/-- repr -/
def canShow (d : PyData) : Bool := d.canLay0 && decide (d.depth ≤ 64) && d.showable && decide (d.shown.length ≤ sizeLine)
def fRepr : List D → Mem → R D := fun ds M => match ds with
  | [x] => match toPy M fuelD x with
    | some d => if canShow d = true then some (.str d.shown, M) else none
    | none => none
  | _ => none
def rRepr (K : PySem.W.Frag) : List V → Hp → VK → Prop := fun xs H Q => ∃ x d, xs = [x] ∧ Dp K H x d ∧ canShow d = true ∧ Q (.str d.shown) H
theorem cr_repr (hg : X.A.guards = some []) (hu : X.A.units + 65 < cLine) : CallR X (.builtin "repr") (rRepr X.K) := by
  intro pins s σ H xs us Q I r h
  obtain ⟨x, d, rfl, hd, hc, q⟩ := h
  unfold canShow at hc
  simp only [Bool.and_eq_true, decide_eq_true_eq] at hc
  obtain ⟨⟨⟨hl, hp⟩, hs⟩, hz⟩ := hc
  obtain ⟨u, rfl, ru⟩ := vals1 r
  cases hd with
  | non => cases ru; exact PySem.P.repr_of_none ⟨.str _, H, I.tok _, ⟨_, rfl⟩, by rw [PyData.shown_none] at q; exact q⟩
  | bl b => cases ru; exact PySem.P.repr_of_bool ⟨.str _, H, I.tok _, ⟨_, rfl⟩, by rw [PyData.shown_bool] at q; exact q⟩
  | int i =>
    obtain ⟨t, rfl⟩ := ru
    refine PySem.P.repr_of_int (by simpa [PyData.showable] using hs) ⟨.str _, H, I.tok _, ⟨_, rfl⟩, by rw [PyData.shown_int] at q; exact q⟩
  | str z =>
    obtain ⟨t, rfl⟩ := ru
    rw [PyData.shown_str] at hz q
    exact PySem.P.repr_of_str ⟨.str _, H, I.tok _, ⟨_, rfl⟩, q⟩ hz
  | lst ha hb =>
    obtain ⟨as, rd⟩ := Dp.reads I _ _ _ (.lst ha hb) ru
    cases ru
    refine repr_of_reads' rd hs (PyData.noDict_hsm (PyData.hasDict_of_canLay _ hl)) hg (by omega) (fun _ _ z => z) (fun h' u tk hk => ?_) hz
    exact ⟨.str _, H, I.kept (t' := tk) hk, ⟨_, rfl⟩, q⟩
  | tup ha hb =>
    obtain ⟨as, rd⟩ := Dp.reads I _ _ _ (.tup ha hb) ru
    cases ru
    refine repr_of_reads' rd hs (PyData.noDict_hsm (PyData.hasDict_of_canLay _ hl)) hg (by omega) (fun _ _ z => z) (fun h' u tk hk => ?_) hz
    exact ⟨.str _, H, I.kept (t' := tk) hk, ⟨_, rfl⟩, q⟩
theorem cs_repr : CaS (GX X fa) fRepr (rRepr X.K) := fun m H M xs ds d M' Q hM r e k => by
  unfold fRepr at e
  split at e
  · split at e
    · rename_i x pd q
      split at e
      · rename_i hc
        cases e
        obtain ⟨v, rfl, rv⟩ := one_of r
        exact ⟨v, pd, rfl, toPy_dp hM _ _ _ _ q rv, hc, k.here hM _ (.str _)⟩
      · cases e
    · cases e
  · cases e
/-- list(range(n)) -/
def eLrg (ev : Ev) : Ev := fun ρ M => bindO (ev ρ M) fun d M1 => match d with
  | .int n => if n ≤ 16777216 ∧ 0 ≤ n then some (.ref M1.length, M1 ++ [.lst (rgD 0 n.toNat)]) else none
  | _ => none
theorem rgV_rel {G : Gm} {H : Hp} {m : List Addr} (n : Int) : RDs G H m (rgD 0 n.toNat) (rgV 0 n) := by
  unfold rgD rgV
  have e : (n - 0).toNat = n.toNat := by rw [Int.sub_zero]
  rw [e]
  generalize List.range n.toNat = l
  induction l with
  | nil => exact .nil
  | cons x l ih => exact .cons (.int _) ih
theorem l_listRg {pr pp : Pos} (hm1 : X.mg "range" = none) (hm2 : X.mg "list" = none) (ha : PE X a (TEof (GX X fa) eva)) (hc : X.calm = true := by rfl) (hg1 : Gl X "range" := by rfl) (hg2 : Gl X "list" := by rfl) (n1 : starEach [a] X.env = (false, eval a X.env) :: starEach [] X.env := by rfl)
    (n2 : starEach [.Call (.Name "range" pr) [a] [] pp] X.env = (false, eval (.Call (.Name "range" pr) [a] [] pp) X.env) :: starEach [] X.env := by rfl) : PE X (.Call (.Name "list" p) [.Call (.Name "range" pr) [a] [] pp] [] pos) (TEof (GX X fa) (eLrg eva)) := by
  refine (pe_listRg hc hg2 hm2 (prg_1 hg1 hm1 ha n1) n2).imp fun σ H Q ⟨m, M, ρ, d, M', hρ, hM, e, fin⟩ => ?_
  refine te_bind hρ hM e fin fun m1 H1 M1 d1 v hρ1 hM1 rd e1 fin1 p1 x1 => ?_
  cases rd with
  | int n =>
    simp only at e1
    split at e1
    · rename_i h
      cases e1
      refine ⟨n, rfl, RgOk.of_le (Int.le_refl 0) h.1 (by decide) h.2, fun q hq => ?_⟩
      exact fin_push fin1 hM1 hq ⟨_, upd_same, rgV_rel n⟩ _ (ref_last hM1)
    · cases e1
  | _ => cases e1

/-! slices: t[lo:hi], written ints or none -/
def cutD (xs : List D) (lo hi : Option Int) : List D := (xs.drop (HT.sIx xs.length 0 lo)).take (HT.sIx xs.length xs.length hi - HT.sIx xs.length 0 lo)
theorem cut_rel {G : Gm} {H : Hp} {m : List Addr} {xs : List D} {vs : List V} (r : RDs G H m xs vs) (lo hi : Option Int) : RDs G H m (cutD xs lo hi) (cutV vs lo hi) := by
  unfold cutD cutV
  rw [← r.length]
  exact (r.drop _).take _
def EvO := Loc → Mem → R (Option Int)
def poNone : EvO := fun _ M => some (none, M)
def poSome (ev : Ev) : EvO := fun ρ M => bindO (ev ρ M) fun d M1 => match d with
  | .int i => some (some i, M1)
  | _ => none
def TOof (G : Gm) (ev : EvO) : TO := fun σ H Q => ∃ m M ρ d M', Rho G H m ρ σ ∧ RM G H m M ∧ ev ρ M = some (d, M') ∧ Fin G m H M' fun _ H' => Q d H'
theorem PO.imp {X : Cx} {e : Option Expr} {t t' : TO} (h : PO X e t) (i : ∀ σ H Q, t' σ H Q → t σ H Q) : PO X e t' := ⟨fun p s σ H Q I q => h.run p s σ H Q I (i σ H Q q)⟩
theorem l_onone : PO X none (TOof (GX X fa) poNone) := PO.imp po_none fun σ H Q ⟨m, M, ρ, d, M', hρ, hM, e, fin⟩ => by cases e; exact fin.here hM
theorem l_osome (ha : PE X a (TEof (GX X fa) eva)) : PO X (some a) (TOof (GX X fa) (poSome eva)) := by
  refine PO.imp (po_some ha) fun σ H Q ⟨m, M, ρ, d, M', hρ, hM, e, fin⟩ => ?_
  refine te_bind hρ hM e fin fun m1 H1 M1 d1 v hρ1 hM1 rd e1 fin1 p1 x1 => ?_
  cases rd with
  | int n => cases e1; exact ⟨n, rfl, fin1.here hM1⟩
  | _ => cases e1
theorem to_bind {G : Gm} {α : Type} {m : List Addr} {M M' : Mem} {ρ : Loc} {σ : L2.St} {H : Hp} {r : α} {k : List Addr → Hp → Prop} {ev : EvO} {f : Option Int → Mem → R α} (hρ : Rho G H m ρ σ) (hM : RM G H m M) (e : bindO (ev ρ M) f = some (r, M')) (fin : Fin G m H M' k) {Q : Option Int → Hp → Prop}
    (next : ∀ m1 H1 M1 b, Rho G H1 m1 ρ σ → RM G H1 m1 M1 → f b M1 = some (r, M') → Fin G m1 H1 M' k → m <+: m1 → Ext G H H1 → Q b H1) : TOof G ev σ H Q := by
  cases q : ev ρ M with
  | none => rw [q] at e; cases e
  | some p =>
    obtain ⟨d, M1⟩ := p
    rw [q] at e
    exact ⟨m, M, ρ, d, M1, hρ, hM, q, fun m1 H1 a b c => next m1 H1 M1 d (hρ.mono a b) c e (fin.mono a b) a b⟩
def eSl (ev : Ev) (lo hi : EvO) : Ev := fun ρ M => bindO (ev ρ M) fun d M1 => bindO (lo ρ M1) fun l M2 => bindO (hi ρ M2) fun h M3 => match d with
  | .tup xs => some (.tup (cutD xs l h), M3)
  | .ref n => match lstAt M3 n with
    | some xs => some (.ref M3.length, M3 ++ [.lst (cutD xs l h)])
    | none => none
  | _ => none
def orS (r q : V → Option Int → Option Int → Hp → VK → Prop) : V → Option Int → Option Int → Hp → VK → Prop := fun x l h H Q => r x l h H Q ∨ q x l h H Q
theorem slr_or {r q : V → Option Int → Option Int → Hp → VK → Prop} (a : SlR X r) (b : SlR X q) : SlR X (orS r q) := fun pins s σ H x v vl vu lo hi sl Q I rx hs pl pu h => Or.elim h (fun z => a pins s σ H x v vl vu lo hi sl Q I rx hs pl pu z) fun z => b pins s σ H x v vl vu lo hi sl Q I rx hs pl pu z
theorem l_slice {lo hi : Option Expr} {evl evh : EvO} {p2 : Pos} (ha : PE X a (TEof (GX X fa) eva)) (hl : PO X lo (TOof (GX X fa) evl)) (hh : PO X hi (TOof (GX X fa) evh)) : PE X (.Subscript a (.Slice lo hi none p2) pos) (TEof (GX X fa) (eSl eva evl evh)) := by
  refine (pe_slice (slr_or sl_list sl_tupA) ha hl hh).imp fun σ H Q ⟨m, M, ρ, d, M', hρ, hM, e, fin⟩ => ?_
  refine te_bind hρ hM e fin fun m1 H1 M1 d1 v hρ1 hM1 rd e1 fin1 p1 x1 => ?_
  refine to_bind hρ1 hM1 e1 fin1 fun m2 H2 M2 l hρ2 hM2 e2 fin2 p2 x2 => ?_
  refine to_bind hρ2 hM2 e2 fin2 fun m3 H3 M3 h hρ3 hM3 e3 fin3 p3 x3 => ?_
  have rd3 := (rd.mono p2 x2).mono p3 x3
  cases rd3 with
  | @tup a xs vs ha rds =>
    cases e3
    refine .inr ⟨a, vs, rfl, ha, fun hw => ?_, fun hw p hp => ?_⟩
    · have hv : cutV vs l h = vs := by
        unfold cutV
        rw [hw.1, hw.2, Nat.sub_zero, List.drop_zero, List.take_length]
      have r := cut_rel rds l h
      rw [hv] at r
      exact fin3.here hM3 _ (.tup ha r)
    · exact fin3 m3 _ (List.prefix_refl _) (Ext.new hp) (hM3.new hp) _ (.tup (SqT.of upd_same) ((cut_rel rds l h).mono (List.prefix_refl _) (Ext.new hp)))
  | @ref n a ha =>
    simp only at e3
    cases q : lstAt M3 n with
    | none => rw [q] at e3; cases e3
    | some xs =>
      rw [q] at e3
      cases e3
      obtain ⟨vs, hs, rds⟩ := hM3.lstAt q ha
      exact .inl ⟨a, vs, rfl, hs, fun p hp => fin_push fin3 hM3 hp ⟨_, upd_same, (cut_rel rds l h).mono (List.prefix_append _ _) (Ext.new hp)⟩ _ (ref_last hM3)⟩
  | _ => cases e3

/-! xs[i] = e -/
def setL (M : Mem) (n : Nat) (k : Int) (d : D) : Option Mem := match M[n]? with
  | some (.lst xs) => (ixN xs.length k).map fun j => M.set n (.lst (xs.set j d))
  | _ => none
def sSub (evo evi eve : Ev) : Es := fun ρ M => bindO (eve ρ M) fun d M1 => bindO (evo ρ M1) fun o M2 => bindO (evi ρ M2) fun i M3 => match o, i with
  | .ref n, .int k => (setL M3 n k d).map fun M4 => (.next ρ, M4)
  | _, _ => none
theorem l_ssub {eve : Ev} {ps : Pos} (ho : PE X o (TEof (GX X fa) evo)) (hi : PE X i (TEof (GX X fa) evi)) (he : PE X e (TEof (GX X fa) eve)) (hs : swapsWithSole [.Subscript o i ps] e pos.line X.env = pure false := by rfl) (hw : swappedStores [.Subscript o i ps] e X.env = pure none := by rfl)
    (h1 : (assignEach [.Subscript o i ps] X.env).map (·.2) = [assign (.Subscript o i ps) X.env] := by rfl) (hA : ∀ v, assign (.Subscript o i ps) X.env v = (do
      let ov ← holding [v] (eval o X.env)
      let iv ← holding [v, ov] (eval i X.env)
      standAt ps
      holding [v, ov, iv] (setItem ov iv v)
      release [v, ov, iv] []) := by intro _; rfl) : PS X (.Assign [.Subscript o i ps] e pos) (TSw W (GX X fa) (sSub evo evi eve)) := by
  refine (ps_asg he (pg_sub ho hi set_list hA) hs hw h1).imp fun D σ H ⟨m, M, ρ, out, M', hρ, hM, e, fin⟩ => ?_
  refine te_bind hρ hM e fin fun m1 H1 M1 d1 v hρ1 hM1 rd e1 fin1 p1 x1 => ?_
  refine te_bind hρ1 hM1 e1 fin1 fun m2 H2 M2 d2 w hρ2 hM2 rd2 e2 fin2 p2 x2 => ?_
  refine te_bind hρ2 hM2 e2 fin2 fun m3 H3 M3 d3 z hρ3 hM3 rd3 e3 fin3 p3 x3 => ?_
  have rdv := (rd.mono p2 x2).mono p3 x3
  have rdo := rd2.mono p3 x3
  cases rdo with
  | @ref n a ha =>
    cases rd3 with
    | int k =>
      simp only at e3
      unfold setL at e3
      split at e3
      · rename_i xs q
        cases q2 : ixN xs.length k with
        | none => rw [q2] at e3; cases e3
        | some j =>
          rw [q2] at e3
          cases e3
          obtain ⟨vs, g1, g2⟩ := hM3.at_ _ _ _ ha q
          have mu : MutL (H3 a) := by rw [g1]; trivial
          refine ⟨a, vs, k, j, rfl, rfl, g1, by rw [← g2.length]; exact q2, ?_⟩
          exact fin3 m3 _ (List.prefix_refl _) (Ext.write mu) (hM3.set ha q rfl rfl ⟨_, upd_same, (g2.set rdv j).mono (List.prefix_refl _) (Ext.write mu)⟩) σ (hρ3.mono (List.prefix_refl _) (Ext.write mu))
      · cases e3
    | _ => cases e3
  | _ => cases e3
/-! xs.append(e) -/
def eApp (evo eve : Ev) : Ev := fun ρ M => bindO (evo ρ M) fun o M1 => bindO (eve ρ M1) fun d M2 => match o with
  | .ref n => match M1[n]? with
    | some (.lst _) => (lput M2 n d).map fun M3 => (.non, M3)
    | _ => none
  | _ => none
theorem l_append {eve : Ev} {ap cp : Pos} (ho : PE X o (TEof (GX X fa) evo)) (he : PE X e (TEof (GX X fa) eve)) (hbase : attributeBase o "append" X.env (eval o X.env) = eval o X.env := by rfl)
    (hfew : ((backTo cp (starEach [e] X.env)).all (fun x => !x.1) && (backToKw cp (keywordEach [] X.env)).all (fun x => x.1.isSome)
      && decide ([e].length + ([] : List Keyword).length + (if ([] : List Keyword).isEmpty then 0 else 1) < 30)) = true := by rfl)
    (hline : (ap.endLine == cp.line) = true := by rfl) (hs : starEach [e] X.env = (false, eval e X.env) :: starEach [] X.env := by rfl) (hpl : (backTo cp (starEach [] X.env)).any (·.1) = false := by rfl) : PE X (.Call (.Attribute o "append" ap) [e] [] cp) (TEof (GX X fa) (eApp evo eve)) := by
  refine (pe_bm PySem.F.plainAttrs_list PySem.F.slot_list_append PySem.F.type_list_append mt_append ho (l_cons he l_nil hs) hbase hfew hline hs hpl).imp fun σ H Q ⟨m, M, ρ, d, M', hρ, hM, e, fin⟩ => ?_
  refine te_bind hρ hM e fin fun m1 H1 M1 d1 v hρ1 hM1 rd e1 fin1 p1 x1 => ?_
  cases rd with
  | @ref n a ha =>
    refine ⟨?_, ?_⟩
    · cases q : M1[n]? with
      | none =>
        cases q2 : eve ρ M1 with
        | none => rw [q2] at e1; cases e1
        | some pr =>
          rw [q2] at e1
          have e2 : (match M1[n]? with
            | some (.lst _) => (lput pr.2 n pr.1).map fun M3 => (D.non, M3)
            | _ => none) = some (d, M') := e1
          rw [q] at e2
          cases e2
      | some mo =>
        cases mo with
        | lst xs =>
          obtain ⟨vs, g1, g2⟩ := hM1.at_ _ _ _ ha q
          exact .inl ⟨rfl, vs, SqL.of g1⟩
        | _ =>
          cases q2 : eve ρ M1 with
          | none => rw [q2] at e1; cases e1
          | some pr =>
            rw [q2] at e1
            have e2 : (match M1[n]? with
              | some (.lst _) => (lput pr.2 n pr.1).map fun M3 => (D.non, M3)
              | _ => none) = some (d, M') := e1
            rw [q] at e2
            cases e2
    · cases q2 : eve ρ M1 with
      | none => rw [q2] at e1; cases e1
      | some pr =>
        obtain ⟨d2, M2⟩ := pr
        rw [q2] at e1
        have e2 : (match M1[n]? with
          | some (.lst _) => (lput M2 n d2).map fun M3 => (D.non, M3)
          | _ => none) = some (d, M') := e1
        refine ⟨m1, M1, ρ, [d2], M2, hρ1, hM1, by unfold eCons; rw [q2]; rfl, fun m2 H2 pm xm hM2 vs rds => ?_⟩
        obtain ⟨w, rfl, rw'⟩ := one_of rds
        cases q3 : lput M2 n d2 with
        | none =>
          rw [q3] at e2
          split at e2 <;> cases e2
        | some M3 =>
          rw [q3] at e2
          split at e2
          · cases e2
            obtain ⟨ws, g1, g2, g3, g4⟩ := hM2.lput q3 (pre_get pm ha) rw'
            exact ⟨a, ws, w, rfl, rfl, g1, g2, (fin1.mono pm xm) m2 _ (List.prefix_refl _) g4 g3 _ .non⟩
          · cases e2
  | _ =>
    cases q2 : eve ρ M1 with
    | none => rw [q2] at e1; cases e1
    | some pr => rw [q2] at e1; cases e1
end
end Mi
set_option Elab.async false
set_option linter.all false
set_option maxRecDepth 100000
/-! more rules by data: sequences walked, in, isinstance, chains, minus, three at once, truth, zip -/
namespace Mi
open PySem PySem.Spec PyProof.Rows L2
section
variable {W : WX} {X : Cx} {fa : Nat → Addr} {a b c e o i : Expr} {eva evb evc evo evi : Ev} {pos p : Pos} {es : List Expr}

/-! for over a list or a tuple, whichever it is -/
def iSeq (K : PySem.W.Frag) (tl : TE) : TI := fun σ H R => tl σ H fun x H1 => ∃ q, x = .ref q ∧ (((∃ xs, SqL K H1 q xs) ∧ R (Itl K q) H1) ∨ ((∃ xs, SqT K H1 q xs) ∧ R (Itt K q) H1))
theorem pi_seq {tg : Expr} {tl : TE} (hl : PE X a tl) : PI X tg a (iSeq X.K tl) := by
  constructor
  intro pins st σ H R I h
  refine thn (hl.run pins st σ H _ I h) ?_
  rintro v s1 ⟨x, H1, I1, r1, q1⟩
  have fp : ∀ {b : Addr}, b ∈ [s1.heap.objs.size] → FpOk X pins H1 b := by
    intro b hb
    have e : b = s1.heap.objs.size := by simpa using hb
    rw [e]
    exact I1.fpOk (Nat.le_refl _) (I1.hok.fresh (Nat.le_refl _))
  obtain ⟨q, e, q1⟩ := q1
  subst e
  cases r1
  rcases q1 with ⟨⟨xs, hq⟩, k⟩ | ⟨⟨xs, hq⟩, k⟩
  · obtain ⟨its, rv, pl, hz⟩ := I1.list hq
    apply wpAny_pyIter_list pl.isList
    exact ⟨_, [s1.heap.objs.size], _, _, H1, rfl, I1.kept (t' := s1.toks) (fun b o e => Heap.get?_push_of_some _ e), turn_list q _, ⟨_, Heap.get?_push_size _ rfl, rfl, rfl⟩, fun b hb => fp hb, k⟩
  · obtain ⟨its, rv, pt, hz⟩ := I1.tuple hq
    apply wpAny_pyIter_tuple (show s1.heap.IsTuple q its.toArray from pt)
    exact ⟨_, [s1.heap.objs.size], _, _, H1, rfl, I1.kept (t' := s1.toks) (fun b o e => Heap.get?_push_of_some _ e), turn_tuple q _, ⟨_, Heap.get?_push_size _ rfl, rfl, rfl⟩, fun b hb => fp hb, k⟩
def iSq (ev : Ev) : EvI := fun ρ M => bindO (ev ρ M) fun d M1 => match d with
  | .tup ds => some ((fun _ => some ds), M1)
  | .ref n => if (lstAt M1 n).isSome then some ((fun M2 => lstAt M2 n), M1) else none
  | _ => none
theorem l_iseq {tg : Expr} (he : PE X a (TEof (GX X fa) eva)) : PI X tg a (TIof (GX X fa) (iSq eva)) := by
  refine PI.imp (pi_seq he) fun σ H Rk ⟨m, M, ρ, get, M', hρ, hM, e, fin⟩ => ?_
  refine te_bind hρ hM e fin fun m1 H1 M1 d1 v hρ1 hM1 rd e1 fin1 p1 x1 => ?_
  cases rd with
  | @ref n a ha =>
    have e2 : (if (Mi.lstAt M1 n).isSome then some ((fun M2 => Mi.lstAt M2 n), M1) else none) = some (get, M') := e1
    split at e2
    · rename_i hs
      cases e2
      obtain ⟨ys, hy⟩ := Option.isSome_iff_exists.mp hs
      obtain ⟨vs, q1, q2⟩ := hM1.lstAt hy ha
      refine ⟨a, rfl, .inl ⟨⟨vs, q1⟩, fin1.here hM1 _ fun i H2 m2 M2 xs pm xm hM2 hx => ?_⟩⟩
      obtain ⟨ws, k1, k2⟩ := hM2.lstAt hx (pre_get pm ha)
      refine ⟨fun hn => ⟨ws, k1, by rw [← k2.length]; exact List.getElem?_eq_none_iff.mp hn⟩, fun d hd => ?_⟩
      obtain ⟨w, hw, rw'⟩ := k2.get hd
      refine ⟨⟨ws, w, k1, hw⟩, fun x H3 y => ?_⟩
      obtain ⟨rfl, y⟩ := y
      have ew := y ws k1
      rw [hw] at ew
      cases ew
      exact ⟨Ext.refl, hM2, rw'⟩
    · cases e2
  | @tup a ds vs ha rds =>
    cases e1
    refine ⟨a, rfl, .inr ⟨⟨vs, ha⟩, fin1.here hM1 _ fun i H2 m2 M2 xs pm xm hM2 hx => ?_⟩⟩
    cases hx
    have ha2 := xm.t _ _ ha
    have rds2 := rds.mono pm xm
    refine ⟨fun hn => ⟨vs, ha2, by rw [← rds.length]; exact List.getElem?_eq_none_iff.mp hn⟩, fun d hd => ?_⟩
    obtain ⟨w, hw, rw'⟩ := rds2.get hd
    refine ⟨⟨vs, w, ha2, hw⟩, fun x H3 y => ?_⟩
    obtain ⟨rfl, y⟩ := y
    have ew := y vs ha2
    rw [hw] at ew
    cases ew
    exact ⟨Ext.refl, hM2, rw'⟩
  | _ => cases e1

/-! x in y, y a list or a tuple of data, a dict -/
def keyD : D → Option Key
  | .int i => some (.inl i)
  | .str x => some (.inr x)
  | _ => none
theorem keyD_rel {G : Gm} {H : Hp} {m : List Addr} {d : D} {v : V} {k : Key} (r : RD G H m d v) (e : keyD d = some k) : v = kV k := by
  cases r <;> cases e <;> rfl
def valD (kvs : List (Key × D)) (k : Key) : Option D := (kvs.find? fun kv => decide (kv.1 = k)).map (·.2)
theorem valD_rel {G : Gm} {H : Hp} {m : List Addr} {k : Key} : ∀ {ds : List (Key × D)} {vs : List (Key × V)}, RKs G H m ds vs → (valD ds k = none → valV vs k = none) ∧ ∀ d, valD ds k = some d → ∃ v, valV vs k = some v ∧ RD G H m d v
  | _, _, .nil => ⟨fun _ => rfl, fun d e => by cases e⟩
  | _, _, @RKs.cons _ _ _ k' d v ds vs r t => by
    obtain ⟨h1, h2⟩ := valD_rel (k := k) t
    by_cases hk : k' = k
    · have e1 : valD ((k', d) :: ds) k = some d := by simp [valD, List.find?_cons, hk]
      have e2 : valV ((k', v) :: vs) k = some v := valV_pos hk
      refine ⟨fun z => (by rw [e1] at z; cases z), fun d' z => ?_⟩
      rw [e1] at z
      cases z
      exact ⟨v, e2, r⟩
    · have e1 : valD ((k', d) :: ds) k = valD ds k := by simp [valD, List.find?_cons, hk]
      have e2 : valV ((k', v) :: vs) k = valV vs k := valV_neg hk
      rw [e1, e2]
      exact ⟨h1, h2⟩
def inD (M : Mem) (x y : D) : Option Bool := match y with
  | .ref n => match M[n]? with
    | some (.dK kvs) => (keyD x).map fun k => (valD kvs k).isSome
    | _ => match toPy M fuelD x, toPy M fuelD y with
      | some d, some (.list ds) => if SeqAt.shaped d = true ∧ SeqAt.shaped (.list ds) = true then some (ds.any fun z => PyData.eqv z d) else none
      | _, _ => none
  | .tup _ => match toPy M fuelD x, toPy M fuelD y with
    | some d, some (.tuple ds) => if SeqAt.shaped d = true ∧ SeqAt.shaped (.tuple ds) = true then some (ds.any fun z => PyData.eqv z d) else none
    | _, _ => none
  | _ => none
def oIn (neg : Bool) : D → D → Mem → R D := fun x y M => (inD M x y).map fun b => (.bl (if neg then !b else b), M)
/-- what is asked of a membership by values -/
def rIn3 (K : PySem.W.Frag) (neg : Bool) : R2 := fun x y H Q =>
  (∃ d ds, Dp K H x d ∧ (Dp K H y (.list ds) ∧ SeqAt.shaped (.list ds) = true ∨ Dp K H y (.tuple ds) ∧ SeqAt.shaped (.tuple ds) = true) ∧ SeqAt.shaped d = true ∧ Q (.bl (if neg then !ds.any (fun z => PyData.eqv z d) else ds.any fun z => PyData.eqv z d)) H) ∨
  ∃ q ov, y = .ref q ∧ DGet H q x ov ∧ Q (.bl (if neg then !ov.isSome else ov.isSome)) H
theorem room_tup {A : Around} {ds : List PyData} {d : PyData} (h : SeqAt.shaped d = true) (hu : A.units + 65 < cLine) : A.units + 1 + min (PyData.depthAll ds) d.depth < cLine := by
  have h1 := SeqAt.depth_of_shaped h
  have h2 : min (PyData.depthAll ds) d.depth ≤ d.depth := Nat.min_le_right _ _
  omega
theorem canLay_tup {ds : List PyData} (h : SeqAt.shaped (.tuple ds) = true) : PyData.canLayAll0 ds = true := by
  have := SeqAt.canLay_of_shaped h
  simpa [PyData.canLay0] using this
theorem opr_in (hu : X.A.units + 65 < cLine) : OpR X (compareOp .In) (rIn3 X.K false) := by
  intro pins s σ H x y v u Q I rx ry h
  rcases h with ⟨d, ds, hd, hy, sd, q⟩ | ⟨a, ov, rfl, g, q⟩
  · obtain ⟨as, r1⟩ := Dp.reads I d x v hd rx
    rcases hy with ⟨he, se⟩ | ⟨he, se⟩
    · obtain ⟨bs, r2⟩ := Dp.reads I (.list ds) y u he ry
      exact SeqAt.in_list_reads r2 r1 (SeqAt.canLay_of_shaped se) (SeqAt.canLay_of_shaped sd) (room_in_shaped sd hu) ⟨.bl _, H, I, rfl, q⟩
    · obtain ⟨bs, r2⟩ := Dp.reads I (.tuple ds) y u he ry
      exact SeqAt.in_tuple_reads r2 r1 (canLay_tup se) (SeqAt.canLay_of_shaped sd) (room_tup sd hu) ⟨.bl _, H, I, rfl, q⟩
  · cases ry
    exact d_in (by omega) I g rx fun s' I' => ⟨.bl _, H, I', rfl, q⟩
theorem opr_notin (hu : X.A.units + 65 < cLine) : OpR X (compareOp .NotIn) (rIn3 X.K true) := by
  intro pins s σ H x y v u Q I rx ry h
  rcases h with ⟨d, ds, hd, hy, sd, q⟩ | ⟨a, ov, rfl, g, q⟩
  · obtain ⟨as, r1⟩ := Dp.reads I d x v hd rx
    rcases hy with ⟨he, se⟩ | ⟨he, se⟩
    · obtain ⟨bs, r2⟩ := Dp.reads I (.list ds) y u he ry
      exact SeqAt.notIn_list_reads r2 r1 (SeqAt.canLay_of_shaped se) (SeqAt.canLay_of_shaped sd) (room_in_shaped sd hu) ⟨.bl _, H, I, rfl, q⟩
    · obtain ⟨bs, r2⟩ := Dp.reads I (.tuple ds) y u he ry
      exact SeqAt.notIn_tuple_reads r2 r1 (canLay_tup se) (SeqAt.canLay_of_shaped sd) (room_tup sd hu) ⟨.bl _, H, I, rfl, q⟩
  · cases ry
    exact d_notIn (by omega) I g rx fun s' I' => ⟨.bl _, H, I', rfl, q⟩
theorem os_in3 {neg : Bool} : OpS (GX X fa) (oIn neg) (rIn3 X.K neg) := fun m H M x y dx dy d M' Q hM rx ry e k => by
  unfold oIn at e
  cases q : inD M dx dy with
  | none => rw [q] at e; cases e
  | some b =>
    rw [q] at e
    cases e
    unfold inD at q
    split at q
    · rename_i n
      split at q
      · rename_i kvs q2
        cases q3 : keyD dx with
        | none => rw [q3] at q; cases q
        | some key =>
          rw [q3] at q
          cases q
          cases ry with
          | @ref _ a ha =>
            obtain ⟨kws, g1, g2⟩ := hM.at_ _ _ _ ha q2
            have ev := keyD_rel rx q3
            subst ev
            have hv := valD_rel (k := key) g2
            refine .inr ⟨a, valV kws key, rfl, DGet.k g1, ?_⟩
            have e2 : (valV kws key).isSome = (valD kvs key).isSome := by
              cases q4 : valD kvs key with
              | none => rw [hv.1 q4]; rfl
              | some d4 => obtain ⟨w, h1, _⟩ := hv.2 d4 q4; rw [h1]; rfl
            rw [e2]
            exact k.here hM _ (.bl _)
      · split at q
        · rename_i pd ds q1 q2
          split at q
          · rename_i hs
            cases q
            exact .inl ⟨pd, ds, toPy_dp hM _ _ _ _ q1 rx, .inl ⟨toPy_dp hM _ _ _ _ q2 ry, hs.2⟩, hs.1, k.here hM _ (.bl _)⟩
          · cases q
        · cases q
    · split at q
      · rename_i pd ds q1 q2
        split at q
        · rename_i hs
          cases q
          exact .inl ⟨pd, ds, toPy_dp hM _ _ _ _ q1 rx, .inr ⟨toPy_dp hM _ _ _ _ q2 ry, hs.2⟩, hs.1, k.here hM _ (.bl _)⟩
        · cases q
      · cases q
    · cases q
theorem os_in : OpS (GX X fa) (oIn false) (rIn3 X.K false) := os_in3
theorem os_notin : OpS (GX X fa) (oIn true) (rIn3 X.K true) := os_in3

/-! isinstance(x, T), T a built-in type by its name -/
inductive Ty where
  | int | str | bool | tuple | list | dict
  deriving DecidableEq
def Ty.name : Ty → String
  | .int => "int" | .str => "str" | .bool => "bool" | .tuple => "tuple" | .list => "list" | .dict => "dict"
def tyOf (M : Mem) : D → Option String
  | .non => some "NoneType"
  | .bl _ => some "bool"
  | .int _ => some "int"
  | .str _ => some "str"
  | .tup _ => some "tuple"
  | .ref n => match M[n]? with
    | some (.lst _) => some "list"
    | some (.dK _) => some "dict"
    | _ => none
  | .fn _ => none
def isTy (M : Mem) (d : D) (t : Ty) : Option Bool := (tyOf M d).map fun n => n == t.name || (n == "bool" && t == .int)
theorem kit_all (K : PySem.W.Frag) : ∀ n ∈ ["NoneType", "bool", "int", "str", "tuple", "list", "dict"], ∀ t : Ty, PySem.W.kitOne K (.type n) (.type t.name) = some (n == t.name || (n == "bool" && t == .int)) := by
  intro n hn t
  simp only [List.mem_cons, List.not_mem_nil, or_false] at hn
  rcases hn with rfl | rfl | rfl | rfl | rfl | rfl | rfl <;> cases t <;> first | rfl | decide +kernel
theorem tyOf_rel {G : Gm} {H : Hp} {m : List Addr} {M : Mem} {d : D} {v : V} {n : String} (hM : RM G H m M) (r : RD G H m d v) (e : tyOf M d = some n) : TyX G.K H v (.type n) ∧ n ∈ ["NoneType", "bool", "int", "str", "tuple", "list", "dict"] := by
  cases r with
  | non => cases e; exact ⟨.base .non, by simp⟩
  | bl b => cases e; exact ⟨.base (.bl b), by simp⟩
  | int b => cases e; exact ⟨.base (.int b), by simp⟩
  | str b => cases e; exact ⟨.base (.str b), by simp⟩
  | tup h _ =>
    cases e
    refine ⟨?_, by simp⟩
    rcases h with (h | ⟨ob, h⟩) | ⟨o, its, n, h1, h2, _⟩
    · exact .base (.tup h)
    · exact .fTuple h
    · exact .kTuple h1 h2
  | @ref j a ha =>
    have e' : (match M[j]? with
      | some (.lst _) => some "list"
      | some (.dK _) => some "dict"
      | _ => none) = some n := e
    cases q : M[j]? with
    | none => rw [q] at e'; cases e'
    | some mo =>
      rw [q] at e'
      cases mo with
      | lst xs =>
        cases e'
        obtain ⟨vs, g1, _⟩ := hM.at_ _ _ _ ha q
        exact ⟨.base (.lst g1), by simp⟩
      | dK kvs =>
        cases e'
        obtain ⟨vs, g1, _⟩ := hM.at_ _ _ _ ha q
        exact ⟨.base (.dK g1), by simp⟩
      | flst xs => cases e'
      | fdK xs => cases e'
      | ins _ _ => cases e'
      | xo _ _ => cases e'
      | tab _ _ => cases e'
  | fn _ => cases e
/-- the type's name, read -/
def eIsi (t : Ty) (ev : Ev) : Ev := fun ρ M => bindO (ev ρ M) fun d M1 => (isTy M1 d t).map fun b => (.bl b, M1)
theorem l_isi (t : Ty) {x : Str} {p2 : Pos} (hi : X.mg "isinstance" = none) (ht : X.mg x = none) (hv : bootBuiltins x = some (.type t.name)) (ha : PE X a (TEof (GX X fa) eva)) (hg : Gl X "isinstance" := by rfl) (hg2 : Gl X x := by rfl) (hn : x ≠ "__name__" := by decide) (hd : (x == ("__debug__" : Str)) = false := by decide)
    (s1 : starEach [a, .Name x p2] X.env = (false, eval a X.env) :: starEach [.Name x p2] X.env := by rfl) (s2 : starEach [.Name x p2] X.env = (false, eval (.Name x p2) X.env) :: starEach [] X.env := by rfl) (hpl : (backTo pos (starEach [.Name x p2] X.env)).any (·.1) = false := by rfl) :
    PE X (.Call (.Name "isinstance" p) [a, .Name x p2] [] pos) (TEof (GX X fa) (eIsi t eva)) := by
  refine (pe_callB call_isi hg hi boot_isinstance (pa_cons ha (pa_cons (pe_bltn (v := .ty t.name) hg2 ht hv rfl hn hd) pa_nil s2) s1) (by decide) (by decide) s1 hpl).imp fun σ H Q ⟨m, M, ρ, d, M', hρ, hM, e, fin⟩ => ?_
  refine te_bind hρ hM e fin fun m1 H1 M1 d1 v hρ1 hM1 rd e1 fin1 p1 x1 => ?_
  unfold isTy at e1
  cases q : tyOf M1 d1 with
  | none => rw [q] at e1; cases e1
  | some n =>
    rw [q] at e1
    cases e1
    obtain ⟨h1, h2⟩ := tyOf_rel hM1 rd q
    exact ⟨v, .ty t.name, .type n, .type t.name, _, rfl, .ty _, h1, kit_all X.K n h2 t, fin1.here hM1 _ (.bl _)⟩

/-! a op b op c -/
def eChain (f g : D → D → Mem → R D) (x y z : Ev) : Ev := fun ρ M => bindO (x ρ M) fun a M1 => bindO (y ρ M1) fun b M2 => bindO (f a b M2) fun c M3 => match c with
  | .bl true => bindO (z ρ M3) fun e M4 => g b e M4
  | .bl false => some (.bl false, M3)
  | _ => none
theorem chain_split {r q : R2} {f g : D → D → Mem → R D} (os : OpS (GX X fa) f r) (ot : OpS (GX X fa) g q) {σ : L2.St} {H : Hp} {Q : VK} (h : TEof (GX X fa) (eChain f g eva evb evc) σ H Q) : tChain r q (TEof (GX X fa) eva) (TEof (GX X fa) evb) (TEof (GX X fa) evc) σ H Q := by
  obtain ⟨m, M, ρ, d, M', hρ, hM, e, fin⟩ := h
  refine te_bind hρ hM e fin fun m1 H1 M1 d1 v hρ1 hM1 rd e1 fin1 p1 x1 => ?_
  refine te_bind hρ1 hM1 e1 fin1 fun m2 H2 M2 d2 w hρ2 hM2 rd2 e2 fin2 p2 x2 => ?_
  cases q1 : f d1 d2 M2 with
  | none => rw [q1] at e2; cases e2
  | some pr =>
    obtain ⟨c, M3⟩ := pr
    rw [q1] at e2
    refine os m2 H2 M2 v w d1 d2 c M3 _ hM2 (rd.mono p2 x2) rd2 q1 fun m3 H3 p3 x3 hM3 z rz => ?_
    cases rz with
    | bl bb =>
      refine ⟨bb, rfl, ?_⟩
      have fin3 := fin2.mono p3 x3
      cases bb with
      | false =>
        have e3 : some (D.bl false, M3) = some (d, M') := e2
        rw [if_neg (by decide)]
        cases e3
        exact fin3.here hM3 _ (.bl false)
      | true =>
        have e3 : bindO (evc ρ M3) (fun e M4 => g d2 e M4) = some (d, M') := e2
        rw [if_pos rfl]
        refine te_bind (hρ2.mono p3 x3) hM3 e3 fin3 fun m4 H4 M4 d4 u hρ4 hM4 rd4 e4 fin4 p4 x4 => ?_
        exact ot m4 H4 M4 w u d2 d4 d M' Q hM4 ((rd2.mono p3 x3).mono p4 x4) rd4 e4 fin4
    | _ => cases e2
theorem l_chain {op op' : CmpOp} {r q : R2} {f g : D → D → Mem → R D} (ho : OpR X (compareOp op) r) (os : OpS (GX X fa) f r) (ho' : OpR X (compareOp op') q) (ot : OpS (GX X fa) g q) (ha : PE X a (TEof (GX X fa) eva)) (hb : PE X b (TEof (GX X fa) evb)) (hc : PE X c (TEof (GX X fa) evc))
    (hm : lastMarks [op, op'] [b, c] = false := by with_unfolding_all rfl) : PE X (.Compare a [op, op'] [b, c] pos) (TEof (GX X fa) (eChain f g eva evb evc)) :=
  (pe_chain ho ho' ha hb hc hm).imp fun _ _ _ h => chain_split os ot h
theorem l_tchain {op op' : CmpOp} {r q : R2} {f g : D → D → Mem → R D} (ho : OpR X (compareOp op) r) (os : OpS (GX X fa) f r) (ho' : OpR X (compareOp op') q) (ot : OpS (GX X fa) g q) (ha : PE X a (TEof (GX X fa) eva)) (hb : PE X b (TEof (GX X fa) evb)) (hc : PE X c (TEof (GX X fa) evc))
    (hm : lastMarks [op, op'] [b, c] = false := by with_unfolding_all rfl) : PT X (.Compare a [op, op'] [b, c] pos) (TTof (GX X fa) (bOf (eChain f g eva evb evc))) :=
  (pt_chain ho ho' ha hb hc hm).imp fun _ _ _ h => chain_split os ot (bOf_split h)

/-! -x -/
def eNeg (ev : Ev) : Ev := fun ρ M => bindO (ev ρ M) fun d M1 => match d with
  | .int i => some (.int (-i), M1)
  | _ => none
theorem l_neg (ha : PE X a (TEof (GX X fa) eva)) : PE X (.UnaryOp .USub a pos) (TEof (GX X fa) (eNeg eva)) := by
  refine (pe_un un_neg ha).imp fun σ H Q ⟨m, M, ρ, d, M', hρ, hM, e, fin⟩ => ?_
  refine te_bind hρ hM e fin fun m1 H1 M1 d1 v hρ1 hM1 rd e1 fin1 p1 x1 => ?_
  cases rd with
  | int i => cases e1; exact ⟨i, rfl, fin1.here hM1 _ (.int _)⟩
  | _ => cases e1

/-! a, b, c = x, y, z -/
def sPar3 (i j l : Nat) (evs : EvL) : Es := fun ρ M => bindO (evs ρ M) fun ds M1 => match ds with
  | [d, e, f] => some (.next (((ρ.set i (some d)).set j (some e)).set l (some f)), M1)
  | _ => none
theorem l_par3 (i j l : Nat) {x y z : Str} {evs : EvL} {px py pz pt : Pos} {kt k2 pt2} (hN : X.N.Nodup) (ha : PA X [a, b, c] (TAof (GX X fa) evs)) (hc : X.calm = true := by rfl) (hi : X.N[i]? = some x := by rfl) (hj : X.N[j]? = some y := by rfl) (hl : X.N[l]? = some z := by rfl) (hij : i ≠ j := by decide) (hil : i ≠ l := by decide) (hjl : j ≠ l := by decide)
    (hx : X.env.scope.names.lookup x = some .local := by rfl) (hy : X.env.scope.names.lookup y = some .local := by rfl) (hz : X.env.scope.names.lookup z = some .local := by rfl)
    (hw : swappedStores [.Tuple [.Name x px, .Name y py, .Name z pz] kt pt] (.Tuple [a, b, c] k2 pt2) X.env = pure (some [x, y, z]) := by rfl)
    (hs : swapsWithSole [.Tuple [.Name x px, .Name y py, .Name z pz] kt pt] (.Tuple [a, b, c] k2 pt2) pos.line X.env = pure false := by rfl) :
    PS X (.Assign [.Tuple [.Name x px, .Name y py, .Name z pz] kt pt] (.Tuple [a, b, c] k2 pt2) pos) (TSw W (GX X fa) (sPar3 i j l evs)) := by
  refine (ps_par3 hc hN hi hj hl hij hil hjl hx hy hz ha hw hs).imp fun D σ H ⟨m, M, ρ, o, M', hρ, hM, e, fin⟩ => ?_
  refine ta_bind hρ hM e fin fun m1 H1 M1 ds vs hρ1 hM1 rds e1 fin1 p1 x1 => ?_
  cases rds with
  | nil => cases e1
  | cons r1 t1 =>
    cases t1 with
    | nil => cases e1
    | cons r2 t2 =>
      cases t2 with
      | nil => cases e1
      | cons r3 t3 =>
        cases t3 with
        | nil =>
          cases e1
          exact ⟨_, _, _, rfl, fin1.here hM1 _ (((hρ1.set i r1).set j r2).set l r3)⟩
        | cons _ _ => cases e1

/-! an expression as a test, by its truth -/
def truD (M : Mem) : D → Option Bool
  | .non => some false
  | .bl b => some b
  | .int i => some (i != 0)
  | .str y => if y.length ≤ sizeLine then some ((y.length : Int) != 0) else none
  | .tup xs => some (!xs.isEmpty)
  | .ref n => match M[n]? with
    | some (.lst xs) => some (!xs.isEmpty)
    | some (.flst xs) => some (!xs.isEmpty)
    | some (.dK kvs) => some (!kvs.isEmpty)
    | _ => none
  | .fn _ => none
theorem RDs.empty {G : Gm} {H : Hp} {m : List Addr} {ds : List D} {vs : List V} (r : RDs G H m ds vs) : ds.isEmpty = vs.isEmpty := by cases r <;> rfl
theorem truD_rel {G : Gm} {H : Hp} {m : List Addr} {M : Mem} {d : D} {v : V} {b : Bool} (hM : RM G H m M) (r : RD G H m d v) (e : truD M d = some b) : TruV G.K v H b := by
  cases r with
  | non => cases e; rfl
  | bl _ => cases e; rfl
  | int _ => cases e; rfl
  | str y =>
    have e' : (if y.length ≤ sizeLine then some ((y.length : Int) != 0) else none) = some b := e
    split at e'
    · rename_i h; cases e'; exact ⟨h, rfl⟩
    · cases e'
  | tup h rds => cases e; exact .inr (.inl ⟨_, h, by rw [rds.empty]⟩)
  | @ref j a ha =>
    have e' : (match M[j]? with
      | some (.lst xs) => some (!xs.isEmpty)
      | some (.flst xs) => some (!xs.isEmpty)
      | some (.dK kvs) => some (!kvs.isEmpty)
      | _ => none) = some b := e
    cases q : M[j]? with
    | none => rw [q] at e'; cases e'
    | some mo =>
      rw [q] at e'
      cases mo with
      | lst xs =>
        cases e'
        obtain ⟨vs, g1, g2⟩ := hM.at_ _ _ _ ha q
        exact .inl ⟨vs, SqL.of g1, by rw [g2.empty]⟩
      | flst xs =>
        cases e'
        obtain ⟨vs, g1, g2⟩ := hM.lstAt (show lstAt M j = some xs by unfold lstAt; rw [q]) ha
        exact .inl ⟨vs, g1, by rw [g2.empty]⟩
      | dK kvs =>
        cases e'
        obtain ⟨kws, g1, g2⟩ := hM.at_ _ _ _ ha q
        exact .inr (.inr ⟨kws, g1, by cases g2 <;> rfl⟩)
      | fdK kvs => cases e'
      | ins _ _ => cases e'
      | xo _ _ => cases e'
      | tab _ _ => cases e'
  | fn _ => cases e
def bTru (ev : Ev) : EvB := fun ρ M => bindO (ev ρ M) fun d M1 => (truD M1 d).map fun b => (b, M1)
theorem l_truth (ha : PE X a (TEof (GX X fa) eva)) (he : ∀ whole, isTrue a X.env whole = (do let v ← whole; standAt a.pos; holding [v] (truthy v)) := by intro _; rfl) : PT X a (TTof (GX X fa) (bTru eva)) := by
  refine (pt_truth ha he).imp fun σ H Q ⟨m, M, ρ, d, M', hρ, hM, e, fin⟩ => ?_
  refine te_bind hρ hM e fin fun m1 H1 M1 d1 v hρ1 hM1 rd e1 fin1 p1 x1 => ?_
  cases q : truD M1 d1 with
  | none => rw [q] at e1; cases e1
  | some bb =>
    rw [q] at e1
    cases e1
    exact ⟨_, truD_rel hM1 rd q, fin1.here hM1⟩
/-- x or y, x and y by truth -/
def eOrT (x y : Ev) : Ev := fun ρ M => bindO (x ρ M) fun d M1 => match truD M1 d with
  | some true => some (d, M1)
  | some false => y ρ M1
  | none => none
def eAndT (x y : Ev) : Ev := fun ρ M => bindO (x ρ M) fun d M1 => match truD M1 d with
  | some false => some (d, M1)
  | some true => y ρ M1
  | none => none
theorem l_orT {rest : List Expr} (ha : PE X a (TEof (GX X fa) eva)) (hb : PE X (.BoolOp .Or (b :: rest) pos) (TEof (GX X fa) evb)) : PE X (.BoolOp .Or (a :: b :: rest) pos) (TEof (GX X fa) (eOrT eva evb)) := by
  refine (pe_orT ha hb).imp fun σ H Q ⟨m, M, ρ, d, M', hρ, hM, e, fin⟩ => ?_
  refine te_bind hρ hM e fin fun m1 H1 M1 d1 v hρ1 hM1 rd e1 fin1 p1 x1 => ?_
  cases q : truD M1 d1 with
  | none => rw [q] at e1; cases e1
  | some bb =>
    rw [q] at e1
    refine ⟨bb, truD_rel hM1 rd q, ?_⟩
    cases bb with
    | true => rw [if_pos rfl]; cases e1; exact fin1.here hM1 _ rd
    | false => rw [if_neg (by decide)]; exact ⟨m1, M1, ρ, d, M', hρ1, hM1, e1, fin1⟩
theorem l_andT {rest : List Expr} (ha : PE X a (TEof (GX X fa) eva)) (hb : PE X (.BoolOp .And (b :: rest) pos) (TEof (GX X fa) evb)) : PE X (.BoolOp .And (a :: b :: rest) pos) (TEof (GX X fa) (eAndT eva evb)) := by
  refine (pe_andT ha hb).imp fun σ H Q ⟨m, M, ρ, d, M', hρ, hM, e, fin⟩ => ?_
  refine te_bind hρ hM e fin fun m1 H1 M1 d1 v hρ1 hM1 rd e1 fin1 p1 x1 => ?_
  cases q : truD M1 d1 with
  | none => rw [q] at e1; cases e1
  | some bb =>
    rw [q] at e1
    refine ⟨bb, truD_rel hM1 rd q, ?_⟩
    cases bb with
    | false => rw [if_neg (by decide)]; cases e1; exact fin1.here hM1 _ rd
    | true => rw [if_pos rfl]; exact ⟨m1, M1, ρ, d, M', hρ1, hM1, e1, fin1⟩
end
end Mi
set_option Elab.async false
set_option linter.all false
set_option maxRecDepth 100000
/-! sorted of data -/
namespace Mi
open PySem PySem.Spec PyProof.Rows L2
def alikeB (ds : List PyData) : Bool := ds.all fun d => ds.all fun e => PySem.W.alike d e
def sortableB (ds : List PyData) : Bool := (ds.all fun d => match d with
  | .tuple (_ :: _) => true
  | _ => false) || ds.all fun d => match d with
  | .none => false
  | .tuple _ => false
  | _ => true
def okSort (ds : List PyData) : Bool := alikeB ds && sortableB ds && ds.all fun d => decide (d.depth ≤ 64)
theorem alike_of {ds : List PyData} (h : alikeB ds = true) : PySem.W.AllAlike ds := fun d hd e he => List.all_eq_true.mp (List.all_eq_true.mp h d hd) e he
theorem sortable_of {ds : List PyData} (h : sortableB ds = true) : PySem.W.Sortable ds := by
  unfold sortableB at h
  rcases (Bool.or_eq_true _ _).mp h with h | h
  · left
    intro d hd
    have q := List.all_eq_true.mp h d hd
    cases d with
    | tuple xs =>
      cases xs with
      | nil => cases q
      | cons x r => exact ⟨x, r, rfl⟩
    | _ => cases q
  · right
    intro d hd
    have q := List.all_eq_true.mp h d hd
    cases d with
    | none => cases q
    | tuple xs => cases q
    | _ => exact ⟨fun z => (by cases z), fun xs z => by cases z⟩
section
variable {X : Cx} {fa : Nat → Addr}
def rSortD (K : PySem.W.Frag) : List V → Hp → VK → Prop := fun xs H Q => ∃ (a : Addr) (bs : List (V × PyData)), xs = [V.ref a] ∧ SqL K H a (bs.map (·.1)) ∧ (∀ b ∈ bs, Dp K H b.1 b.2) ∧ okSort (bs.map (·.2)) = true ∧
  ∀ p, H p = none → Q (.ref p) (upd H p (.lst ((bs.mergeSort (PySem.W.dataLe false (·.2))).map (·.1))))
theorem each_vals : ∀ {bs : List (V × PyData)} {us : List Value}, Vals (bs.map (·.1)) us → PySem.W.EachIs (fun (v : Value) (b : V × PyData) => RelV b.1 v) us bs
  | [], _, .nil => .nil
  | _ :: _, _, .cons h t => .cons h (each_vals t)
theorem vals_each : ∀ {bs : List (V × PyData)} {us : List Value}, PySem.W.EachIs (fun (v : Value) (b : V × PyData) => RelV b.1 v) us bs → Vals (bs.map (·.1)) us
  | _, _, .nil => .nil
  | _, _, .cons h t => .cons h (vals_each t)
theorem each_reads {pins : List (Addr × Obj)} {σ : L2.St} {H : Hp} {st : Shared} (I : Inv X pins σ H st) : ∀ {bs : List (V × PyData)} {us : List Value}, Vals (bs.map (·.1)) us → (∀ b ∈ bs, Dp X.K H b.1 b.2) → PySem.W.EachIs (fun (v : Value) (b : V × PyData) => ∃ as, Reads st.heap v b.2 as) us bs
  | [], _, .nil, _ => .nil
  | b :: bs, _, .cons h t, k => .cons (Dp.reads I _ _ _ (k b List.mem_cons_self) h) (each_reads I t fun c hc => k c (List.mem_cons_of_mem _ hc))
theorem cr_sortD (hu : X.A.units + 70 < cLine) : CallR X (.builtin "sorted") (rSortD X.K) := by
  intro pins st σ H xs us Q I r h
  obtain ⟨a, bs, rfl, hs, hd, hok, q⟩ := h
  obtain ⟨u, rfl, ru⟩ := vals1 r
  cases (show u = Value.ref a from ru)
  obtain ⟨its, rv, pl, hz⟩ := I.list hs
  unfold okSort at hok
  simp only [Bool.and_eq_true] at hok
  obtain ⟨⟨h1, h2⟩, h3⟩ := hok
  refine PySem.W.sorted_data (R := fun v b => RelV b.1 v) (enc := fun b : V × PyData => b.2) pl.isList (each_vals rv) (each_reads I rv hd) (alike_of h1) (sortable_of h2) (by rw [List.length_map] at hz; exact hz) (fun b hb => ?_) fun out hl hE => ?_
  · have := of_decide_eq_true (List.all_eq_true.mp h3 b.2 (List.mem_map.mpr ⟨b, hb, rfl⟩))
    omega
  · refine ⟨.ref (st.heap.objs.size + 1), _, I.laid (a := st.heap.objs.size + 1) (o := .lst ((bs.mergeSort (PySem.W.dataLe false (·.2))).map (·.1))) (t' := st.toks) (fun b o e => sortedAll_old e) (Nat.le_succ _) ?_, rfl, q _ (I.hok.fresh (Nat.le_succ _))⟩
    obtain ⟨n, hn⟩ := sortedAll_at st.heap its out.toArray
    refine ⟨?_, out, n, vals_each hE, hn⟩
    rw [List.length_map, List.length_mergeSort]
    rw [List.length_map] at hz
    exact hz
def sortD (xs : List D) (ps : List PyData) : List D := ((xs.zip ps).mergeSort (PySem.W.dataLe false (·.2))).map (·.1)
def fSort : List D → Mem → R D := fun ds M => match ds with
  | [.ref n] => match lstAt M n with
    | some xs => match toPys M fuelD xs with
      | some ps => if okSort ps = true then some (.ref M.length, M ++ [.lst (sortD xs ps)]) else none
      | none => none
    | none => none
  | _ => none
theorem triples {G : Gm} {H : Hp} {m : List Addr} : ∀ {ds : List D} {vs : List V} {ps : List PyData}, RDs G H m ds vs → DpAll G.K H vs ps →
    ∃ T : List (V × D × PyData), T.map (·.1) = vs ∧ T.map (·.2.1) = ds ∧ T.map (·.2.2) = ps ∧ ∀ t ∈ T, RD G H m t.2.1 t.1 ∧ Dp G.K H t.1 t.2.2
  | _, _, _, .nil, .nil => ⟨[], rfl, rfl, rfl, fun _ z => by cases z⟩
  | _, _, _, @RDs.cons _ _ _ d ds v vs r t, @DpAll.cons _ _ _ _ p ps q u => by
    obtain ⟨T, e1, e2, e3, k⟩ := triples t u
    refine ⟨(v, d, p) :: T, by rw [List.map_cons, e1], by rw [List.map_cons, e2], by rw [List.map_cons, e3], fun x hx => ?_⟩
    rcases List.mem_cons.mp hx with rfl | hx
    · exact ⟨r, q⟩
    · exact k x hx
theorem rds_map {G : Gm} {H : Hp} {m : List Addr} : ∀ {T : List (V × D × PyData)}, (∀ t ∈ T, RD G H m t.2.1 t.1) → RDs G H m (T.map (·.2.1)) (T.map (·.1))
  | [], _ => .nil
  | t :: T, h => .cons (h t List.mem_cons_self) (rds_map fun x hx => h x (List.mem_cons_of_mem _ hx))
theorem zip_maps {α β γ : Type} (f : α → β) (g : α → γ) (T : List α) : (T.map f).zip (T.map g) = T.map fun t => (f t, g t) := by
  induction T with
  | nil => rfl
  | cons t T ih => simp [ih]
theorem cs_sortD : CaS (GX X fa) fSort (rSortD X.K) := fun m H M xs ds d M' Q hM r e k => by
  unfold fSort at e
  split at e
  · rename_i n
    cases q1 : lstAt M n with
    | none => rw [q1] at e; cases e
    | some ys =>
      rw [q1] at e
      simp only at e
      cases q2 : toPys M fuelD ys with
      | none => rw [q2] at e; cases e
      | some ps =>
        rw [q2] at e
        simp only at e
        split at e
        · rename_i hok
          cases e
          obtain ⟨v, rfl, rv⟩ := one_of r
          cases rv with
          | @ref _ a ha =>
            obtain ⟨vs, hs, rds⟩ := hM.lstAt q1 ha
            obtain ⟨T, e1, e2, e3, hT⟩ := triples rds (toPys_dp hM _ _ _ _ q2 rds)
            have le3 : V × D × PyData → V × D × PyData → Bool := PySem.W.dataLe false (·.2.2)
            have hV : ((T.map fun t => (t.1, t.2.2)).mergeSort (PySem.W.dataLe false (·.2))).map (·.1) = (T.mergeSort (PySem.W.dataLe false (·.2.2))).map (·.1) := by
              rw [← List.map_mergeSort (r := PySem.W.dataLe false (·.2.2)) (s := PySem.W.dataLe false (·.2)) (f := fun t : V × D × PyData => (t.1, t.2.2)) (l := T) (fun _ _ _ _ => rfl), List.map_map]
              rfl
            have hD : sortD ys ps = (T.mergeSort (PySem.W.dataLe false (·.2.2))).map (·.2.1) := by
              unfold sortD
              rw [← e2, ← e3, zip_maps, ← List.map_mergeSort (r := PySem.W.dataLe false (·.2.2)) (s := PySem.W.dataLe false (·.2)) (f := fun t : V × D × PyData => (t.2.1, t.2.2)) (l := T) (fun _ _ _ _ => rfl), List.map_map]
              rfl
            refine ⟨a, T.map fun t => (t.1, t.2.2), rfl, ?_, ?_, ?_, fun p hp => ?_⟩
            · rw [List.map_map]
              rw [← e1] at hs
              exact hs
            · intro b hb
              obtain ⟨t, ht, rfl⟩ := List.mem_map.mp hb
              exact (hT t ht).2
            · rw [List.map_map]
              rw [← e3] at hok
              exact hok
            · rw [hV]
              refine fin_push k hM hp ⟨_, upd_same, ?_⟩ _ (ref_last hM)
              rw [hD]
              exact (rds_map fun t ht => (hT t (List.mem_mergeSort.mp ht)).1).mono (List.prefix_append _ _) (Ext.new hp)
        · cases e
  · cases e
end
end Mi
set_option Elab.async false
set_option linter.all false
set_option maxRecDepth 100000
/-! stars in displays; dicts with keys that are numbers or texts -/
namespace Mi
open PySem PySem.Spec PyProof.Rows L2
section
variable {W : WX} {X : Cx} {fa : Nat → Addr} {a b c e o i : Expr} {eva evb evc evo evi : Ev} {pos p : Pos} {es : List Expr}
def eConsS (ev : Ev) (evs : EvL) : EvL := fun ρ M => bindO (ev ρ M) fun d M1 => match itemsOf M1 d with
  | some xs => bindO (evs ρ M1) fun ds M2 => some (xs ++ ds, M2)
  | none => none
theorem l_consS {evs : EvL} (ha : PE X a (TEof (GX X fa) eva)) (hr : PA X es (TAof (GX X fa) evs)) (hs : starEach (.Starred a p :: es) X.env = (true, eval a X.env) :: starEach es X.env := by rfl) : PA X (.Starred a p :: es) (TAof (GX X fa) (eConsS eva evs)) := by
  refine (StX.pa_star ha hr hs).imp fun σ H Q ⟨m, M, ρ, d, M', hρ, hM, e, fin⟩ => ?_
  refine te_bind hρ hM e fin fun m1 H1 M1 d1 v hρ1 hM1 rd e1 fin1 p1 x1 => ?_
  cases q : itemsOf M1 d1 with
  | none => rw [q] at e1; cases e1
  | some xs =>
    rw [q] at e1
    have key : ∃ a vs, v = .ref a ∧ (SqT X.K H1 a vs ∨ SqL X.K H1 a vs) ∧ RDs (GX X fa) H1 m1 xs vs := by
      cases rd with
      | @tup a _ vs ha rds => cases q; exact ⟨a, vs, rfl, .inl ha, rds⟩
      | ref ha => obtain ⟨vs, hs, rds⟩ := hM1.lstAt q ha; exact ⟨_, vs, rfl, .inr hs, rds⟩
      | _ => cases q
    obtain ⟨a, vs, e3, h3, rds⟩ := key
    refine ⟨a, vs, e3, h3, ?_⟩
    refine ta_bind hρ1 hM1 e1 fin1 fun m2 H2 M2 d2 ws hρ2 hM2 rds2 e2 fin2 p2 x2 => ?_
    cases e2
    exact fin2.here hM2 _ ((rds.mono p2 x2).append rds2)
/-! {} -/
def eDnew : Ev := fun _ M => some (.ref M.length, M ++ [.dK []])
theorem l_dnew : PE X (.Dict [] [] pos) (TEof (GX X fa) eDnew) := pe_dnewK.imp fun σ H Q ⟨m, M, ρ, d, M', hρ, hM, e, fin⟩ => by
  cases e
  exact fun q hq => fin_push fin hM hq ⟨[], upd_same, .nil⟩ _ (ref_last hM)
/-! d[k] -/
def oDget : D → D → Mem → R D := fun x y M => match x with
  | .ref n => match M[n]?, keyD y with
    | some (.dK kvs), some k => (valD kvs k).map fun d => (d, M)
    | _, _ => none
  | _ => none
theorem l_dget (hu : X.A.units + 1 < cLine) (ho : PE X o (TEof (GX X fa) evo)) (hi : PE X i (TEof (GX X fa) evi)) (hs : NoSl i := by first | exact (fun _ _ => rfl) | rfl) : PE X (.Subscript o i pos) (TEof (GX X fa) (eBin oDget evo evi)) := by
  refine (pe_dget hu ho hi hs).imp fun σ H Q ⟨m, M, ρ, d, M', hρ, hM, e, fin⟩ => ?_
  refine te_bind hρ hM e fin fun m1 H1 M1 d1 v hρ1 hM1 rd e1 fin1 p1 x1 => ?_
  refine te_bind hρ1 hM1 e1 fin1 fun m2 H2 M2 d2 w hρ2 hM2 rd2 e2 fin2 p2 x2 => ?_
  have rd' := rd.mono p2 x2
  cases rd' with
  | @ref n a ha =>
    cases q : M2[n]? with
    | none => simp [oDget, q] at e2
    | some mo =>
      cases q2 : keyD d2 with
      | none => cases mo <;> simp [oDget, q, q2] at e2
      | some key =>
        cases mo with
        | dK kvs =>
          simp only [oDget, q, q2] at e2
          cases q3 : valD kvs key with
          | none => rw [q3] at e2; cases e2
          | some dv =>
            rw [q3] at e2
            cases e2
            obtain ⟨kws, g1, g2⟩ := hM2.at_ _ _ _ ha q
            obtain ⟨z, h1, h2⟩ := (valD_rel (k := key) g2).2 _ q3
            have ew := keyD_rel rd2 q2
            subst ew
            exact ⟨a, z, rfl, by rw [← h1]; exact DGet.k g1, fin2.here hM2 _ h2⟩
        | _ => simp [oDget, q, q2] at e2
  | _ => cases e2
/-! d[k] = v -/
def putD (kvs : List (Key × D)) (k : Key) (v : D) : List (Key × D) :=
  if (kvs.any fun kv => decide (kv.1 = k)) = true then kvs.map (fun kv => if kv.1 = k then (kv.1, v) else kv) else kvs ++ [(k, v)]
theorem any_rel {G : Gm} {H : Hp} {m : List Addr} {k : Key} : ∀ {ds : List (Key × D)} {vs : List (Key × V)}, RKs G H m ds vs → (ds.any fun kv => decide (kv.1 = k)) = (vs.any fun kv => decide (kv.1 = k))
  | _, _, .nil => rfl
  | _, _, .cons r t => by rw [List.any_cons, List.any_cons, any_rel t]
theorem RKs.append {G : Gm} {H : Hp} {m : List Addr} : ∀ {ds es : List (Key × D)} {vs ws : List (Key × V)}, RKs G H m ds vs → RKs G H m es ws → RKs G H m (ds ++ es) (vs ++ ws)
  | _, _, _, _, .nil, s => s
  | _, _, _, _, .cons r t, s => .cons r (RKs.append t s)
theorem map_rel {G : Gm} {H : Hp} {m : List Addr} {k : Key} {d : D} {v : V} (r : RD G H m d v) : ∀ {ds : List (Key × D)} {vs : List (Key × V)}, RKs G H m ds vs → RKs G H m (ds.map fun kv => if kv.1 = k then (kv.1, d) else kv) (vs.map fun kv => if kv.1 = k then (kv.1, v) else kv)
  | _, _, .nil => .nil
  | _, _, @RKs.cons _ _ _ k' d' v' ds vs r' t' => by
    rw [List.map_cons, List.map_cons]
    by_cases h : k' = k
    · rw [if_pos h, if_pos h]; exact .cons r (map_rel r t')
    · rw [if_neg h, if_neg h]; exact .cons r' (map_rel r t')
theorem put_rel {G : Gm} {H : Hp} {m : List Addr} {k : Key} {d : D} {v : V} (r : RD G H m d v) {ds : List (Key × D)} {vs : List (Key × V)} (t : RKs G H m ds vs) : RKs G H m (putD ds k d) (putK vs k v) := by
  unfold putD putK
  rw [any_rel t]
  split
  · exact map_rel r t
  · exact t.append (.cons r .nil)
def sDput (evo evi eve : Ev) : Es := fun ρ M => bindO (eve ρ M) fun d M1 => bindO (evo ρ M1) fun o M2 => bindO (evi ρ M2) fun i M3 => match o with
  | .ref n => match M3[n]?, keyD i with
    | some (.dK kvs), some k => if kvs.length < sizeLine then some (.next ρ, M3.set n (.dK (putD kvs k d))) else none
    | _, _ => none
  | _ => none
theorem l_dput {eve : Ev} {ps : Pos} (hu : X.A.units + 1 < cLine) (ho : PE X o (TEof (GX X fa) evo)) (hi : PE X i (TEof (GX X fa) evi)) (he : PE X e (TEof (GX X fa) eve)) (hs : swapsWith e (some (.Subscript o i ps)) pos.line X.env = pure false := by rfl) : PS X (.Assign [.Subscript o i ps] e pos) (TSw W (GX X fa) (sDput evo evi eve)) := by
  refine (ps_dput hu ho hi he hs).imp fun D σ H ⟨m, M, ρ, out, M', hρ, hM, e, fin⟩ => ?_
  refine te_bind hρ hM e fin fun m1 H1 M1 d1 v hρ1 hM1 rd e1 fin1 p1 x1 => ?_
  refine te_bind hρ1 hM1 e1 fin1 fun m2 H2 M2 d2 w hρ2 hM2 rd2 e2 fin2 p2 x2 => ?_
  refine te_bind hρ2 hM2 e2 fin2 fun m3 H3 M3 d3 z hρ3 hM3 rd3 e3 fin3 p3 x3 => ?_
  have rdv := (rd.mono p2 x2).mono p3 x3
  have rdo := rd2.mono p3 x3
  cases rdo with
  | @ref n a ha =>
    simp only at e3
    cases q : M3[n]? with
    | none => simp [q] at e3
    | some mo =>
      cases q2 : keyD d3 with
      | none => cases mo <;> simp [q, q2] at e3
      | some key =>
        cases mo with
        | dK kvs =>
          simp only [q, q2] at e3
          split at e3
          · rename_i hl
            cases e3
            obtain ⟨kws, g1, g2⟩ := hM3.at_ _ _ _ ha q
            have ew := keyD_rel rd3 q2
            subst ew
            have mu : MutL (H3 a) := by rw [g1]; trivial
            refine ⟨a, _, rfl, DPut.k g1 (by rw [← g2.length]; exact hl), ?_⟩
            exact fin3 m3 _ (List.prefix_refl _) (Ext.write mu) (hM3.set ha q rfl rfl ⟨_, upd_same, (put_rel rdv g2).mono (List.prefix_refl _) (Ext.write mu)⟩) σ (hρ3.mono (List.prefix_refl _) (Ext.write mu))
          · cases e3
        | _ => simp [q, q2] at e3
  | _ => cases e3
/-! d.get(k, x), d.pop(k) -/
def eDget2 (evo evi evc : Ev) : Ev := fun ρ M => bindO (evo ρ M) fun o M1 => match o with
  | .ref n => match M1[n]? with
    | some (.dK _) => bindO (evi ρ M1) fun i M2 => bindO (evc ρ M2) fun c M3 => match M3[n]?, keyD i with
      | some (.dK kvs), some k => some ((valD kvs k).getD c, M3)
      | _, _ => none
    | _ => none
  | _ => none
theorem l_dget2 {ap cp : Pos} (hu : X.A.units + 1 < cLine) (ho : PE X o (TEof (GX X fa) evo)) (hi : PE X i (TEof (GX X fa) evi)) (hc : PE X c (TEof (GX X fa) evc)) (hm : M2 X o "get" ap i c cp := by exact ⟨rfl, rfl, rfl, rfl⟩) : PE X (.Call (.Attribute o "get" ap) [i, c] [] cp) (TEof (GX X fa) (eDget2 evo evi evc)) := by
  refine (pe_dget2 hu ho hi hc hm).imp fun σ H Q ⟨m, M, ρ, d, M', hρ, hM, e, fin⟩ => ?_
  refine te_bind hρ hM e fin fun m1 H1 M1 d1 v hρ1 hM1 rd e1 fin1 p1 x1 => ?_
  cases rd with
  | @ref n a ha =>
    simp only at e1
    cases q : M1[n]? with
    | none => simp [q] at e1
    | some mo =>
      cases mo with
      | dK kvs0 =>
        simp only [q] at e1
        obtain ⟨kws0, g0, _⟩ := hM1.at_ _ _ _ ha q
        refine ⟨a, rfl, .inl ⟨kws0, .inl g0⟩, ?_⟩
        refine te_bind hρ1 hM1 e1 fin1 fun m2 H2 M2 d2 w hρ2 hM2 rd2 e2 fin2 p2 x2 => ?_
        refine te_bind hρ2 hM2 e2 fin2 fun m3 H3 M3 d3 z hρ3 hM3 rd3 e3 fin3 p3 x3 => ?_
        cases q3 : M3[n]? with
        | none => simp [q3] at e3
        | some mo3 =>
          cases q4 : keyD d2 with
          | none => cases mo3 <;> simp [q3, q4] at e3
          | some key =>
            cases mo3 with
            | dK kvs =>
              simp only [q3, q4] at e3
              cases e3
              obtain ⟨kws, g1, g2⟩ := hM3.at_ _ _ _ (pre_get (p2.trans p3) ha) q3
              have ew := keyD_rel (rd2.mono p3 x3) q4
              subst ew
              have hv := valD_rel (k := key) g2
              refine ⟨valV kws key, DGet.k g1, ?_⟩
              cases q5 : valD kvs key with
              | none =>
                rw [hv.1 q5]
                exact fin3.here hM3 _ (by rw [q5]; exact rd3)
              | some d5 =>
                obtain ⟨y, h1, h2⟩ := hv.2 d5 q5
                rw [h1]
                exact fin3.here hM3 _ (by rw [q5]; exact h2)
            | _ => simp [q3, q4] at e3
      | _ => simp [q] at e1
  | _ => cases e1
def dropD (kvs : List (Key × D)) (k : Key) : List (Key × D) := kvs.filter fun kv => decide (kv.1 ≠ k)
theorem drop_rel {G : Gm} {H : Hp} {m : List Addr} {k : Key} : ∀ {ds : List (Key × D)} {vs : List (Key × V)}, RKs G H m ds vs → RKs G H m (dropD ds k) (dropK vs k)
  | _, _, .nil => .nil
  | _, _, @RKs.cons _ _ _ k' d v ds vs r t => by
    unfold dropD dropK
    by_cases h : k' = k
    · rw [List.filter_cons_of_neg (by simp [h]), List.filter_cons_of_neg (by simp [h])]
      exact drop_rel t
    · rw [List.filter_cons_of_pos (by simp [h]), List.filter_cons_of_pos (by simp [h])]
      exact .cons r (drop_rel t)
def eDpop1 (evo evi : Ev) : Ev := fun ρ M => bindO (evo ρ M) fun o M1 => match o with
  | .ref n => match M1[n]? with
    | some (.dK _) => bindO (evi ρ M1) fun i M2 => match M2[n]?, keyD i with
      | some (.dK kvs), some k => (valD kvs k).map fun d => (d, M2.set n (.dK (dropD kvs k)))
      | _, _ => none
    | _ => none
  | _ => none
theorem l_dpop1 {ap cp : Pos} (ho : PE X o (TEof (GX X fa) evo)) (hi : PE X i (TEof (GX X fa) evi)) (hm : M1 X o "pop" ap i cp := by exact ⟨rfl, rfl, rfl, rfl⟩) : PE X (.Call (.Attribute o "pop" ap) [i] [] cp) (TEof (GX X fa) (eDpop1 evo evi)) := by
  refine (pe_dpop1 ho hi hm).imp fun σ H Q ⟨m, M, ρ, d, M', hρ, hM, e, fin⟩ => ?_
  refine te_bind hρ hM e fin fun m1 H1 M1 d1 v hρ1 hM1 rd e1 fin1 p1 x1 => ?_
  cases rd with
  | @ref n a ha =>
    simp only at e1
    cases q : M1[n]? with
    | none => simp [q] at e1
    | some mo =>
      cases mo with
      | dK kvs0 =>
        simp only [q] at e1
        obtain ⟨kws0, g0, _⟩ := hM1.at_ _ _ _ ha q
        refine ⟨a, rfl, .inl ⟨kws0, .inl g0⟩, ?_⟩
        refine te_bind hρ1 hM1 e1 fin1 fun m2 H2 M2 d2 w hρ2 hM2 rd2 e2 fin2 p2 x2 => ?_
        cases q3 : M2[n]? with
        | none => simp [q3] at e2
        | some mo3 =>
          cases q4 : keyD d2 with
          | none => cases mo3 <;> simp [q3, q4] at e2
          | some key =>
            cases mo3 with
            | dK kvs =>
              simp only [q3, q4] at e2
              cases q5 : valD kvs key with
              | none => rw [q5] at e2; cases e2
              | some dv =>
                rw [q5] at e2
                cases e2
                have ha2 := pre_get p2 ha
                obtain ⟨kws, g1, g2⟩ := hM2.at_ _ _ _ ha2 q3
                have ew := keyD_rel rd2 q4
                subst ew
                obtain ⟨y, h1, h2⟩ := (valD_rel (k := key) g2).2 _ q5
                have mu : MutL (H2 a) := by rw [g1]; trivial
                refine ⟨kws, key, y, g1, rfl, h1, ?_⟩
                exact fin2 m2 _ (List.prefix_refl _) (Ext.write mu) (hM2.set ha2 q3 rfl rfl ⟨_, upd_same, (drop_rel g2).mono (List.prefix_refl _) (Ext.write mu)⟩) _ (h2.mono (List.prefix_refl _) (Ext.write mu))
            | _ => simp [q3, q4] at e2
      | _ => simp [q] at e1
  | _ => cases e1
end
end Mi
set_option Elab.async false
set_option linter.all false
set_option maxRecDepth 100000
/-! dicts gone over: locks, items, values, keys; list(d.items()), dict(pairs) -/
namespace Mi
open PySem PySem.Spec PyProof.Rows L2
def kD : Key → D
  | .inl i => .int i
  | .inr s => .str s
theorem kD_rel {G : Gm} {H : Hp} {m : List Addr} (k : Key) : RD G H m (kD k) (kV k) := by
  cases k with
  | inl i => exact .int i
  | inr s => exact .str s
theorem RKs.get {G : Gm} {H : Hp} {m : List Addr} : ∀ {ds : List (Key × D)} {vs : List (Key × V)} {i : Nat} {k : Key} {d : D}, RKs G H m ds vs → ds[i]? = some (k, d) → ∃ v, vs[i]? = some (k, v) ∧ RD G H m d v
  | _, _, _, _, _, .nil, e => by simp at e
  | _, _, 0, _, _, .cons r _, e => by simp at e; obtain ⟨rfl, rfl⟩ := e; exact ⟨_, rfl, r⟩
  | _, _, i + 1, _, _, .cons _ t, e => by simpa using RKs.get (i := i) t (by simpa using e)
theorem lock_in {G : Gm} {H : Hp} {m : List Addr} {M : Mem} {n : Nat} {a : Addr} {kvs : List (Key × D)} (hM : RM G H m M) (ea : m[n]? = some a) (q : M[n]? = some (.dK kvs)) :
    ∃ kws, H a = some (.dK kws) ∧ ∀ od, RM G (upd H a (.frz od (.dK kws))) m (M.set n (.fdK kvs)) ∧ Ext G H (upd H a (.frz od (.dK kws))) := by
  obtain ⟨kws, g1, g2⟩ := hM.at_ _ _ _ ea q
  have mu : MutL (H a) := by rw [g1]; trivial
  refine ⟨kws, g1, fun od => ⟨?_, Ext.write mu⟩⟩
  exact hM.swap ea q rfl rfl (Ext.write mu).t (fun ob xs z => by rw [g1] at z; cases z) ⟨fun φ z => (by rw [g1] at z; cases z), fun fs z => (by rw [g1] at z; cases z)⟩ ⟨od, kws, upd_same, g2.mono (List.prefix_refl _) (Ext.write mu)⟩
theorem lock_out {G : Gm} {H H' : Hp} {m' : List Addr} {M2 : Mem} {n : Nat} {a : Addr} {od : Obj} {kws : List (Key × V)} {kvs2 : List (Key × D)} (h0 : H a = some (.dK kws)) (x : Ext G (upd H a (.frz od (.dK kws))) H') (x0 : Ext G H (upd H a (.frz od (.dK kws)))) (hM : RM G H' m' M2) (ea : m'[n]? = some a) (q : M2[n]? = some (.fdK kvs2)) :
    H' a = some (.frz od (.dK kws)) ∧ RM G (upd H' a (.dK kws)) m' (M2.set n (.dK kvs2)) ∧ ExT G H' (upd H' a (.dK kws)) ∧ Ext G H (upd H' a (.dK kws)) := by
  have e1 : H' a = some (.frz od (.dK kws)) := x.z _ _ _ upd_same
  obtain ⟨ob, kws', g1, g2⟩ := hM.at_ _ _ _ ea q
  rw [e1] at g1
  cases g1
  have xt : ExT G H' (upd H' a (.dK kws)) := ExT.at_ (fun xs z => by rw [e1] at z; cases z) (fun ob xs z => by rw [e1] at z; cases z)
  refine ⟨e1, ?_, xt, ⟨fun b xs s => xt _ _ (x.t _ _ (x0.t _ _ s)), fun b ob u s => ?_, fun b φ s => ?_, fun b fs s => ?_⟩⟩
  · exact hM.swap ea q rfl rfl xt (fun ob xs z => by rw [e1] at z; cases z) ⟨fun φ z => (by rw [e1] at z; cases z), fun fs z => (by rw [e1] at z; cases z)⟩ ⟨kws, upd_same, g2.monoT (List.prefix_refl _) xt⟩
  · have hb : b ≠ a := fun z => by rw [z, h0] at s; cases s
    rw [upd_ne hb]
    exact x.z _ _ _ (by rw [upd_ne hb]; exact s)
  · have hb : b ≠ a := fun z => by rw [z, h0] at s; cases s
    rw [upd_ne hb]
    exact x.e _ _ (by rw [upd_ne hb]; exact s)
  · have hb : b ≠ a := fun z => by rw [z, h0] at s; cases s
    rw [upd_ne hb]
    exact x.x _ _ (by rw [upd_ne hb]; exact s)
section
variable {X : Cx} {fa : Nat → Addr} {a b c e o i : Expr} {eva evb evc evo evi who ev : Ev} {pos p : Pos} {es : List Expr} {apos cpos : Pos}
def eLock (who ev : Ev) : Ev := fun ρ M => match who ρ M with
  | some (.ref n, _) => match M[n]? with
    | some (.dK kvs) => match ev ρ (M.set n (.fdK kvs)) with
      | some (d, M2) => match M2[n]? with
        | some (.fdK kvs2) => some (d, M2.set n (.dK kvs2))
        | _ => none
      | none => none
    | _ => none
  | _ => none
theorem eLock_inv {ev : Ev} {ρ : Loc} {M M' : Mem} {d : D} (e : eLock who ev ρ M = some (d, M')) : ∃ n kvs M2 kvs2, M[n]? = some (.dK kvs) ∧ ev ρ (M.set n (.fdK kvs)) = some (d, M2) ∧ M2[n]? = some (.fdK kvs2) ∧ M' = M2.set n (.dK kvs2) := by
  unfold eLock at e
  split at e
  · split at e
    · rename_i n M1 q1 kvs q2
      split at e
      · rename_i d2 M2 q3
        split at e
        · rename_i kvs2 q4
          cases e
          exact ⟨_, _, _, _, q2, q3, q4, rfl⟩
        · cases e
      · cases e
    · cases e
  · cases e
theorem l_lockE (who : Ev) (h : PE X e (TEof (GX X fa) ev)) : PE X e (TEof (GX X fa) (eLock who ev)) := by
  refine (pe_lock h).imp fun σ H Q ⟨m, M, ρ, d, M', hρ, hM, e, fin⟩ => ?_
  obtain ⟨n, kvs, M2, kvs2, q1, q2, q3, rfl⟩ := eLock_inv e
  obtain ⟨a, ha, _⟩ := hM.addr q1
  obtain ⟨kws, h0, h1⟩ := lock_in hM ha q1
  refine ⟨a, _, h0, trivial, fun od => ?_⟩
  obtain ⟨h2, x0⟩ := h1 od
  refine ⟨m, M.set n (.fdK kvs), ρ, d, M2, hρ.mono (List.prefix_refl _) x0, h2, q2, fun m' H' pm xm hM' v rd => ?_⟩
  obtain ⟨k1, k2, k3, k4⟩ := lock_out h0 xm x0 hM' (pre_get pm ha) q3
  exact ⟨k1, fin m' _ pm k4 k2 v (rd.monoT (List.prefix_refl _) k3)⟩
/-- raised -/
def Fl.isExc : Fl → Bool
  | .exc _ _ _ => true
  | _ => false
def sLock (who : Ev) (ev : Es) : Es := fun ρ M => match who ρ M with
  | some (.ref n, _) => match M[n]? with
    | some (.dK kvs) => match ev ρ (M.set n (.fdK kvs)) with
      | some (d, M2) => match M2[n]? with
        | some (.fdK kvs2) => if d.isExc = true then none else some (d, M2.set n (.dK kvs2))
        | _ => none
      | none => none
    | _ => none
  | _ => none
theorem sLock_inv {ev : Es} {ρ : Loc} {M M' : Mem} {d : Fl} (e : sLock who ev ρ M = some (d, M')) : ∃ n kvs M2 kvs2, M[n]? = some (.dK kvs) ∧ ev ρ (M.set n (.fdK kvs)) = some (d, M2) ∧ M2[n]? = some (.fdK kvs2) ∧ M' = M2.set n (.dK kvs2) ∧ d.isExc = false := by
  unfold sLock at e
  split at e
  · split at e
    · rename_i n M1 q1 kvs q2
      split at e
      · rename_i d2 M2 q3
        split at e
        · rename_i kvs2 q4
          split at e
          · cases e
          · rename_i hx
            cases e
            exact ⟨_, _, _, _, q2, q3, q4, rfl, Bool.eq_false_iff.mpr hx⟩
        · cases e
      · cases e
    · cases e
  · cases e
theorem l_lockS {W : WX} (who : Ev) {st : Stmt} {ev : Es} (h : PS X st (TSw W (GX X fa) ev)) : PS X st (TSw W (GX X fa) (sLock who ev)) := by
  refine (ps_lock h).imp fun D σ H ⟨m, M, ρ, d, M', hρ, hM, e, fin⟩ => ?_
  obtain ⟨n, kvs, M2, kvs2, q1, q2, q3, rfl, nx⟩ := sLock_inv e
  obtain ⟨a, ha, _⟩ := hM.addr q1
  obtain ⟨kws, h0, h1⟩ := lock_in hM ha q1
  refine ⟨a, _, h0, trivial, fun od => ?_⟩
  obtain ⟨h2, x0⟩ := h1 od
  refine ⟨m, M.set n (.fdK kvs), ρ, d, M2, hρ.mono (List.prefix_refl _) x0, h2, q2, fun m' H' pm xm hM' => ?_⟩
  obtain ⟨k1, k2, k3, k4⟩ := lock_out h0 xm x0 hM' (pre_get pm ha) q3
  have f := fin m' _ pm k4 k2
  cases d with
  | next ρ' => exact fun σ' hρ' => ⟨k1, f σ' (hρ'.monoT (List.prefix_refl _) k3)⟩
  | ret d => exact fun v rd => ⟨k1, f v (rd.monoT (List.prefix_refl _) k3)⟩
  | brk ρ' => exact fun σ' hρ' => ⟨k1, f σ' (hρ'.monoT (List.prefix_refl _) k3)⟩
  | cont ρ' => exact fun σ' hρ' => ⟨k1, f σ' (hρ'.monoT (List.prefix_refl _) k3)⟩
  | exc ρ' c x => cases nx
/-! what is walked -/
def fdAt (M : Mem) (n : Nat) : Option (List (Key × D)) := match M[n]? with
  | some (.fdK kvs) => some kvs
  | _ => none
theorem fdAt_inv {M : Mem} {n : Nat} {kvs : List (Key × D)} (e : fdAt M n = some kvs) : M[n]? = some (.fdK kvs) := by
  unfold fdAt at e
  split at e
  · rename_i q; cases e; exact q
  · cases e
def iDict (f : Key × D → D) (ev : Ev) : EvI := fun ρ M => bindO (ev ρ M) fun d M1 => match d with
  | .ref n => if (fdAt M1 n).isSome then some ((fun M2 => (fdAt M2 n).map fun kvs => kvs.map f), M1) else none
  | _ => none
def fItem : Key × D → D := fun kv => .tup [kD kv.1, kv.2]
def fVal : Key × D → D := fun kv => kv.2
def fKey : Key × D → D := fun kv => kD kv.1
theorem iDict_inv {f : Key × D → D} {ρ : Loc} {M M' : Mem} {get : Src} (n : Nat) (e : (if (fdAt M n).isSome then some ((fun M2 => (fdAt M2 n).map fun kvs => kvs.map f), M) else none) = some (get, M')) : (∃ kvs, M[n]? = some (.fdK kvs)) ∧ get = (fun M2 => (fdAt M2 n).map fun kvs => kvs.map f) ∧ M' = M := by
  split at e
  · rename_i h
    cases e
    obtain ⟨kvs, hk⟩ := Option.isSome_iff_exists.mp h
    exact ⟨⟨kvs, fdAt_inv hk⟩, rfl, rfl⟩
  · cases e
theorem fd_here {G : Gm} {H H2 : Hp} {m2 : List Addr} {M2 : Mem} {n : Nat} {a : Addr} {ob : Obj} {kws : List (Key × V)} {f : Key × D → D} {xs : List D} (h : H a = some (.frz ob (.dK kws))) (xm : Ext G H H2) (ha : m2[n]? = some a) (hM : RM G H2 m2 M2) (e : ((fdAt M2 n).map fun kvs => kvs.map f) = some xs) :
    H2 a = some (.frz ob (.dK kws)) ∧ ∃ kvs, xs = kvs.map f ∧ RKs G H2 m2 kvs kws := by
  have e1 := xm.z _ _ _ h
  cases q : fdAt M2 n with
  | none => rw [q] at e; cases e
  | some kvs =>
    rw [q] at e
    cases e
    obtain ⟨ob', kws', g1, g2⟩ := hM.at_ _ _ _ ha (fdAt_inv q)
    rw [e1] at g1
    cases g1
    exact ⟨e1, kvs, rfl, g2⟩
theorem l_iitems {elts : List Expr} {kk : Nat} {tpos : Pos} (he : PE X e (TEof (GX X fa) ev)) (hbase : attributeBase e "items" X.env (eval e X.env) = eval e X.env := by rfl) (hline : (apos.endLine == cpos.line) = true := by rfl) :
    PI X (.Tuple elts kk tpos) (.Call (.Attribute e "items" apos) [] [] cpos) (TIof (GX X fa) (iDict fItem ev)) := by
  refine PI.imp (pi_items he hbase hline) fun σ H Rk ⟨m, M, ρ, get, M', hρ, hM, e, fin⟩ => ?_
  refine te_bind hρ hM e fin fun m1 H1 M1 d1 v hρ1 hM1 rd e1 fin1 p1 x1 => ?_
  cases rd with
  | @ref n a ha =>
    obtain ⟨⟨kvs, q⟩, rfl, rfl⟩ := iDict_inv (ρ := ρ) n e1
    obtain ⟨ob, kws, g1, g2⟩ := hM1.at_ _ _ _ ha q
    refine ⟨a, ob, kws, rfl, g1, fin1.here hM1 _ fun i H2 m2 M2 xs pm xm hM2 hx => ?_⟩
    obtain ⟨k1, kvs2, rfl, k2⟩ := fd_here g1 xm (pre_get pm ha) hM2 hx
    refine ⟨fun hn => ⟨k1, ?_⟩, fun d hd => ?_⟩
    · rw [List.getElem?_map, Option.map_eq_none_iff] at hn
      rw [← k2.length]
      exact List.getElem?_eq_none_iff.mp hn
    · rw [List.getElem?_map, Option.map_eq_some_iff] at hd
      obtain ⟨⟨k, dv⟩, hk, rfl⟩ := hd
      obtain ⟨v, hv, rv⟩ := k2.get hk
      refine ⟨⟨k1, (List.getElem?_eq_some_iff.mp hv).1⟩, fun x H3 ⟨T, k', v', y1, y2, y3, y4⟩ => ?_⟩
      rw [hv] at y1
      cases y1
      subst y2 y4
      exact ⟨Ext.new y3, hM2.new y3, .tup (.inl (.inl upd_same)) (.cons (kD_rel k) (.cons (rv.mono (List.prefix_refl _) (Ext.new y3)) .nil))⟩
  | _ => cases e1
theorem l_ivals {tg : Expr} (he : PE X e (TEof (GX X fa) ev)) (hbase : attributeBase e "values" X.env (eval e X.env) = eval e X.env := by rfl) (hline : (apos.endLine == cpos.line) = true := by rfl) :
    PI X tg (.Call (.Attribute e "values" apos) [] [] cpos) (TIof (GX X fa) (iDict fVal ev)) := by
  refine PI.imp (pi_values he hbase hline) fun σ H Rk ⟨m, M, ρ, get, M', hρ, hM, e, fin⟩ => ?_
  refine te_bind hρ hM e fin fun m1 H1 M1 d1 v hρ1 hM1 rd e1 fin1 p1 x1 => ?_
  cases rd with
  | @ref n a ha =>
    obtain ⟨⟨kvs, q⟩, rfl, rfl⟩ := iDict_inv (ρ := ρ) n e1
    obtain ⟨ob, kws, g1, g2⟩ := hM1.at_ _ _ _ ha q
    refine ⟨a, ob, kws, rfl, g1, fin1.here hM1 _ fun i H2 m2 M2 xs pm xm hM2 hx => ?_⟩
    obtain ⟨k1, kvs2, rfl, k2⟩ := fd_here g1 xm (pre_get pm ha) hM2 hx
    refine ⟨fun hn => ⟨k1, ?_⟩, fun d hd => ?_⟩
    · rw [List.getElem?_map, Option.map_eq_none_iff] at hn
      rw [← k2.length]
      exact List.getElem?_eq_none_iff.mp hn
    · rw [List.getElem?_map, Option.map_eq_some_iff] at hd
      obtain ⟨⟨k, dv⟩, hk, rfl⟩ := hd
      obtain ⟨v, hv, rv⟩ := k2.get hk
      refine ⟨⟨k1, (List.getElem?_eq_some_iff.mp hv).1⟩, fun x H3 ⟨y0, k', y1⟩ => ?_⟩
      subst y0
      rw [hv] at y1
      cases y1
      exact ⟨Ext.refl, hM2, rv⟩
  | _ => cases e1
theorem wk_keys {G : Gm} {m1 : List Addr} {H1 : Hp} {n : Nat} {a : Addr} {ob : Obj} {kws : List (Key × V)} (ha : m1[n]? = some a) (g1 : H1 a = some (.frz ob (.dK kws))) : Wk G (Itk a ob kws) m1 H1 (fun M2 => (fdAt M2 n).map fun kvs => kvs.map fKey) := fun i H2 m2 M2 xs pm xm hM2 hx => by
  obtain ⟨k1, kvs2, rfl, k2⟩ := fd_here g1 xm (pre_get pm ha) hM2 hx
  refine ⟨fun hn => ⟨k1, ?_⟩, fun d hd => ?_⟩
  · rw [List.getElem?_map, Option.map_eq_none_iff] at hn
    rw [← k2.length]
    exact List.getElem?_eq_none_iff.mp hn
  · rw [List.getElem?_map, Option.map_eq_some_iff] at hd
    obtain ⟨⟨k, dv⟩, hk, rfl⟩ := hd
    obtain ⟨v, hv, rv⟩ := k2.get hk
    refine ⟨⟨k1, (List.getElem?_eq_some_iff.mp hv).1⟩, fun x H3 ⟨y0, k', v', y1, y2⟩ => ?_⟩
    subst y0 y2
    rw [hv] at y1
    cases y1
    exact ⟨Ext.refl, hM2, kD_rel k⟩
theorem l_ikeysM {tg : Expr} (he : PE X e (TEof (GX X fa) ev)) (hbase : attributeBase e "keys" X.env (eval e X.env) = eval e X.env := by rfl) (hline : (apos.endLine == cpos.line) = true := by rfl) :
    PI X tg (.Call (.Attribute e "keys" apos) [] [] cpos) (TIof (GX X fa) (iDict fKey ev)) := by
  refine PI.imp (pi_keysM he hbase hline) fun σ H Rk ⟨m, M, ρ, get, M', hρ, hM, e, fin⟩ => ?_
  refine te_bind hρ hM e fin fun m1 H1 M1 d1 v hρ1 hM1 rd e1 fin1 p1 x1 => ?_
  cases rd with
  | @ref n a ha =>
    obtain ⟨⟨kvs, q⟩, rfl, rfl⟩ := iDict_inv (ρ := ρ) n e1
    obtain ⟨ob, kws, g1, g2⟩ := hM1.at_ _ _ _ ha q
    exact ⟨a, ob, kws, rfl, g1, fin1.here hM1 _ (wk_keys ha g1)⟩
  | _ => cases e1
theorem l_ikeys {tg : Expr} (he : PE X e (TEof (GX X fa) ev)) : PI X tg e (TIof (GX X fa) (iDict fKey ev)) := by
  refine PI.imp (pi_keys he) fun σ H Rk ⟨m, M, ρ, get, M', hρ, hM, e, fin⟩ => ?_
  refine te_bind hρ hM e fin fun m1 H1 M1 d1 v hρ1 hM1 rd e1 fin1 p1 x1 => ?_
  cases rd with
  | @ref n a ha =>
    obtain ⟨⟨kvs, q⟩, rfl, rfl⟩ := iDict_inv (ρ := ρ) n e1
    obtain ⟨ob, kws, g1, g2⟩ := hM1.at_ _ _ _ ha q
    exact ⟨a, ob, rfl, .inl ⟨kws, g1, fin1.here hM1 _ (wk_keys ha g1)⟩⟩
  | _ => cases e1
end
end Mi
set_option Elab.async false
set_option linter.all false
set_option maxRecDepth 100000
/-! dict(pairs), list(d.items()) -/
namespace Mi
open PySem PySem.Spec PyProof.Rows L2
/-- pairs (k, v) of a list of tuples -/
def pairsOf : List D → Option (List (Key × D))
  | [] => some []
  | .tup [k, v] :: ds => match keyD k, pairsOf ds with
    | some key, some r => some ((key, v) :: r)
    | _, _ => none
  | _ :: _ => none
def mergeD (kvs more : List (Key × D)) : List (Key × D) := more.foldl (fun acc kv => putD acc kv.1 kv.2) kvs
theorem merge_rel {G : Gm} {H : Hp} {m : List Addr} : ∀ {more : List (Key × D)} {mv : List (Key × V)} {kvs : List (Key × D)} {vs : List (Key × V)}, RKs G H m more mv → RKs G H m kvs vs → RKs G H m (mergeD kvs more) (mergeK vs mv)
  | _, _, _, _, .nil, q => q
  | _, _, kvs, vs, @RKs.cons _ _ _ k d v ds ws r t, q => merge_rel (kvs := putD kvs k d) (vs := putK vs k v) t (put_rel r q)
theorem pairs_rel {G : Gm} {H : Hp} {m : List Addr} : ∀ {ds : List D} {vs : List V} {kds : List (Key × D)}, RDs G H m ds vs → pairsOf ds = some kds →
    ∃ (ps : List Addr) (kvs : List (Key × V)), vs = ps.map V.ref ∧ Paired (fun p (kv : Key × V) => SqT G.K H p [kV kv.1, kv.2]) ps kvs ∧ RKs G H m kds kvs
  | [], _, _, .nil, e => by cases e; exact ⟨[], [], rfl, .nil, .nil⟩
  | d :: ds, _, kds, .cons r t, e => by
    unfold pairsOf at e
    split at e
    · rename_i z; cases z
    · rename_i k v ds' z
      cases z
      cases q1 : keyD k with
      | none => rw [q1] at e; cases e
      | some key =>
        cases q2 : pairsOf ds with
        | none => rw [q1, q2] at e; cases e
        | some rest =>
          rw [q1, q2] at e
          cases e
          obtain ⟨ps, kvs, e1, e2, e3⟩ := pairs_rel t q2
          cases r with
          | @tup a _ vs ha rds =>
            cases rds with
            | cons r1 t1 =>
              cases t1 with
              | cons r2 t2 =>
                cases t2
                have ek := keyD_rel r1 q1
                subst ek
                exact ⟨a :: ps, (key, _) :: kvs, by rw [e1]; rfl, .cons ha e2, .cons r2 e3⟩
    · cases e
section
variable {X : Cx} {fa : Nat → Addr} {a b c e o i : Expr} {eva evb evc evo evi who ev : Ev} {pos p : Pos} {es : List Expr} {apos cpos : Pos}
def rDictP (K : PySem.W.Frag) : List V → Hp → VK → Prop := fun xs H Q => ∃ (a : Addr) (ps : List Addr) (kvs : List (Key × V)), xs = [.ref a] ∧ SqL K H a (ps.map V.ref) ∧ Paired (fun p kv => SqT K H p [kV kv.1, kv.2]) ps kvs ∧ ∀ p, H p = none → Q (.ref p) (upd H p (.dK (mergeK [] kvs)))
def fDict : List D → Mem → R D := fun ds M => match ds with
  | [.ref n] => match lstAt M n with
    | some xs => match pairsOf xs with
      | some kds => some (.ref M.length, M ++ [.dK (mergeD [] kds)])
      | none => none
    | none => none
  | _ => none
theorem cs_dictP : CaS (GX X fa) fDict (rDictP X.K) := fun m H M xs ds d M' Q hM r e k => by
  unfold fDict at e
  split at e
  · rename_i n
    cases q1 : lstAt M n with
    | none => rw [q1] at e; cases e
    | some ys =>
      rw [q1] at e
      simp only at e
      cases q2 : pairsOf ys with
      | none => rw [q2] at e; cases e
      | some kds =>
        rw [q2] at e
        simp only at e
        cases e
        obtain ⟨v, rfl, rv⟩ := one_of r
        cases rv with
        | @ref _ a ha =>
          obtain ⟨vs, hs, rds⟩ := hM.lstAt q1 ha
          obtain ⟨ps, kvs, rfl, e2, e3⟩ := pairs_rel rds q2
          exact ⟨a, ps, kvs, rfl, hs, e2, fun p hp => fin_push k hM hp ⟨_, upd_same, (merge_rel e3 .nil).mono (List.prefix_append _ _) (Ext.new hp)⟩ _ (ref_last hM)⟩
  · cases e
/-! an object more, and other new ones -/
theorem RM.pushA {G : Gm} {H H' : Hp} {m : List Addr} {M : Mem} {p : Addr} {o : MO} (h : RM G H m M) (hp : H p = none) (hk : ∀ b u, H b = some u → H' b = some u) (hx : Ext G H H') (r : RO G H' (m ++ [p]) p o) : RM G H' (m ++ [p]) (M ++ [o]) := by
  have split : ∀ (n : Nat) (a : Addr) (ob : MO), (m ++ [p])[n]? = some a → (M ++ [o])[n]? = some ob → (m[n]? = some a ∧ M[n]? = some ob) ∨ (n = m.length ∧ a = p ∧ ob = o) := fun n a ob e1 e2 => by
    by_cases hn : n < m.length
    · rw [List.getElem?_append_left hn] at e1
      rw [List.getElem?_append_left (by rw [← h.len]; exact hn)] at e2
      exact .inl ⟨e1, e2⟩
    · have hl : n < (m ++ [p]).length := (List.getElem?_eq_some_iff.mp e1).1
      rw [List.length_append, List.length_singleton] at hl
      have en : n = m.length := by omega
      subst en
      rw [List.getElem?_append_right (Nat.le_refl _), Nat.sub_self] at e1
      rw [List.getElem?_append_right (by rw [h.len]; exact Nat.le_refl _), h.len, Nat.sub_self] at e2
      simp only [List.getElem?_cons_zero, Option.some.injEq] at e1 e2
      exact .inr ⟨rfl, e1.symm, e2.symm⟩
  refine ⟨by rw [List.length_append, List.length_append, h.len, List.length_singleton, List.length_singleton], fun i j a u v e1 e2 f1 f2 mu mv => ?_, fun n a ob e1 e2 => ?_⟩
  · rcases split i a u e1 f1 with ⟨x1, x2⟩ | ⟨x1, x2, x3⟩
    · rcases split j a v e2 f2 with ⟨y1, y2⟩ | ⟨y1, y2, y3⟩
      · exact h.nd i j a u v x1 y1 x2 y2 mu mv
      · subst y2
        exact absurd hp ((h.at_ i a u x1 x2).ownH mu)
    · rcases split j a v e2 f2 with ⟨y1, y2⟩ | ⟨y1, y2, y3⟩
      · subst x2
        exact absurd hp ((h.at_ j a v y1 y2).ownH mv)
      · rw [x1, y1]
  · rcases split n a ob e1 e2 with ⟨x1, x2⟩ | ⟨x1, x2, x3⟩
    · refine (h.at_ n a ob x1 x2).stay (List.prefix_append _ _) hx fun q => ?_
      cases z : H a with
      | none => exact absurd z q
      | some u => exact hk a u z
    · subst x2 x3
      exact r
theorem Ext.grow {G : Gm} {H H' : Hp} (hk : ∀ b u, H b = some u → H' b = some u) : Ext G H H' := ⟨fun a xs q => by
  rcases q with (q | ⟨ob, q⟩) | q
  · exact .inl (.inl (hk _ _ q))
  · exact .inl (.inr ⟨ob, hk _ _ q⟩)
  · exact .inr q, fun a ob u q => hk _ _ q, fun a u q => hk _ _ q, fun a u q => hk _ _ q⟩
/-- the pairs of a dict, laid as tuples -/
theorem items_rel {G : Gm} {H H' : Hp} {m m' : List Addr} (pm : m <+: m') (hx : Ext G H H') : ∀ {kds : List (Key × D)} {kvs : List (Key × V)} {ts : List Addr}, RKs G H m kds kvs → Paired (fun (t : Addr) (q : Key × V) => H' t = some (.tup [kV q.1, q.2])) ts kvs → RDs G H' m' (kds.map fItem) (ts.map V.ref)
  | _, _, _, .nil, .nil => .nil
  | _, _, _, .cons r t, .cons e s => .cons (.tup (.inl (.inl e)) (.cons (kD_rel _) (.cons (r.mono pm hx) .nil))) (items_rel pm hx t s)
/-- list(d.items()) -/
def e_listItems (ev : Ev) : Ev := fun ρ M => bindO (ev ρ M) fun d M1 => match d with
  | .ref n => match M1[n]? with
    | some (.dK kvs) => some (.ref M1.length, M1 ++ [.lst (kvs.map fItem)])
    | _ => none
  | _ => none
theorem l_listItems (hm : X.mg "list" = none) (he : PE X e (TEof (GX X fa) ev)) (hc : X.calm = true := by rfl) (hg : Gl X "list" := by rfl) (hbase : attributeBase e "items" X.env (eval e X.env) = eval e X.env := by rfl) (hline : (apos.endLine == cpos.line) = true := by rfl)
    (hs : starEach [.Call (.Attribute e "items" apos) [] [] cpos] X.env = (false, eval (.Call (.Attribute e "items" apos) [] [] cpos) X.env) :: starEach [] X.env := by rfl) :
    PE X (.Call (.Name "list" p) [.Call (.Attribute e "items" apos) [] [] cpos] [] pos) (TEof (GX X fa) (e_listItems ev)) := by
  refine (LiI.pe_listItems hc he hg hm boot_list hbase hline hs).imp fun σ H Q ⟨m, M, ρ, d, M', hρ, hM, e, fin⟩ => ?_
  refine te_bind hρ hM e fin fun m1 H1 M1 d1 v hρ1 hM1 rd e1 fin1 p1 x1 => ?_
  cases rd with
  | @ref n a ha =>
    simp only at e1
    split at e1
    · rename_i kvs q
      cases e1
      obtain ⟨kws, g1, g2⟩ := hM1.at_ _ _ _ ha q
      refine ⟨a, kws, rfl, g1, fun H' p ts hk hp _ _ h1 h2 => ?_⟩
      have hx : Ext (GX X fa) H1 H' := Ext.grow hk
      exact fin1 _ _ (List.prefix_append _ _) hx (hM1.pushA hp hk hx ⟨_, h1, items_rel (List.prefix_append _ _) hx g2 h2⟩) _ (ref_last hM1)
    · cases e1
  | _ => cases e1
end
end Mi
set_option Elab.async false
set_option linter.all false
set_option maxRecDepth 100000
/-! list(d.values()), list(d.keys()), list(d), sorted(d.items()) -/
namespace Mi
open PySem PySem.Spec PyProof.Rows L2
section
variable {X : Cx} {fa : Nat → Addr} {a b c e o i : Expr} {eva evb evc evo evi who ev : Ev} {pos p : Pos} {es : List Expr} {apos cpos : Pos} {te : TE}
def tListVals (te : TE) : TE := fun σ H Q => te σ H fun x H1 => ∃ (d : Addr) (kvs : List (Key × V)), x = .ref d ∧ H1 d = some (.dK kvs) ∧ ∀ p, H1 p = none → Q (.ref p) (upd H1 p (.lst (kvs.map (·.2))))
theorem pe_listVals (hc : X.calm = true) (he : PE X e te) (hg : Gl X "list") (hm : X.mg "list" = none) (hv : bootBuiltins "list" = some (.type "list")) (hbase : attributeBase e "values" X.env (eval e X.env) = eval e X.env := by rfl) (hline : (apos.endLine == cpos.line) = true := by rfl)
    (hs : starEach [.Call (.Attribute e "values" apos) [] [] cpos] X.env = (false, eval (.Call (.Attribute e "values" apos) [] [] cpos) X.env) :: starEach [] X.env := by rfl) :
    PE X (.Call (.Name "list" p) [.Call (.Attribute e "values" apos) [] [] cpos] [] pos) (tListVals te) := by
  refine ⟨fun pins s σ H Q I hq => ?_⟩
  refine wpAny_Call_Name_kw (ld_blt I hg hm hv ?_)
  refine PyProof.Rows.callWith_type1 ?_ hs rfl
  rw [hs]
  show wpAny _ _ (spliced ((false, eval (.Call (.Attribute e "values" apos) [] [] cpos) X.env) :: backTo pos (starEach [] X.env))) _ _ s
  refine Calls.spliced_cons ?_
  refine wpAny_Call_method (T := "dict") (id := "dict.values") hbase rfl hline F.plainAttrs_dict F.slot_dict_values F.type_dict_values (thn (he.run pins s σ H _ I hq) fun u s1 ⟨x, H1, I1, rx, d, kvs, ex, hd, q⟩ => ?_)
  subst ex
  obtain rfl : u = Value.ref d := rx
  obtain ⟨hz, hs0, vs, kv, hdo⟩ := I1.hok d _ hd
  obtain ⟨ep, hat⟩ := hdo.dictAt
  have lk : kvs.length = vs.length := Paired.length kv
  have I2 : Inv X pins σ H1 { s1 with heap := s1.heap.push { cls := .type "dict_values", data := .fields #[.ref d] } } := I1.kept (t' := s1.toks) fun b ob q => Heap.get?_push_of_some _ q
  refine ⟨hdo.typeIs, hdo.mapOf.noDict, ?_⟩
  show wpAny _ _ (callWith cpos (.builtin "dict.values") [.ref d] [] []) _ X.xe s1
  refine method_meetsIn F.slot_dict_values F.entry_dict_values rfl (PySem.evalArgs_none ⟨rfl, hdo.typeIs, F.args_dict_values_1 _, _, meets_dict_values (mixKind X.prog X.w) d hs0, ⟨vs, hdo⟩, ?_⟩)
  refine Calls.spliced_nil ?_
  refine PySem.W.kdl_call (PySem.W.kdl_values (knd := mixKind X.prog X.w) (kvs := vs) (ep := ep) (r := s1.heap.objs.size) (d := d)) (I1.ok.hd hc) ⟨⟨_, Heap.get?_push_size _ rfl, rfl, rfl⟩, hat.push _⟩ (by rw [← lk]; exact hz) fun h' tk acc' c' hkeep hS hacc => ?_
  refine ⟨.ref _, _, I2.laid (o := .lst (kvs.map (·.2))) hkeep (Nat.le_refl _) (show ObjOk X.prog X.w _ _ _ (.lst (kvs.map (·.2))) from ⟨?_, acc'.toList, c', ?_, ?_⟩), rfl, q _ (I2.hok.fresh (Nat.le_refl _))⟩
  · rw [List.length_map]; exact hz
  · have el : acc'.toList.length = acc'.size := by simp
    refine vals_of_at (by rw [List.length_map, el, hacc.1, lk]) fun j x w h1 h2 => ?_
    obtain ⟨k, hky⟩ := hacc.2 j w (by rw [← Array.getElem?_toList]; exact h2)
    rw [List.getElem?_map, Option.map_eq_some_iff] at h1
    obtain ⟨kx, h1, rfl⟩ := h1
    obtain ⟨qv, g1, g2, g3⟩ := LiI.paired_get kv h1
    rw [hky] at g1
    cases g1
    exact g3
  · rw [Array.toArray_toList]; exact hS
/-- list(d.values()) -/
def e_listValues (ev : Ev) : Ev := fun ρ M => bindO (ev ρ M) fun d M1 => match d with
  | .ref n => match M1[n]? with
    | some (.dK kvs) => some (.ref M1.length, M1 ++ [.lst (kvs.map fVal)])
    | _ => none
  | _ => none
theorem vals_rel {G : Gm} {H : Hp} {m : List Addr} : ∀ {kds : List (Key × D)} {kvs : List (Key × V)}, RKs G H m kds kvs → RDs G H m (kds.map fVal) (kvs.map (·.2))
  | _, _, .nil => .nil
  | _, _, .cons r t => .cons r (vals_rel t)
theorem l_listValues (hm : X.mg "list" = none) (he : PE X e (TEof (GX X fa) ev)) (hc : X.calm = true := by rfl) (hg : Gl X "list" := by rfl) (hbase : attributeBase e "values" X.env (eval e X.env) = eval e X.env := by rfl) (hline : (apos.endLine == cpos.line) = true := by rfl)
    (hs : starEach [.Call (.Attribute e "values" apos) [] [] cpos] X.env = (false, eval (.Call (.Attribute e "values" apos) [] [] cpos) X.env) :: starEach [] X.env := by rfl) :
    PE X (.Call (.Name "list" p) [.Call (.Attribute e "values" apos) [] [] cpos] [] pos) (TEof (GX X fa) (e_listValues ev)) := by
  refine (pe_listVals hc he hg hm boot_list hbase hline hs).imp fun σ H Q ⟨m, M, ρ, d, M', hρ, hM, e, fin⟩ => ?_
  refine te_bind hρ hM e fin fun m1 H1 M1 d1 v hρ1 hM1 rd e1 fin1 p1 x1 => ?_
  cases rd with
  | @ref n a ha =>
    simp only at e1
    split at e1
    · rename_i kvs q
      cases e1
      obtain ⟨kws, g1, g2⟩ := hM1.at_ _ _ _ ha q
      exact ⟨a, kws, rfl, g1, fun p hp => fin_push fin1 hM1 hp ⟨_, upd_same, (vals_rel g2).mono (List.prefix_append _ _) (Ext.new hp)⟩ _ (ref_last hM1)⟩
    · cases e1
  | _ => cases e1
/-- list(d): the keys -/
def fListD : List D → Mem → R D := fun ds M => match ds with
  | [.ref n] => match M[n]? with
    | some (.dK kvs) => some (.ref M.length, M ++ [.lst (kvs.map fKey)])
    | _ => none
  | _ => none
theorem keys_rel {G : Gm} {H H' : Hp} {m m' : List Addr} : ∀ {kds : List (Key × D)} {kvs : List (Key × V)}, RKs G H m kds kvs → RDs G H' m' (kds.map fKey) (kvs.map fun kv => kV kv.1)
  | _, _, .nil => .nil
  | _, _, .cons r t => .cons (kD_rel _) (keys_rel t)
theorem cs_listD : CaS (GX X fa) fListD rListD := fun m H M xs ds d M' Q hM r e k => by
  unfold fListD at e
  split at e
  · split at e
    · rename_i n kvs q
      cases e
      obtain ⟨v, rfl, rv⟩ := one_of r
      cases rv with
      | @ref _ a ha =>
        obtain ⟨kws, g1, g2⟩ := hM.at_ _ _ _ ha q
        exact ⟨a, kws, rfl, g1, fun p hp => fin_push k hM hp ⟨_, upd_same, keys_rel g2⟩ _ (ref_last hM)⟩
    · cases e
  · cases e
end
end Mi
set_option Elab.async false
set_option linter.all false
set_option maxRecDepth 100000
/-! sorted(d.items()) -/
namespace Mi
open PySem PySem.Spec PyProof.Rows L2
def keyP : Key → PyData
  | .inl i => .int i
  | .inr s => .str s
def pairP {α : Type} (b : (Key × α) × PyData) : PyData := .tuple [keyP b.1.1, b.2]
theorem each_all {β : Type} {P : Value → β → Prop} (f : β → Value) : ∀ {zs : List β}, (∀ z ∈ zs, P (f z) z) → PySem.W.EachIs P (zs.map f) zs
  | [], _ => .nil
  | z :: zs, h => .cons (h z List.mem_cons_self) (each_all f fun y hy => h y (List.mem_cons_of_mem _ hy))
theorem each_fun {β : Type} (f : β → Value) : ∀ {out : List Value} {zs : List β}, PySem.W.EachIs (fun v z => v = f z) out zs → out = zs.map f
  | _, _, .nil => rfl
  | _, _, .cons h t => by rw [h, each_fun f t]; rfl
theorem paired_all {β : Type} {P : Addr → β → Prop} {γ : Type} (g : γ → Addr) (k : γ → β) : ∀ {zs : List γ}, (∀ z ∈ zs, P (g z) (k z)) → Paired P (zs.map g) (zs.map k)
  | [], _ => .nil
  | z :: zs, h => .cons (h z List.mem_cons_self) (paired_all g k fun y hy => h y (List.mem_cons_of_mem _ hy))
section
variable {X : Cx} {fa : Nat → Addr} {a b c e o i : Expr} {eva evb evc evo evi who ev : Ev} {pos p : Pos} {es : List Expr} {apos cpos : Pos} {te : TE}
def tSortItems (K : PySem.W.Frag) (te : TE) : TE := fun σ H Q => te σ H fun x H1 => ∃ (d : Addr) (bs : List ((Key × V) × PyData)), x = .ref d ∧ H1 d = some (.dK (bs.map (·.1))) ∧ (∀ b ∈ bs, Dp K H1 b.1.2 b.2) ∧ okSort (bs.map pairP) = true ∧
  ∀ (H' : Hp) (p : Addr) (ts : List Addr), (∀ b o, H1 b = some o → H' b = some o) → H1 p = none → H' p = some (.lst (ts.map V.ref)) → Paired (fun (t : Addr) (q : Key × V) => H' t = some (.tup [kV q.1, q.2])) ts ((bs.mergeSort (PySem.W.dataLe false pairP)).map (·.1)) → Q (.ref p) H'
theorem kV_reads {h : Heap} {k : Key} {v : Value} (hk : keyIs k v = true) : Reads h v (keyP k) [] := by
  have r := keyIs_rel hk
  cases k with
  | inl i => obtain ⟨t, rfl⟩ := r; exact .int i t
  | inr s => obtain ⟨t, rfl⟩ := r; exact .str s t
theorem pe_sortItems (hu : X.A.units + 70 < cLine) (hc : X.calm = true) (he : PE X e te) (hg : Gl X "sorted") (hm : X.mg "sorted" = none) (hbase : attributeBase e "items" X.env (eval e X.env) = eval e X.env := by rfl) (hline : (apos.endLine == cpos.line) = true := by rfl)
    (hs : starEach [.Call (.Attribute e "items" apos) [] [] cpos] X.env = [(false, eval (.Call (.Attribute e "items" apos) [] [] cpos) X.env)] := by rfl) :
    PE X (.Call (.Name "sorted" p) [.Call (.Attribute e "items" apos) [] [] cpos] [] pos) (tSortItems X.K te) := by
  refine ⟨fun pins s0 σ H Q I0 hq => ?_⟩
  refine wpAny_Call_Name_kw (ld_blt I0 hg hm (u := .builtin "sorted") (by first | rfl | decide +kernel) ?_ (by first | decide +kernel | decide) (by first | decide +kernel | decide))
  rw [hs]
  refine PySem.callWith_builtin1 (wpAny_Call_method0_late hbase hline (thn (he.run pins s0 σ H _ I0 hq) fun v s1 ⟨x, H1, I1, r1, d, bs, ex, hd, hDp, hok, q⟩ => ?_))
  subst ex
  obtain rfl : v = Value.ref d := r1
  obtain ⟨hz, hs0, vs, kv, hdo⟩ := I1.hok d _ hd
  obtain ⟨ep, hat⟩ := hdo.dictAt
  have lk : (bs.map (·.1)).length = vs.length := Paired.length kv
  rw [List.length_map] at lk hz
  have hat' := hat
  obtain ⟨ob, es, ho, hex, hdat, hko, hpr, hnd⟩ := hat'
  refine ⟨"dict", "dict.items", F.plainAttrs_dict, F.slot_dict_items, F.type_dict_items, hdo.typeIs, hdo.mapOf.noDict, Calls.callWith_builtin rfl (PySem.evalArgs_none ?_)⟩
  refine call_meetsIn F.slot_dict_items hdo.typeIs F.entry_dict_items (F.args_dict_items_1 _) (meets_dict_items (mixKind X.prog X.w) d hs0) ⟨⟨vs, hdo⟩, ?_⟩
  have I : Inv X pins σ H1 { s1 with heap := s1.heap.push { cls := .type "dict_items", data := .fields #[.ref d] } } := I1.kept (t' := s1.toks) fun b ob q => Heap.get?_push_of_some _ q
  have hview : (s1.heap.push { cls := .type "dict_items", data := .fields #[.ref d] }).IsItemsView s1.heap.objs.size d := ⟨_, Heap.get?_push_size _ rfl, rfl, rfl⟩
  have hraw : DT.Raw (s1.heap.push { cls := .type "dict_items", data := .fields #[.ref d] }) d es ep := ⟨ob, Heap.get?_push_of_some _ ho, hex, hdat⟩
  generalize hsn : ({ s1 with heap := s1.heap.push { cls := .type "dict_items", data := .fields #[.ref d] } } : Shared) = s at I
  have hsh : s1.heap.push { cls := .type "dict_items", data := .fields #[.ref d] } = s.heap := by rw [← hsn]
  rw [hsh] at hview hraw
  show wpAny (model X.prog X.w) X.A (call (.builtin "sorted") [.ref s1.heap.objs.size]) (EP X pins σ Q) X.xe s
  have hle : es.size = vs.length := by rw [← hpr.length]; simp
  refine DT.sortedI (es := es) (ep := ep) (I.ok.hd hc) hview hraw (by rw [hle, ← lk]; exact hz) fun h' tk as hk hlt hl hG => ?_
  have lab : as.length = bs.length := by omega
  have nd : as.Nodup := List.Pairwise.imp (fun h => Nat.ne_of_lt h) hG.rise
  -- what stands at each place
  have pr : ∀ (j : Nat) (t : Addr), as[j]? = some t → ∃ (b : (Key × V) × PyData) (key x : Value), bs[j]? = some b ∧ keyIs b.1.1 key = true ∧ RelV b.1.2 x ∧ h'.get? t = some { cls := .type "tuple", data := .seq #[key, x] } := by
    intro j t hj
    obtain ⟨en, he', hg'⟩ := hG.pairs j t hj
    have hjl : j < bs.length := by rw [← lab]; exact (List.getElem?_eq_some_iff.mp hj).1
    obtain ⟨b, hb⟩ : ∃ b, bs[j]? = some b := ⟨bs[j], List.getElem?_eq_getElem hjl⟩
    have hb1 : (bs.map (·.1))[j]? = some b.1 := by rw [List.getElem?_map, hb]; rfl
    obtain ⟨qv, g1, g2, g3⟩ := LiI.paired_get kv hb1
    obtain ⟨hkey, hval⟩ := hpr.get? (e := en) (by rw [← he', Array.getElem?_toList]) g1
    refine ⟨b, en.key, en.val, hb, ?_, ?_, hg'⟩
    · rw [g2]; exact hkey
    · rw [hval]; exact g3
  -- the heap of the sort
  have hob : (h'.push { cls := .type "list", data := .seq (as.map Value.ref).toArray }).get? h'.objs.size = some (seqObj "list" (as.map Value.ref).toArray 0) := Heap.get?_push_size _ rfl
  have kb : ∀ b o, s.heap.get? b = some o → (h'.push { cls := .type "list", data := .seq (as.map Value.ref).toArray }).get? b = some o := fun b o e => Heap.get?_push_of_some _ (hk b o e)
  have ne0 : ∀ b o, h'.get? b = some o → b ≠ h'.objs.size := fun b o e => Nat.ne_of_lt (Heap.lt_size e)
  generalize hh2 : h'.push { cls := .type "list", data := .seq (as.map Value.ref).toArray } = h2 at hob kb ⊢
  have ka : ∀ b o, h'.get? b = some o → h2.get? b = some o := fun b o e => by rw [← hh2]; exact Heap.get?_push_of_some _ e
  have zmem : ∀ z ∈ as.zip bs, ∃ j : Nat, as[j]? = some z.1 ∧ bs[j]? = some z.2 := fun z hz => by
    obtain ⟨j, hj⟩ := List.mem_iff_getElem?.mp hz
    exact ⟨j, List.getElem?_zip_eq_some.mp hj⟩
  have zm : as.map Value.ref = (as.zip bs).map fun z => Value.ref z.1 := by
    have e : (as.zip bs).map (·.1) = as := List.map_fst_zip (by omega)
    have e2 : (as.zip bs).map (fun z => Value.ref z.1) = ((as.zip bs).map (·.1)).map Value.ref := by rw [List.map_map]; rfl
    rw [e2, e]
  have zb : (as.zip bs).map (·.2) = bs := List.map_snd_zip (by omega)
  have zd : (as.zip bs).map (fun z => pairP z.2) = bs.map pairP := by
    have e2 : (as.zip bs).map (fun z => pairP z.2) = ((as.zip bs).map (·.2)).map pairP := by rw [List.map_map]; rfl
    rw [e2, zb]
  have hob' := hob
  rw [zm] at hob'
  unfold okSort at hok
  simp only [Bool.and_eq_true] at hok
  obtain ⟨⟨o1, o2⟩, o3⟩ := hok
  have er : ∀ z ∈ as.zip bs, ∃ rs, Reads h2 (Value.ref z.1) (pairP z.2) rs ∧ h'.objs.size ∉ rs := fun z hz => by
    obtain ⟨j, j1, j2⟩ := zmem z hz
    obtain ⟨b, key, x, e1, e2, e3, e4⟩ := pr j z.1 j1
    rw [j2] at e1
    cases e1
    obtain ⟨rs, hr⟩ := Dp.reads I _ _ _ (hDp z.2 (List.mem_of_getElem? j2)) e3
    have hin := PyProof.On.reads_mem_get hr
    refine ⟨[] ++ (rs ++ []), .tuple (ka _ _ e4) rfl rfl (.cons (kV_reads e2) (.cons (PyProof.Rows.Reads.keeps kb hr) .nil)), fun hmem => ?_⟩
    simp only [List.nil_append, List.append_nil] at hmem
    obtain ⟨ob2, hob2⟩ := hin _ hmem
    exact Nat.lt_irrefl _ (Nat.lt_trans hlt (Heap.lt_size hob2))
  refine PySem.W.list_sort_data (s := { s with heap := h2, toks := tk }) (R := fun v (z : Addr × ((Key × V) × PyData)) => v = Value.ref z.1) (bs := as.zip bs) (enc := fun z : Addr × ((Key × V) × PyData) => pairP z.2) hob' (each_all (fun z : Addr × ((Key × V) × PyData) => Value.ref z.1) fun z _ => rfl) (each_all (fun z : Addr × ((Key × V) × PyData) => Value.ref z.1) er) (by rw [zd]; exact alike_of o1) (by rw [zd]; exact sortable_of o2)
    (by rw [List.length_zip]; omega) (fun z hz => ?_) fun out hlo hE => ?_
  · have hz2 : pairP z.2 ∈ bs.map pairP := by
      obtain ⟨j, j1, j2⟩ := zmem z hz
      exact List.mem_map.mpr ⟨z.2, List.mem_of_getElem? j2, rfl⟩
    have := of_decide_eq_true (List.all_eq_true.mp o3 _ hz2)
    show X.A.units + 1 + 1 + (pairP z.2).depth < cLine
    omega
  · have hout := each_fun _ hE
    have pz : ((as.zip bs).mergeSort (PySem.W.dataLe false fun z => pairP z.2)).Perm (as.zip bs) := List.mergeSort_perm _ _
    generalize hzs : (as.zip bs).mergeSort (PySem.W.dataLe false fun z => pairP z.2) = zs at hout pz
    have hzb : zs.map (·.2) = bs.mergeSort (PySem.W.dataLe false pairP) := by
      rw [← hzs, List.map_mergeSort (r := PySem.W.dataLe false fun z : Addr × ((Key × V) × PyData) => pairP z.2) (s := PySem.W.dataLe false pairP) (f := fun z : Addr × ((Key × V) × PyData) => z.2) (l := as.zip bs) (fun _ _ _ _ => rfl), zb]
    show EP X pins σ Q (.ref h'.objs.size) { s with heap := sortedHeap h2 h'.objs.size ((as.zip bs).map fun z => Value.ref z.1) out.toArray, toks := tk }
    rw [← zm]
    have kF : ∀ b o, b ≠ h'.objs.size → h2.get? b = some o → (sortedHeap h2 h'.objs.size (as.map Value.ref) out.toArray).get? b = some o := fun b o hb e => (PyProof.Rows.sortedHeap_old hb (Heap.lt_size e)).trans e
    have kS : ∀ b o, s.heap.get? b = some o → (sortedHeap h2 h'.objs.size (as.map Value.ref) out.toArray).get? b = some o := fun b o e => kF b o (ne0 _ _ (hk b o e)) (kb b o e)
    obtain ⟨eF, heF⟩ := PyProof.Rows.sortedHeap_at (vs := as.map Value.ref) (out := out.toArray) hob
    have J1 : Inv X pins σ H1 { s with heap := sortedHeap h2 h'.objs.size (as.map Value.ref) out.toArray, toks := tk } := I.kept (t' := tk) kS
    have hn0 : H1 h'.objs.size = none := I.hok.fresh (Nat.le_of_lt hlt)
    have hlen : (zs.map fun z => V.ref z.1).length ≤ sizeLine := by
      rw [List.length_map, pz.length_eq, List.length_zip]
      omega
    have rv : Vals (zs.map fun z => V.ref z.1) out := by
      rw [hout]
      exact vals_maps (fun z : Addr × ((Key × V) × PyData) => V.ref z.1) (fun z => Value.ref z.1) zs fun _ _ => rfl
    have J2 : Inv X pins σ (upd H1 h'.objs.size (.lst (zs.map fun z => V.ref z.1))) { s with heap := sortedHeap h2 h'.objs.size (as.map Value.ref) out.toArray, toks := tk } :=
      J1.take (h' := sortedHeap h2 h'.objs.size (as.map Value.ref) out.toArray) (t' := tk) (fun b ob _ e => e) (I.fpOk (Nat.le_of_lt hlt) hn0) ⟨hlen, out, eF, rv, heF⟩
    obtain ⟨H2, J3, g, qt⟩ := L2.DX.takeT (P := fun t vs => ∃ (j : Nat) (b : (Key × V) × PyData), as[j]? = some t ∧ bs[j]? = some b ∧ vs = [kV b.1.1, b.1.2]) I as _ J2 nd fun t ht => by
      obtain ⟨j, hj⟩ := List.mem_iff_getElem?.mp ht
      obtain ⟨b, key, x, e1, e2, e3, e4⟩ := pr j t hj
      have hbl : s.heap.objs.size ≤ t := Nat.le_of_lt (hG.above t ht)
      refine ⟨hbl, ?_, _, ⟨j, b, hj, e1, rfl⟩, fun H3 => ⟨(by rw [sizeLine_eq]; show 2 ≤ 16777216; omega), [key, x], .cons (keyIs_rel e2) (.cons e3 .nil), ⟨_, kF _ _ (ne0 _ _ e4) (ka _ _ e4), rfl, 0, rfl⟩⟩⟩
      rw [upd_ne (ne0 _ _ e4)]
      exact I.hok.fresh hbl
    have gr : ∀ b o, H1 b = some o → H2 b = some o := fun b o e => g b o (by rw [upd_ne (ne_of_none e hn0)]; exact e)
    refine ⟨.ref h'.objs.size, H2, J3, rfl, q H2 h'.objs.size (zs.map (·.1)) gr hn0 (by rw [List.map_map]; exact g _ _ upd_same) ?_⟩
    rw [← hzb, List.map_map]
    refine paired_all (fun z : Addr × ((Key × V) × PyData) => z.1) (fun z => z.2.1) fun z hz' => ?_
    obtain ⟨i, i1, i2⟩ := zmem z (pz.mem_iff.mp hz')
    obtain ⟨vs', ⟨j, b, j1, j2, ev⟩, hH⟩ := qt z.1 (List.mem_of_getElem? i1)
    have eij : i = j := (List.getElem?_inj (List.getElem?_eq_some_iff.mp i1).1 nd).mp (i1.trans j1.symm)
    subst eij
    rw [i2] at j2
    cases j2
    rw [hH, ev]
/-- sorted(d.items()) -/
def e_sortedItems (ev : Ev) : Ev := fun ρ M => bindO (ev ρ M) fun d M1 => match d with
  | .ref n => match M1[n]? with
    | some (.dK kvs) => match toPys M1 fuelD (kvs.map fVal) with
      | some ps => if okSort ((kvs.zip ps).map pairP) = true then some (.ref M1.length, M1 ++ [.lst (((kvs.zip ps).mergeSort (PySem.W.dataLe false pairP)).map fun b => fItem b.1)]) else none
      | none => none
    | _ => none
  | _ => none
/-- pairs on both sides, and what they read as -/
theorem quads {G : Gm} {H : Hp} {m : List Addr} : ∀ {kds : List (Key × D)} {kvs : List (Key × V)} {ps : List PyData}, RKs G H m kds kvs → DpAll G.K H (kvs.map (·.2)) ps →
    ∃ T : List ((Key × V) × (Key × D) × PyData), T.map (·.1) = kvs ∧ T.map (·.2.1) = kds ∧ T.map (·.2.2) = ps ∧ ∀ t ∈ T, t.1.1 = t.2.1.1 ∧ RD G H m t.2.1.2 t.1.2 ∧ Dp G.K H t.1.2 t.2.2
  | _, _, _, .nil, .nil => ⟨[], rfl, rfl, rfl, fun _ z => by cases z⟩
  | _, _, _, @RKs.cons _ _ _ k d v ds vs r t, @DpAll.cons _ _ _ _ p ps q u => by
    obtain ⟨T, e1, e2, e3, k'⟩ := quads t u
    refine ⟨((k, v), (k, d), p) :: T, by rw [List.map_cons, e1], by rw [List.map_cons, e2], by rw [List.map_cons, e3], fun x hx => ?_⟩
    rcases List.mem_cons.mp hx with rfl | hx
    · exact ⟨rfl, r, q⟩
    · exact k' x hx
theorem rks_map {G : Gm} {H : Hp} {m : List Addr} : ∀ {T : List ((Key × V) × (Key × D) × PyData)}, (∀ t ∈ T, t.1.1 = t.2.1.1 ∧ RD G H m t.2.1.2 t.1.2) → RKs G H m (T.map (·.2.1)) (T.map (·.1))
  | [], _ => .nil
  | ⟨(k, v), (k', d), p⟩ :: T, h => by
    obtain ⟨e, r⟩ := h _ List.mem_cons_self
    cases e
    exact .cons r (rks_map fun x hx => h x (List.mem_cons_of_mem _ hx))
theorem l_sortedItems (hu : X.A.units + 70 < cLine) (hm : X.mg "sorted" = none) (he : PE X e (TEof (GX X fa) ev)) (hc : X.calm = true := by rfl) (hg : Gl X "sorted" := by rfl) (hbase : attributeBase e "items" X.env (eval e X.env) = eval e X.env := by rfl) (hline : (apos.endLine == cpos.line) = true := by rfl)
    (hs : starEach [.Call (.Attribute e "items" apos) [] [] cpos] X.env = [(false, eval (.Call (.Attribute e "items" apos) [] [] cpos) X.env)] := by rfl) :
    PE X (.Call (.Name "sorted" p) [.Call (.Attribute e "items" apos) [] [] cpos] [] pos) (TEof (GX X fa) (e_sortedItems ev)) := by
  refine (pe_sortItems hu hc he hg hm hbase hline hs).imp fun σ H Q ⟨m, M, ρ, d, M', hρ, hM, e, fin⟩ => ?_
  refine te_bind hρ hM e fin fun m1 H1 M1 d1 v hρ1 hM1 rd e1 fin1 p1 x1 => ?_
  cases rd with
  | @ref n a ha =>
    simp only at e1
    split at e1
    · rename_i kvs q
      split at e1
      · rename_i ps q2
        split at e1
        · rename_i hok
          cases e1
          obtain ⟨kws, g1, g2⟩ := hM1.at_ _ _ _ ha q
          obtain ⟨T, t1, t2, t3, hT⟩ := quads g2 (toPys_dp hM1 _ _ _ _ q2 (vals_rel g2))
          have eB : kvs.zip ps = T.map fun t => (t.2.1, t.2.2) := by rw [← t2, ← t3, zip_maps]
          have eP : (T.map fun t => (t.1, t.2.2)).map pairP = (kvs.zip ps).map pairP := by
            rw [eB, List.map_map, List.map_map]
            refine List.map_congr_left fun t ht => ?_
            show PyData.tuple [keyP t.1.1, t.2.2] = PyData.tuple [keyP t.2.1.1, t.2.2]
            rw [(hT t ht).1]
          refine ⟨a, T.map fun t => (t.1, t.2.2), rfl, ?_, ?_, ?_, fun H' p ts hk hp h1 h2 => ?_⟩
          · rw [List.map_map]
            rw [← t1] at g1
            exact g1
          · intro b hb
            obtain ⟨t, ht, rfl⟩ := List.mem_map.mp hb
            exact (hT t ht).2.2
          · rw [eP]; exact hok
          · have hx : Ext (GX X fa) H1 H' := Ext.grow hk
            have le : ∀ t ∈ T, ∀ u ∈ T, PySem.W.dataLe false (fun t : (Key × V) × (Key × D) × PyData => pairP (t.1, t.2.2)) t u = PySem.W.dataLe false pairP (t.2.1, t.2.2) (u.2.1, u.2.2) := fun t ht u hu => by
              have e1 : pairP (t.1, t.2.2) = pairP (t.2.1, t.2.2) := by
                show PyData.tuple [keyP t.1.1, t.2.2] = PyData.tuple [keyP t.2.1.1, t.2.2]
                rw [(hT t ht).1]
              have e2 : pairP (u.1, u.2.2) = pairP (u.2.1, u.2.2) := by
                show PyData.tuple [keyP u.1.1, u.2.2] = PyData.tuple [keyP u.2.1.1, u.2.2]
                rw [(hT u hu).1]
              show PySem.W.dataLe false (fun b : PyData => b) (pairP (t.1, t.2.2)) (pairP (u.1, u.2.2)) = PySem.W.dataLe false (fun b : PyData => b) (pairP (t.2.1, t.2.2)) (pairP (u.2.1, u.2.2))
              rw [e1, e2]
            have hV : ((T.map fun t => (t.1, t.2.2)).mergeSort (PySem.W.dataLe false pairP)).map (·.1) = (T.mergeSort (PySem.W.dataLe false fun t => pairP (t.1, t.2.2))).map (·.1) := by
              rw [← List.map_mergeSort (r := PySem.W.dataLe false fun t : (Key × V) × (Key × D) × PyData => pairP (t.1, t.2.2)) (s := PySem.W.dataLe false pairP) (f := fun t : (Key × V) × (Key × D) × PyData => (t.1, t.2.2)) (l := T) (fun _ _ _ _ => rfl), List.map_map]
              rfl
            have hD : ((kvs.zip ps).mergeSort (PySem.W.dataLe false pairP)).map (fun b => fItem b.1) = ((T.mergeSort (PySem.W.dataLe false fun t => pairP (t.1, t.2.2))).map (·.2.1)).map fItem := by
              rw [eB, ← List.map_mergeSort (r := PySem.W.dataLe false fun t : (Key × V) × (Key × D) × PyData => pairP (t.1, t.2.2)) (s := PySem.W.dataLe false pairP) (f := fun t : (Key × V) × (Key × D) × PyData => (t.2.1, t.2.2)) (l := T) le, List.map_map, List.map_map]
              rfl
            rw [hV] at h2
            refine fin1 _ _ (List.prefix_append _ _) hx (hM1.pushA hp hk hx ⟨_, h1, ?_⟩) _ (ref_last hM1)
            rw [hD]
            exact items_rel (List.prefix_append _ _) hx (rks_map fun t ht => ⟨(hT t (List.mem_mergeSort.mp ht)).1, (hT t (List.mem_mergeSort.mp ht)).2.1⟩) h2
        · cases e1
      · cases e1
    · cases e1
  | _ => cases e1
end
end Mi
namespace Mi
open PySem PySem.Spec PyProof.Rows L2
def orD (f g : List D → Mem → R D) : List D → Mem → R D := fun ds M => match f ds M with
  | some r => some r
  | none => g ds M
theorem cs_or {G : Gm} {f g : List D → Mem → R D} {r q : List V → Hp → VK → Prop} (a : CaS G f r) (b : CaS G g q) : CaS G (orD f g) (orC r q) := fun m H M xs ds d M' Q hM rd e k => by
  unfold orD at e
  cases z : f ds M with
  | some y => rw [z] at e; cases e; exact .inl (a m H M xs ds d M' Q hM rd z k)
  | none => rw [z] at e; exact .inr (b m H M xs ds d M' Q hM rd e k)
end Mi
set_option Elab.async false
set_option linter.all false
set_option maxRecDepth 100000
/-! places that are not come to, texts' methods, zip, enumerate -/
namespace Mi
open PySem PySem.Spec PyProof.Rows L2
section
variable {W : WX} {X : Cx} {fa : Nat → Addr} {a b c e o i : Expr} {eva evb evc evo evi who ev : Ev} {pos p : Pos} {es : List Expr} {apos cpos : Pos} {te : TE}
/-! what is not come to -/
def sStuck : Es := fun _ _ => none
def eStuck : Ev := fun _ _ => none
theorem l_stuckS {st : Stmt} : PS X st (TSw W (GX X fa) sStuck) := ⟨fun p s σ H D I ⟨_, _, _, _, _, _, _, e, _⟩ => (by cases e)⟩
theorem l_stuckE : PE X e (TEof (GX X fa) eStuck) := ⟨fun p s σ H Q I ⟨_, _, _, _, _, _, _, e, _⟩ => (by cases e)⟩
/-! texts' methods -/
def eM0 (f : Str → Option D) (ev : Ev) : Ev := fun ρ M => bindO (ev ρ M) fun d M1 => match d with
  | .str x => (f x).map fun y => (y, M1)
  | _ => none
/-- a text's method of none: what it answers isn't made -/
structure M0Of (X : Cx) (fa : Nat → Addr) (r : V → List V → Hp → VK → Prop) (f : Str → Option D) : Prop where
  ok : ∀ (x : Str) (d : D) (H : Hp) (Q : VK), f x = some d → (∀ v, (∀ m, RD (GX X fa) H m d v) → Q v H) → r (.str x) [] H Q
theorem l_m0 {id : String} {name : Str} {r : V → List V → Hp → VK → Prop} {f : Str → Option D} (slot : Slot "str" name id) (ty : typeOf (.builtin id) = pure (.type "method_descriptor")) (rule : MtR X id r) (h : M0Of X fa r f) (he : PE X e (TEof (GX X fa) ev))
    (hbase : attributeBase e name X.env (eval e X.env) = eval e X.env := by rfl) (hline : (apos.endLine == pos.line) = true := by rfl) : PE X (.Call (.Attribute e name apos) [] [] pos) (TEof (GX X fa) (eM0 f ev)) := by
  refine (pe_m0 slot ty rule he hbase hline).imp fun σ H Q ⟨m, M, ρ, d, M', hρ, hM, e, fin⟩ => ?_
  refine te_bind hρ hM e fin fun m1 H1 M1 d1 v hρ1 hM1 rd e1 fin1 p1 x1 => ?_
  cases rd with
  | str x =>
    have e2 : (f x).map (fun y => (y, M1)) = some (d, M') := e1
    cases q : f x with
    | none => rw [q] at e2; cases e2
    | some y =>
      rw [q] at e2
      cases e2
      exact ⟨⟨_, rfl⟩, h.ok x _ H1 Q q fun v hv => fin1.here hM1 v (hv m1)⟩
  | _ => cases e1
def mIsalnum (x : Str) : Option D := some (.bl (Txt.isalnum x))
def mIsascii (x : Str) : Option D := some (.bl (Txt.isascii x))
def mLower (x : Str) : Option D := if x.length ≤ 5592405 then some (.str (Txt.lower x)) else none
def mUpper (x : Str) : Option D := if x.length ≤ 5592405 then some (.str (Txt.upper x)) else none
theorem l_isalnum (he : PE X e (TEof (GX X fa) ev)) (hbase : attributeBase e "isalnum" X.env (eval e X.env) = eval e X.env := by rfl) (hline : (apos.endLine == pos.line) = true := by rfl) : PE X (.Call (.Attribute e "isalnum" apos) [] [] pos) (TEof (GX X fa) (eM0 mIsalnum ev)) :=
  l_m0 F.slot_str_isalnum F.type_str_isalnum mt_isalnum ⟨fun x d H Q q h => by cases q; exact ⟨x, rfl, rfl, trivial, h _ fun m => .bl _⟩⟩ he hbase hline
theorem l_isascii (he : PE X e (TEof (GX X fa) ev)) (hbase : attributeBase e "isascii" X.env (eval e X.env) = eval e X.env := by rfl) (hline : (apos.endLine == pos.line) = true := by rfl) : PE X (.Call (.Attribute e "isascii" apos) [] [] pos) (TEof (GX X fa) (eM0 mIsascii ev)) :=
  l_m0 F.slot_str_isascii F.type_str_isascii mt_isascii ⟨fun x d H Q q h => by cases q; exact ⟨x, rfl, rfl, trivial, h _ fun m => .bl _⟩⟩ he hbase hline
theorem l_lower (he : PE X e (TEof (GX X fa) ev)) (hbase : attributeBase e "lower" X.env (eval e X.env) = eval e X.env := by rfl) (hline : (apos.endLine == pos.line) = true := by rfl) : PE X (.Call (.Attribute e "lower" apos) [] [] pos) (TEof (GX X fa) (eM0 mLower ev)) :=
  l_m0 F.slot_str_lower F.type_str_lower mt_lower ⟨fun x d H Q q h => by
    unfold mLower at q
    split at q
    · rename_i hl; cases q; exact ⟨x, rfl, rfl, hl, h _ fun m => .str _⟩
    · cases q⟩ he hbase hline
theorem l_upper (he : PE X e (TEof (GX X fa) ev)) (hbase : attributeBase e "upper" X.env (eval e X.env) = eval e X.env := by rfl) (hline : (apos.endLine == pos.line) = true := by rfl) : PE X (.Call (.Attribute e "upper" apos) [] [] pos) (TEof (GX X fa) (eM0 mUpper ev)) :=
  l_m0 F.slot_str_upper F.type_str_upper mt_upper ⟨fun x d H Q q h => by
    unfold mUpper at q
    split at q
    · rename_i hl; cases q; exact ⟨x, rfl, rfl, hl, h _ fun m => .str _⟩
    · cases q⟩ he hbase hline
/-! zip, enumerate -/
def zipG (f : Mem → Option (List D)) (g : Mem → Option (List D)) : Src := fun M => match f M, g M with
  | some xs, some ys => some ((xs.zip ys).map fun z => .tup [z.1, z.2])
  | _, _ => none
def iZp (evs : EvL) : EvI := fun ρ M => bindO (evs ρ M) fun ds M1 => match ds with
  | [.ref n, .ref k] => if (lstAt M1 n).isSome ∧ (lstAt M1 k).isSome then some (zipG (fun M2 => lstAt M2 n) fun M2 => lstAt M2 k, M1) else none
  | [.tup xs, .tup ys] => some (zipG (fun _ => some xs) fun _ => some ys, M1)
  | _ => none
theorem zip_get {xs ys : List D} {i : Nat} {d : D} (h : ((xs.zip ys).map fun z => Mi.D.tup [z.1, z.2])[i]? = some d) : ∃ x y, xs[i]? = some x ∧ ys[i]? = some y ∧ d = .tup [x, y] := by
  rw [List.getElem?_map, Option.map_eq_some_iff] at h
  obtain ⟨z, hz, rfl⟩ := h
  obtain ⟨h1, h2⟩ := List.getElem?_zip_eq_some.mp hz
  exact ⟨_, _, h1, h2, rfl⟩
theorem zip_none {xs ys : List D} {i : Nat} (h : ((xs.zip ys).map fun z => Mi.D.tup [z.1, z.2])[i]? = none) : xs.length ≤ i ∨ ys.length ≤ i := by
  rw [List.getElem?_eq_none_iff, List.length_map, List.length_zip] at h
  omega
theorem pair_yld {G : Gm} {H H3 : Hp} {m : List Addr} {M : Mem} {T : Addr} {x y : D} {v w : V} (hM : RM G H m M) (hT : H T = none) (e : H3 = upd H T (.tup [v, w])) (rx : RD G H m x v) (ry : RD G H m y w) : Ext G H H3 ∧ RM G H3 m M ∧ RD G H3 m (.tup [x, y]) (.ref T) := by
  subst e
  exact ⟨Ext.new hT, hM.new hT, .tup (.inl (.inl upd_same)) (.cons (rx.mono (List.prefix_refl _) (Ext.new hT)) (.cons (ry.mono (List.prefix_refl _) (Ext.new hT)) .nil))⟩
theorem l_izip {e2 : Expr} {elts : List Expr} {kk : Nat} {tpos : Pos} {evs : EvL} (hm : X.mg "zip" = none) (ha : PA X [e, e2] (TAof (GX X fa) evs)) (hg : Gl X "zip" := by rfl)
    (hs : starEach [e, e2] X.env = (false, eval e X.env) :: starEach [e2] X.env := by rfl) (hpl : (backTo pos (starEach [e2] X.env)).any (·.1) = false := by rfl) :
    PI X (.Tuple elts kk tpos) (.Call (.Name "zip" p) [e, e2] [] pos) (TIof (GX X fa) (iZp evs)) := by
  refine PI.imp (RZ.pi_zipA hg hm ha hs hpl) fun σ H Rk ⟨m, M, ρ, get, M', hρ, hM, e, fin⟩ => ?_
  refine ta_bind hρ hM e fin fun m1 H1 M1 ds vs hρ1 hM1 rds e1 fin1 p1 x1 => ?_
  split at e1
  · rename_i n k
    obtain ⟨v, w, rfl, r1, r2⟩ := two_of rds
    split at e1
    · rename_i hs
      cases e1
      cases r1 with
      | @ref _ a ha =>
        cases r2 with
        | @ref _ b hb =>
          obtain ⟨xs0, hx0⟩ := Option.isSome_iff_exists.mp hs.1
          obtain ⟨ys0, hy0⟩ := Option.isSome_iff_exists.mp hs.2
          obtain ⟨us0, q1, q2⟩ := hM1.lstAt hx0 ha
          obtain ⟨ws0, q3, q4⟩ := hM1.lstAt hy0 hb
          refine ⟨a, b, us0, ws0, rfl, .inl ⟨q1, q3, fin1.here hM1 _ fun i H2 m2 M2 zs pm xm hM2 hz => ?_⟩⟩
          have hz : (match lstAt M2 n, lstAt M2 k with
            | some xs, some ys => some ((xs.zip ys).map fun z => Mi.D.tup [z.1, z.2])
            | _, _ => none) = some zs := hz
          cases hx : lstAt M2 n with
          | none => rw [hx] at hz; cases hz
          | some xs =>
            cases hy : lstAt M2 k with
            | none => rw [hx, hy] at hz; cases hz
            | some ys =>
              rw [hx, hy] at hz
              cases hz
              obtain ⟨us, k1, k2⟩ := hM2.lstAt hx (pre_get pm ha)
              obtain ⟨ws, k3, k4⟩ := hM2.lstAt hy (pre_get pm hb)
              refine ⟨fun hn => ⟨us, ws, k1, k3, by rw [← k2.length, ← k4.length]; exact zip_none hn⟩, fun d hd => ?_⟩
              obtain ⟨x, y, hx1, hy1, rfl⟩ := zip_get hd
              obtain ⟨u, hu, ru⟩ := k2.get hx1
              obtain ⟨w, hw, rw'⟩ := k4.get hy1
              refine ⟨⟨us, ws, u, w, k1, k3, hu, hw⟩, fun z H3 ⟨T, x', y', z1, z2, z3, z4, z5⟩ => ?_⟩
              have ex := z4 us k1
              have ey := z5 ws k3
              rw [hu] at ex
              rw [hw] at ey
              cases ex
              cases ey
              subst z1
              exact pair_yld hM2 z2 z3 ru rw'
    · cases e1
  · rename_i xs ys
    obtain ⟨v, w, rfl, r1, r2⟩ := two_of rds
    cases e1
    cases r1 with
    | @tup a _ us0 ha rx =>
      cases r2 with
      | @tup b _ ws0 hb ry =>
        refine ⟨a, b, us0, ws0, rfl, .inr ⟨ha, hb, fin1.here hM1 _ fun i H2 m2 M2 zs pm xm hM2 hz => ?_⟩⟩
        cases hz
        have rx2 := rx.mono pm xm
        have ry2 := ry.mono pm xm
        have ha2 := xm.t _ _ ha
        have hb2 := xm.t _ _ hb
        refine ⟨fun hn => ⟨us0, ws0, ha2, hb2, by rw [← rx.length, ← ry.length]; exact zip_none hn⟩, fun d hd => ?_⟩
        obtain ⟨x, y, hx1, hy1, rfl⟩ := zip_get hd
        obtain ⟨u, hu, ru⟩ := rx2.get hx1
        obtain ⟨w, hw, rw'⟩ := ry2.get hy1
        refine ⟨⟨us0, ws0, u, w, ha2, hb2, hu, hw⟩, fun z H3 ⟨T, x', y', z1, z2, z3, z4, z5⟩ => ?_⟩
        have ex := z4 us0 ha2
        have ey := z5 ws0 hb2
        rw [hu] at ex
        rw [hw] at ey
        cases ex
        cases ey
        subst z1
        exact pair_yld hM2 z2 z3 ru rw'
  · cases e1
def enumD (xs : List D) : List D := xs.zipIdx.map fun z => .tup [.int (z.2 : Nat), z.1]
theorem enum_get {xs : List D} {i : Nat} {d : D} (h : (enumD xs)[i]? = some d) : ∃ x, xs[i]? = some x ∧ d = .tup [.int (i : Nat), x] := by
  unfold enumD at h
  rw [List.getElem?_map, List.getElem?_zipIdx, Option.map_map, Option.map_eq_some_iff] at h
  obtain ⟨x, hx, rfl⟩ := h
  exact ⟨x, hx, by simp⟩
theorem enum_none {xs : List D} {i : Nat} (h : (enumD xs)[i]? = none) : xs.length ≤ i := by
  unfold enumD at h
  rw [List.getElem?_eq_none_iff, List.length_map, List.length_zipIdx] at h
  exact h
def iEn (evs : EvL) : EvI := fun ρ M => bindO (evs ρ M) fun ds M1 => match ds with
  | [.ref n] => if (lstAt M1 n).isSome then some ((fun M2 => (lstAt M2 n).map enumD), M1) else none
  | _ => none
theorem l_ienum {elts : List Expr} {kk : Nat} {tpos : Pos} {evs : EvL} (hm : X.mg "enumerate" = none) (ha : PA X [e] (TAof (GX X fa) evs)) (hg : Gl X "enumerate" := by rfl) (hs : starEach [e] X.env = [(false, eval e X.env)] := by rfl) :
    PI X (.Tuple elts kk tpos) (.Call (.Name "enumerate" p) [e] [] pos) (TIof (GX X fa) (iEn evs)) := by
  refine PI.imp (pi_enum hg hm ha hs) fun σ H Rk ⟨m, M, ρ, get, M', hρ, hM, e, fin⟩ => ?_
  refine ta_bind hρ hM e fin fun m1 H1 M1 ds vs hρ1 hM1 rds e1 fin1 p1 x1 => ?_
  split at e1
  · rename_i n
    obtain ⟨v, rfl, r1⟩ := one_of rds
    split at e1
    · rename_i hs
      cases e1
      cases r1 with
      | @ref _ a ha =>
        obtain ⟨xs0, hx0⟩ := Option.isSome_iff_exists.mp hs
        obtain ⟨us0, q1, q2⟩ := hM1.lstAt hx0 ha
        refine ⟨a, us0, rfl, q1, fin1.here hM1 _ fun i H2 m2 M2 zs pm xm hM2 hz => ?_⟩
        cases hx : lstAt M2 n with
        | none => simp only [hx] at hz; cases hz
        | some xs =>
          simp only [hx, Option.map_some, Option.some.injEq] at hz
          subst hz
          obtain ⟨us, k1, k2⟩ := hM2.lstAt hx (pre_get pm ha)
          refine ⟨fun hn => ⟨us, k1, by rw [← k2.length]; exact enum_none hn⟩, fun d hd => ?_⟩
          obtain ⟨x, hx1, rfl⟩ := enum_get hd
          obtain ⟨u, hu, ru⟩ := k2.get hx1
          refine ⟨⟨us, u, k1, hu⟩, fun z H3 ⟨T, x', z1, z2, z3, z4⟩ => ?_⟩
          have ex := z4 us k1
          rw [hu] at ex
          cases ex
          subst z1
          exact pair_yld hM2 z2 z3 (.int _) ru
    · cases e1
  · cases e1
end
end Mi
set_option Elab.async false
set_option linter.all false
set_option maxRecDepth 100000
/-! while; lists' extend, pop; [::-1] -/
namespace Mi
open PySem PySem.Spec PyProof.Rows L2
section
variable {W : WX} {X : Cx} {fa : Nat → Addr} {a b c e o i : Expr} {eva evb evc evo evi eve who ev : Ev} {pos p : Pos} {es : List Expr} {apos cpos : Pos} {te : TE}
def whileN (t : EvB) (b : Es) : Nat → Loc → Mem → R Fl
  | 0, _, _ => none
  | f + 1, ρ, M => match t ρ M with
    | none => none
    | some (false, M1) => some (.next ρ, M1)
    | some (true, M1) => match b ρ M1 with
      | none => none
      | some (.next ρ2, M2) => whileN t b f ρ2 M2
      | some (.cont ρ2, M2) => whileN t b f ρ2 M2
      | some (.brk ρ2, M2) => some (.next ρ2, M2)
      | some (.ret d, M2) => some (.ret d, M2)
      | some (.exc ρ2 c v, M2) => some (.exc ρ2 c v, M2)
def fuelW : Nat := 2 ^ 64
def sWhile (t : EvB) (b : Es) : Es := fun ρ M => whileN t b fuelW ρ M
theorem l_while {body : List Stmt} {t : EvB} {bd : Es} (hp : PassesOwn (model X.prog X.w) X.A X.env X.xe) (hc : PT X c (TTof (GX X fa) t)) (hb : PSs X body (TSw W (GX X fa) bd)) : PS X (.While c body [] pos) (TSw W (GX X fa) (sWhile t bd)) := by
  refine (ps_while hp hc hb).imp fun D σ H ⟨m, M, ρ, o, M', hρ, hM, e, fin⟩ => ?_
  unfold sWhile at e
  refine ⟨fun n σ H => ∃ m2 M2 ρ2, Rho (GX X fa) H m2 ρ2 σ ∧ RM (GX X fa) H m2 M2 ∧ whileN t bd n ρ2 M2 = some (o, M') ∧ Fin (GX X fa) m2 H M' (EndsOk W (GX X fa) D o), ⟨fuelW, m, M, ρ, hρ, hM, e, fin⟩, ?_⟩
  rintro n σ2 H2 ⟨m2, M2, ρ2, hρ2, hM2, e2, fin2⟩
  cases n with
  | zero => cases e2
  | succ f =>
    have e3 : (match t ρ2 M2 with
      | none => none
      | some (false, M1) => some (Fl.next ρ2, M1)
      | some (true, M1) => match bd ρ2 M1 with
        | none => none
        | some (.next ρ2, M2) => whileN t bd f ρ2 M2
        | some (.cont ρ2, M2) => whileN t bd f ρ2 M2
        | some (.brk ρ2, M2) => some (.next ρ2, M2)
        | some (.ret d, M2) => some (.ret d, M2)
        | some (.exc ρ2 c v, M2) => some (.exc ρ2 c v, M2)) = some (o, M') := e2
    cases tq : t ρ2 M2 with
    | none => rw [tq] at e3; cases e3
    | some pr =>
      obtain ⟨bb, M3⟩ := pr
      rw [tq] at e3
      refine ⟨m2, M2, ρ2, bb, M3, hρ2, hM2, tq, fun m3 H3 pm3 xm3 hM3 => ?_⟩
      have fin3 := fin2.mono pm3 xm3
      cases bb with
      | false =>
        dsimp only
        rw [if_neg (by decide)]
        cases e3
        exact fin3.here hM3 σ2 (hρ2.mono pm3 xm3)
      | true =>
        dsimp only
        rw [if_pos rfl]
        simp only at e3
        refine ⟨fun σ' H' => ∃ m2 M2 ρ2, Rho (GX X fa) H' m2 ρ2 σ' ∧ RM (GX X fa) H' m2 M2 ∧ whileN t bd f ρ2 M2 = some (o, M') ∧ Fin (GX X fa) m2 H' M' (EndsOk W (GX X fa) D o), fun σ' H' z => ⟨f, Nat.lt_succ_self f, z⟩, ?_⟩
        cases bq : bd ρ2 M3 with
        | none => rw [bq] at e3; cases e3
        | some pr =>
          obtain ⟨o3, M4⟩ := pr
          rw [bq] at e3
          refine ⟨m3, M3, ρ2, o3, M4, hρ2.mono pm3 xm3, hM3, bq, fun m4 H4 pm4 xm4 hM4 => ?_⟩
          have fin4 := fin3.mono pm4 xm4
          cases o3 with
          | next ρ4 => exact fun σ4 hρ4 => ⟨m4, M4, ρ4, hρ4, hM4, e3, fin4⟩
          | cont ρ4 => exact fun σ4 hρ4 => ⟨m4, M4, ρ4, hρ4, hM4, e3, fin4⟩
          | brk ρ4 => cases e3; exact fin4.here hM4
          | ret d4 => cases e3; exact fin4.here hM4
          | exc ρ4 c4 v4 => cases e3; exact fin4.here hM4
/-! xs[::-1] -/
def eRev (ev : Ev) : Ev := fun ρ M => bindO (ev ρ M) fun d M1 => match d with
  | .ref n => match lstAt M1 n with
    | some xs => some (.ref M1.length, M1 ++ [.lst xs.reverse])
    | none => none
  | _ => none
theorem RDs.rev {G : Gm} {H : Hp} {m : List Addr} : ∀ {ds : List D} {vs : List V}, RDs G H m ds vs → RDs G H m ds.reverse vs.reverse
  | _, _, .nil => .nil
  | _, _, .cons r t => by rw [List.reverse_cons, List.reverse_cons]; exact (RDs.rev t).append (.cons r .nil)
theorem l_rev {k : Nat} {p1 p2 p3 : Pos} (he : PE X e (TEof (GX X fa) ev)) : PE X (.Subscript e (.Slice none none (some (.UnaryOp .USub (.Constant (.int 1) k p1) p2)) p3) pos) (TEof (GX X fa) (eRev ev)) := by
  refine (pe_revL he).imp fun σ H Q ⟨m, M, ρ, d, M', hρ, hM, e, fin⟩ => ?_
  refine te_bind hρ hM e fin fun m1 H1 M1 d1 v hρ1 hM1 rd e1 fin1 p1 x1 => ?_
  cases rd with
  | @ref n a ha =>
    simp only at e1
    split at e1
    · rename_i xs q
      cases e1
      obtain ⟨vs, g1, g2⟩ := hM1.lstAt q ha
      exact ⟨a, vs, rfl, g1, fun p hp => fin_push fin1 hM1 hp ⟨_, upd_same, (RDs.rev g2).mono (List.prefix_append _ _) (Ext.new hp)⟩ _ (ref_last hM1)⟩
    · cases e1
  | _ => cases e1
/-! xs.pop() -/
def ePop0 (ev : Ev) : Ev := fun ρ M => bindO (ev ρ M) fun d M1 => match d with
  | .ref n => match M1[n]? with
    | some (.lst xs) => match xs[xs.length - 1]? with
      | some y => some (y, M1.set n (.lst xs.dropLast))
      | none => none
    | _ => none
  | _ => none
theorem RDs.dropLast {G : Gm} {H : Hp} {m : List Addr} {ds : List D} {vs : List V} (r : RDs G H m ds vs) : RDs G H m ds.dropLast vs.dropLast := by
  rw [List.dropLast_eq_take, List.dropLast_eq_take, r.length]
  exact r.take _
theorem l_pop0 (he : PE X e (TEof (GX X fa) ev)) (hbase : attributeBase e "pop" X.env (eval e X.env) = eval e X.env := by rfl) (hline : (apos.endLine == cpos.line) = true := by rfl) : PE X (.Call (.Attribute e "pop" apos) [] [] cpos) (TEof (GX X fa) (ePop0 ev)) := by
  refine (pe_bm0 F.plainAttrs_list F.slot_list_pop F.type_list_pop mt_pop he hbase hline).imp fun σ H Q ⟨m, M, ρ, d, M', hρ, hM, e, fin⟩ => ?_
  refine te_bind hρ hM e fin fun m1 H1 M1 d1 v hρ1 hM1 rd e1 fin1 p1 x1 => ?_
  cases rd with
  | @ref n a ha =>
    simp only at e1
    split at e1
    · rename_i xs q
      split at e1
      · rename_i y hy
        cases e1
        obtain ⟨vs, g1, g2⟩ := hM1.at_ _ _ _ ha q
        obtain ⟨w, hw, rw'⟩ := g2.get hy
        have mu : MutL (H1 a) := by rw [g1]; trivial
        refine ⟨.inl ⟨rfl, vs, SqL.of g1⟩, a, vs, w, rfl, rfl, g1, by rw [← g2.length]; exact hw, ?_⟩
        exact fin1 m1 _ (List.prefix_refl _) (Ext.write mu) (hM1.set ha q rfl rfl ⟨_, upd_same, (RDs.dropLast g2).mono (List.prefix_refl _) (Ext.write mu)⟩) _ (rw'.mono (List.prefix_refl _) (Ext.write mu))
      · cases e1
    · cases e1
  | _ => cases e1
/-! xs.extend(ys) -/
def eExt (evo eve : Ev) : Ev := fun ρ M => bindO (evo ρ M) fun o M1 => match o with
  | .ref n => match M1[n]? with
    | some (.lst _) => bindO (eve ρ M1) fun d M2 => match d with
      | .ref k => match M2[n]?, M2[k]? with
        | some (.lst xs), some (.lst ys) => if xs.length + ys.length ≤ sizeLine then some (.non, M2.set n (.lst (xs ++ ys))) else none
        | _, _ => none
      | _ => none
    | _ => none
  | _ => none
theorem l_extend (ho : PE X o (TEof (GX X fa) evo)) (he : PE X e (TEof (GX X fa) eve)) (hbase : attributeBase o "extend" X.env (eval o X.env) = eval o X.env := by rfl)
    (hfew : ((backTo cpos (starEach [e] X.env)).all (fun x => !x.1) && (backToKw cpos (keywordEach [] X.env)).all (fun x => x.1.isSome)
      && decide ([e].length + ([] : List Keyword).length + (if ([] : List Keyword).isEmpty then 0 else 1) < 30)) = true := by rfl)
    (hline : (apos.endLine == cpos.line) = true := by rfl) (hs : starEach [e] X.env = (false, eval e X.env) :: starEach [] X.env := by rfl) (hpl : (backTo cpos (starEach [] X.env)).any (·.1) = false := by rfl) : PE X (.Call (.Attribute o "extend" apos) [e] [] cpos) (TEof (GX X fa) (eExt evo eve)) := by
  refine (pe_bm F.plainAttrs_list F.slot_list_extend F.type_list_extend mt_extend ho (l_cons he l_nil hs) hbase hfew hline hs hpl).imp fun σ H Q ⟨m, M, ρ, d, M', hρ, hM, e, fin⟩ => ?_
  refine te_bind hρ hM e fin fun m1 H1 M1 d1 v hρ1 hM1 rd e1 fin1 p1 x1 => ?_
  cases rd with
  | @ref n a ha =>
    simp only at e1
    split at e1
    · rename_i xs0 q0
      obtain ⟨vs0, g0, _⟩ := hM1.at_ _ _ _ ha q0
      refine ⟨.inl ⟨rfl, vs0, SqL.of g0⟩, ?_⟩
      cases q2 : eve ρ M1 with
      | none => rw [q2] at e1; cases e1
      | some pr =>
        obtain ⟨d2, M2⟩ := pr
        rw [q2] at e1
        have e2 : (match (generalizing := false) d2 with
          | .ref k => match M2[n]?, M2[k]? with
            | some (.lst xs), some (.lst ys) => if xs.length + ys.length ≤ sizeLine then some (Mi.D.non, M2.set n (.lst (xs ++ ys))) else none
            | _, _ => none
          | _ => none) = some (d, M') := e1
        refine ⟨m1, M1, ρ, [d2], M2, hρ1, hM1, by unfold eCons eNil; rw [q2]; rfl, fun m2 H2 p2 x2 hM2 vs rds => ?_⟩
        obtain ⟨v2, rfl, r2⟩ := one_of rds
        have fin2 := fin1.mono p2 x2
        split at e2
        · rename_i k
          split at e2
          · rename_i xs ys q3 q4
            split at e2
            · rename_i hl
              cases e2
              cases r2 with
              | @ref _ b hb =>
                have ha2 := pre_get p2 ha
                obtain ⟨vs, g1, g2⟩ := hM2.at_ _ _ _ ha2 q3
                obtain ⟨ws, g3, g4⟩ := hM2.at_ _ _ _ hb q4
                have mu : MutL (H2 a) := by rw [g1]; trivial
                refine ⟨a, b, vs, ws, rfl, rfl, g1, g3, by rw [← g2.length, ← g4.length]; exact hl, ?_⟩
                exact fin2 m2 _ (List.prefix_refl _) (Ext.write mu) (hM2.set ha2 q3 rfl rfl ⟨_, upd_same, (g2.append g4).mono (List.prefix_refl _) (Ext.write mu)⟩) _ .non
            · cases e2
          · cases e2
        · cases e2
    · cases e1
  | _ => cases e1
end
end Mi
set_option Elab.async false
set_option linter.all false
set_option maxRecDepth 100000
/-! sorted of a tuple -/
namespace Mi
open PySem PySem.Spec PyProof.Rows L2
section
variable {X : Cx} {fa : Nat → Addr}
def rSortDT (K : PySem.W.Frag) : List V → Hp → VK → Prop := fun xs H Q => ∃ (a : Addr) (bs : List (V × PyData)), xs = [V.ref a] ∧ SqT K H a (bs.map (·.1)) ∧ (∀ b ∈ bs, Dp K H b.1 b.2) ∧ okSort (bs.map (·.2)) = true ∧
  ∀ p, H p = none → Q (.ref p) (upd H p (.lst ((bs.mergeSort (PySem.W.dataLe false (·.2))).map (·.1))))
theorem cr_sortDT (hu : X.A.units + 70 < cLine) : CallR X (.builtin "sorted") (rSortDT X.K) := by
  intro pins st σ H xs us Q I r h
  obtain ⟨a, bs, rfl, hs, hd, hok, q⟩ := h
  obtain ⟨u, rfl, ru⟩ := vals1 r
  cases (show u = Value.ref a from ru)
  obtain ⟨its, rv, pl, hz⟩ := I.tuple hs
  obtain ⟨o, ho, hc, n, hdat⟩ := pl
  unfold okSort at hok
  simp only [Bool.and_eq_true] at hok
  obtain ⟨⟨h1, h2_⟩, h3⟩ := hok
  have hlen : its.length = bs.length := by have := rv.length; rw [List.length_map] at this; exact this.symm
  have hz' : its.toArray.size ≤ sizeLine := by rw [List.size_toArray, ← rv.length]; exact hz
  refine Calls.call_function_entry kind_sorted plain_sorted entry_sorted (args_sorted1 _) ?_
  unfold Builtin.«sorted»
  refine wpAny_bind (m := checkCount "sorted" 1 1 _) (wpAny_pure ?_)
  refine wpAny_bind (wpAny_collect_seq (A := X.A.in1) a (T := "tuple") (.inr rfl) ho hc hdat (fun h' hk => ?_) hz')
  have I1 : Inv X pins σ H { st with heap := h' } := I.kept (t' := st.toks) hk
  refine wpAny_bind (wpAny_newList ?_ (by simpa using hz'))
  have hob : (h'.push { cls := .type "list", data := .seq its.toArray }).get? h'.objs.size = some (seqObj "list" its.toArray 0) := Heap.get?_push_size _ rfl
  have kb : ∀ b o, st.heap.get? b = some o → (h'.push { cls := .type "list", data := .seq its.toArray }).get? b = some o := fun b o e => Heap.get?_push_of_some _ (hk b o e)
  have ka : ∀ b o, h'.get? b = some o → (h'.push { cls := .type "list", data := .seq its.toArray }).get? b = some o := fun b o e => Heap.get?_push_of_some _ e
  have main : wpAny (model X.prog X.w) X.A.in1 (call (.builtin "list.sort") [.ref h'.objs.size]) (fun _ s' => EP X pins σ Q (.ref h'.objs.size) s') X.xe { st with heap := h'.push { cls := .type "list", data := .seq its.toArray } } := by
    generalize h'.push { cls := .type "list", data := .seq its.toArray } = h2 at hob kb ka
    have er0 := each_reads I rv hd
    have er : PySem.W.EachIs (fun v (b : V × PyData) => ∃ rs, Reads h2 v b.2 rs ∧ h'.objs.size ∉ rs) its bs := er0.mono fun v b ⟨rs, hr⟩ => ⟨rs, PyProof.Rows.Reads.keeps kb hr, fun hm => by
      obtain ⟨ob, hob'⟩ := PyProof.On.reads_mem_get hr _ hm
      exact Nat.lt_irrefl _ (Heap.lt_size (hk _ _ hob'))⟩
    refine PySem.W.list_sort_data (s := { st with heap := h2 }) (R := fun v b => RelV b.1 v) (enc := fun b : V × PyData => b.2) hob (each_vals rv) er (alike_of h1) (sortable_of h2_) (by rw [← hlen]; simpa using hz') (fun b hb => ?_) fun out hl hE => ?_
    · have := of_decide_eq_true (List.all_eq_true.mp h3 b.2 (List.mem_map.mpr ⟨b, hb, rfl⟩))
      show X.A.units + 1 + 1 + b.2.depth < cLine
      omega
    · obtain ⟨n2, hn2⟩ := PyProof.Rows.sortedHeap_at (vs := its) (out := out.toArray) hob
      refine ⟨.ref h'.objs.size, _, I1.laid (a := h'.objs.size) (o := .lst ((bs.mergeSort (PySem.W.dataLe false (·.2))).map (·.1))) (t' := st.toks) (fun b o e => (PyProof.Rows.sortedHeap_old (Nat.ne_of_lt (Heap.lt_size e)) (Heap.lt_size (ka b o e))).trans (ka b o e)) (Nat.le_refl _) ?_, rfl, q _ (I1.hok.fresh (Nat.le_refl _))⟩
      refine ⟨?_, out, n2, vals_each hE, hn2⟩
      rw [List.length_map, List.length_mergeSort, ← hlen]
      simpa using hz'
  refine wpAny_bind (wpAny_holding (wpAny_mono main (fun _ s' x => ?_) fun _ _ e => e))
  exact wpAny_pure ⟨_, rfl, x⟩
def fSortT : List D → Mem → R D := fun ds M => match ds with
  | [.tup xs] => match toPys M fuelD xs with
    | some ps => if okSort ps = true then some (.ref M.length, M ++ [.lst (sortD xs ps)]) else none
    | none => none
  | _ => none
theorem cs_sortDT : CaS (GX X fa) fSortT (rSortDT X.K) := fun m H M xs ds d M' Q hM r e k => by
  unfold fSortT at e
  split at e
  · rename_i ys
    cases q2 : toPys M fuelD ys with
    | none => rw [q2] at e; cases e
    | some ps =>
      rw [q2] at e
      simp only at e
      split at e
      · rename_i hok
        cases e
        obtain ⟨v, rfl, rv⟩ := one_of r
        cases rv with
        | @tup a _ vs ha rds =>
          obtain ⟨T, e1, e2, e3, hT⟩ := triples rds (toPys_dp hM _ _ _ _ q2 rds)
          have hV : ((T.map fun t => (t.1, t.2.2)).mergeSort (PySem.W.dataLe false (·.2))).map (·.1) = (T.mergeSort (PySem.W.dataLe false (·.2.2))).map (·.1) := by
            rw [← List.map_mergeSort (r := PySem.W.dataLe false (·.2.2)) (s := PySem.W.dataLe false (·.2)) (f := fun t : V × D × PyData => (t.1, t.2.2)) (l := T) (fun _ _ _ _ => rfl), List.map_map]
            rfl
          have hD : sortD ys ps = (T.mergeSort (PySem.W.dataLe false (·.2.2))).map (·.2.1) := by
            unfold sortD
            rw [← e2, ← e3, zip_maps, ← List.map_mergeSort (r := PySem.W.dataLe false (·.2.2)) (s := PySem.W.dataLe false (·.2)) (f := fun t : V × D × PyData => (t.2.1, t.2.2)) (l := T) (fun _ _ _ _ => rfl), List.map_map]
            rfl
          refine ⟨a, T.map fun t => (t.1, t.2.2), rfl, ?_, ?_, ?_, fun p hp => ?_⟩
          · rw [List.map_map]
            rw [← e1] at ha
            exact ha
          · intro b hb
            obtain ⟨t, ht, rfl⟩ := List.mem_map.mp hb
            exact (hT t ht).2
          · rw [List.map_map]
            rw [← e3] at hok
            exact hok
          · rw [hV]
            refine fin_push k hM hp ⟨_, upd_same, ?_⟩ _ (ref_last hM)
            rw [hD]
            exact (rds_map fun t ht => (hT t (List.mem_mergeSort.mp ht)).1).mono (List.prefix_append _ _) (Ext.new hp)
      · cases e
  · cases e
end
end Mi
set_option Elab.async false
set_option linter.all false
set_option maxRecDepth 100000
/-! defs as values; a name that holds a def, called -/
namespace Mi
open PySem PySem.Spec PyProof.Rows L2
section
variable {X : Cx} {fa : Nat → Addr} {tab : List (Str × List Str)} {call : CallF} {k : Nat} {x : Str} {ps : List Str} {p pos : Pos} {e : Expr} {es : List Expr} {evs : EvL}
/-- a def by its name -/
theorem l_fnval (i : Nat) (T : Fns X.prog X.w X.K X.mg X.base fa tab call k) (hi : tab[i]? = some (x, ps) := by rfl) (hg : Gl X x := by rfl) (hdb : (x == ("__debug__" : Str)) = false := by decide) : PE X (.Name x pos) (TEof (GX X fa) (eC (.fn i))) := by
  obtain ⟨hm, hk, fd, hb, F⟩ := T.ok i x ps hi
  refine (pe_glob (v := .ref (fa i)) hg hm rfl hdb).imp fun σ H Q ⟨m, M, ρ, d, M', hρ, hM, e, fin⟩ => ?_
  cases e
  exact fin.here hM _ (.fn i)
def eCallV (tab : List (Str × List Str)) (call : CallF) (i : Nat) (evs : EvL) : Ev := fun ρ M => match ρ[i]? with
  | some (some (.fn j)) => match tab[j]? with
    | some (_, ps) => bindO (evs ρ M) fun ds M1 => if ds.length = ps.length then call j ds M1 else none
    | none => none
  | _ => none
theorem l_fnV (i : Nat) (T : Fns X.prog X.w X.K X.mg X.base fa tab call k) (hr : Room k X.A) (hgd : X.A.guards = some []) (ha : PA X (e :: es) (TAof (GX X fa) evs)) (hN : X.N[i]? = some x := by rfl) (hv : Vis X.env.scope x := by first | exact Or.inl rfl | exact Or.inr (Or.inl rfl) | exact Or.inr (Or.inr rfl))
    (hd : (x == ("__debug__" : Str)) = false := by decide) (hcd : (x == ("__classdict__" : Str)) = false := by decide) (he : starEach (e :: es) X.env = (false, eval e X.env) :: starEach es X.env := by rfl) (hpl : (backTo pos (starEach es X.env)).any (·.1) = false := by rfl) :
    PE X (.Call (.Name x p) (e :: es) [] pos) (TEof (GX X fa) (eCallV tab call i evs)) := by
  refine ⟨fun pins s σ H Q I ⟨m, M, ρ, d, M', hρ, hM, e1, fin⟩ => ?_⟩
  unfold eCallV at e1
  split at e1
  · rename_i j hj
    split at e1
    · rename_i y ps' ht
      obtain ⟨v, hv1, rv⟩ := hρ.at_ i _ hj
      cases rv
      obtain ⟨hm, hk, fd, hb, F⟩ := T.ok j y ps' ht
      refine wpAny_Call_Name_kw (thn ((pe_var (pos := p) hN hv hd hcd).run pins s σ H (fun v H1 => v = .ref (fa j) ∧ H1 = H) I ⟨.ref (fa j), hv1, rfl, rfl⟩) fun u s1 ⟨v, H1, I1, r1, q1⟩ => ?_)
      obtain ⟨rfl, rfl⟩ := q1
      cases r1
      have args : TAof (GX X fa) evs σ H1 fun vs H2 => SpOf (GX X fa) ps'.length (call j) vs H2 Q E0 := by
        refine ta_bind hρ hM e1 fin fun m1 H2 M1 ds vs hρ1 hM1 rds e2 fin1 p1 x1 => ?_
        split at e2
        · rename_i hl
          exact ⟨by rw [← rds.length]; exact hl, m1, M1, ds, d, M', rds, hM1, e2, fin1⟩
        · cases e2
      refine PySem.W.callWith_K (h₀ := X.base) I.ok.mod.kin hk (thn (ha.run pos pins s1 σ _ _ I1 args) fun us s2 ⟨vs, H2, I2, r, q⟩ => ⟨I2.kIn, ?_⟩) he hpl
      exact fng_run F hr hgd hb I2 r q
    · cases e1
  · cases e1
end
end Mi
set_option Elab.async false
set_option linter.all false
set_option maxRecDepth 100000
/-! constants of the module: numbers, texts; tables with text keys, by number as defs are -/
namespace Mi
open PySem PySem.Spec PyProof.Rows L2
section
variable {X : Cx} {fa : Nat → Addr} {x : Str} {pos : Pos} {G : Gm}
theorem l_gint {i : Int} (hm : ∃ t, X.mg x = some (.int i t)) (hg : Gl X x := by rfl) (hdb : (x == ("__debug__" : Str)) = false := by decide) : PE X (.Name x pos) (TEof (GX X fa) (eC (.int i))) := by
  obtain ⟨t, hm⟩ := hm
  refine (pe_glob (v := .int i) hg hm ⟨t, rfl⟩ hdb).imp fun σ H Q ⟨m, M, ρ, d, M', hρ, hM, e, fin⟩ => ?_
  cases e
  exact fin.here hM _ (.int i)
theorem l_gstr {z : Str} (hm : ∃ t, X.mg x = some (.str z t)) (hg : Gl X x := by rfl) (hdb : (x == ("__debug__" : Str)) = false := by decide) : PE X (.Name x pos) (TEof (GX X fa) (eC (.str z))) := by
  obtain ⟨t, hm⟩ := hm
  refine (pe_glob (v := .str z) hg hm ⟨t, rfl⟩ hdb).imp fun σ H Q ⟨m, M, ρ, d, M', hρ, hM, e, fin⟩ => ?_
  cases e
  exact fin.here hM _ (.str z)
/-- a table, as what stands at fa t -/
theorem l_gtab (t : Nat) (hm : X.mg x = some (.ref (fa t))) (hg : Gl X x := by rfl) (hdb : (x == ("__debug__" : Str)) = false := by decide) : PE X (.Name x pos) (TEof (GX X fa) (eC (.fn t))) := by
  refine (pe_glob (v := .ref (fa t)) hg hm rfl hdb).imp fun σ H Q ⟨m, M, ρ, d, M', hρ, hM, e, fin⟩ => ?_
  cases e
  exact fin.here hM _ (.fn t)
/-- the tables -/
abbrev Tabs := Nat → Option (List (Str × D))
structure TabsOk (K : PySem.W.Frag) (w : World) (fa : Nat → Addr) (tb : Tabs) : Prop where
  dict : ∀ t kvs, tb t = some kvs → ∃ es n, KDict K w (fa t) es n
  here : ∀ t kvs z d, tb t = some kvs → kvs.lookup z = some d → ∃ u v, PySem.W.nsIn K (fa t) z = some (some u) ∧ RelV v u ∧ ∀ H m, RD ⟨K, fa⟩ H m d v
  not : ∀ t kvs z, tb t = some kvs → kvs.lookup z = none → PySem.W.nsIn K (fa t) z = some none
def oTab (tb : Tabs) : D → D → Mem → R D := fun x y M => match x, y with
  | .fn t, .str z => match tb t with
    | some kvs => (kvs.lookup z).map fun d => (d, M)
    | none => none
  | _, _ => none
theorem os_tab {tb : Tabs} (T : TabsOk X.K X.w fa tb) : OpS (GX X fa) (oTab tb) (rIxD X.K X.w) := fun m H M x y dx dy d M' Q hM rx ry e k => by
  unfold oTab at e
  split at e
  · rename_i t z
    cases q : tb t with
    | none => rw [q] at e; cases e
    | some kvs =>
      rw [q] at e
      simp only at e
      cases q2 : kvs.lookup z with
      | none => rw [q2] at e; cases e
      | some d2 =>
        rw [q2] at e
        cases e
        cases rx
        cases ry
        obtain ⟨es, n, D⟩ := T.dict t kvs q
        obtain ⟨u, v, e1, e2, e3⟩ := T.here t kvs z d q q2
        exact ⟨_, z, v, rfl, rfl, ⟨es, n, u, D.at_, D.lit, e1, e2⟩, k.here hM v (e3 H m)⟩
  · cases e
/-- z in a table -/
def oInTab (tb : Tabs) (neg : Bool) : D → D → Mem → R D := fun x y M => match x, y with
  | .str z, .fn t => match tb t with
    | some kvs => some (.bl (if neg then !(kvs.lookup z).isSome else (kvs.lookup z).isSome), M)
    | none => none
  | _, _ => none
def rInTab (K : PySem.W.Frag) (w : World) (neg : Bool) : R2 := fun x y H Q => ∃ (d : Addr) (es : Array DictEntry) (n : Nat) (z : Str) (r : Option Value), KDict K w d es n ∧ x = .str z ∧ y = .ref d ∧ PySem.W.nsIn K d z = some r ∧ Q (.bl (if neg then !r.isSome else r.isSome)) H
theorem op_inTab : OpR X (compareOp .In) (rInTab X.K X.w false) := fun pins s σ H x y v u Q I rx ry ⟨d, es, n, z, r, D, e1, e2, e3, q⟩ => op_in_kd D pins s σ H x y v u Q I rx ry ⟨z, r, e1, e2, e3, q⟩
theorem op_notInTab : OpR X (compareOp .NotIn) (rInTab X.K X.w true) := fun pins s σ H x y v u Q I rx ry ⟨d, es, n, z, r, D, e1, e2, e3, q⟩ => op_notIn_kd D pins s σ H x y v u Q I rx ry ⟨z, r, e1, e2, e3, q⟩
theorem os_inTab {tb : Tabs} {neg : Bool} (T : TabsOk X.K X.w fa tb) : OpS (GX X fa) (oInTab tb neg) (rInTab X.K X.w neg) := fun m H M x y dx dy d M' Q hM rx ry e k => by
  unfold oInTab at e
  split at e
  · rename_i z t
    cases q : tb t with
    | none => rw [q] at e; cases e
    | some kvs =>
      rw [q] at e
      cases e
      cases rx
      cases ry
      obtain ⟨es, n, D⟩ := T.dict t kvs q
      cases q2 : kvs.lookup z with
      | none =>
        refine ⟨_, es, n, z, none, D, rfl, rfl, T.not t kvs z q q2, ?_⟩
        rw [q2] at k
        exact k.here hM _ (.bl _)
      | some d2 =>
        obtain ⟨u, v, e1, e2, e3⟩ := T.here t kvs z d2 q q2
        refine ⟨_, es, n, z, some u, D, rfl, rfl, e1, ?_⟩
        rw [q2] at k
        exact k.here hM _ (.bl _)
  · cases e
end
end Mi
set_option Elab.async false
set_option linter.all false
set_option maxRecDepth 100000
/-! the head: facts, defs, tables with text keys, and a look of one's own -/
namespace Mi
open PySem PySem.Spec PyProof.Rows L2
abbrev AlC : Type := He.AlT × Bool
def obsC (fl : List He.Fa) (fn : List He.DefD) (ts : List He.Tab) (ck : PySem.W.Frag → Bool) (K : PySem.W.Frag) : AlC := (He.obsT fl fn ts K, ck K)
def obsCG (n : Nat) (fl : List He.Fa) (fn : List He.DefD) (ts : List He.Tab) (ck : PySem.W.Frag → Bool) (g : Addr → Option Obj) : AlC := obsC fl fn ts ck (He.frG g (He.asD g n))
def hookC (n : Nat) (fl : List He.Fa) (fn : List He.DefD) (ts : List He.Tab) (ck : PySem.W.Frag → Bool) : PySem.W.Hook where
  α := AlC
  obs := fun s => obsCG n fl fn ts ck s.heap.get?
  val := fun w => (He.valT fn ts w, true)
  says := fun w h => ∃ K : PySem.W.Frag, K.In h ∧ He.SaysT fl fn ts w K ∧ ck K = true
  of := fun _ _ e => ⟨_, He.frG_in, congrArg (fun z : AlC => z.1) e, congrArg (fun z : AlC => z.2) e⟩
  keeps := fun _ _ _ ⟨K, hK, c⟩ k => ⟨K, PySem.W.Frag.In.keeps hK k, c⟩
theorem obsCG_eq {n : Nat} {fl : List He.Fa} {fn : List He.DefD} {ts : List He.Tab} {ck : PySem.W.Frag → Bool} {g : Addr → Option Obj} {s : Shared} (h : ∀ a, g a = s.heap.get? a) : obsCG n fl fn ts ck g = (hookC n fl fn ts ck).obs s := by
  have e : g = s.heap.get? := funext h
  rw [e] <;> rfl
/-! what a table says of other keys -/
theorem keys_find {P : Params} {z : Str} : ∀ {l : List DictEntry} {ks : List Str}, l.map He.keyOf = He.keysIn P ks → z ∉ ks → l.find? (·.key.isStr z) = none ∧ l.any (·.refKey) = false
  | [], _, _, _ => ⟨rfl, rfl⟩
  | e :: r, [], h, _ => by cases h
  | e :: r, k :: ks, h, hz => by
    have h1 : He.keyOf e :: r.map He.keyOf = some (k, PyData.keyHash P k) :: He.keysIn P ks := h
    injection h1 with h2 h3
    obtain ⟨i1, i2⟩ := keys_find h3 fun q => hz (List.mem_cons_of_mem _ q)
    unfold He.keyOf at h2
    split at h2
    · rename_i x t q
      have h4 := Option.some.inj h2
      obtain ⟨h5, h6⟩ := Prod.mk.inj h4
      have hne : x ≠ z := fun w => hz (by rw [← w, h5]; exact List.mem_cons_self)
      have e1 : e.key.isStr z = false := by
        rw [q]
        show (x == z) = false
        exact beq_eq_false_iff_ne.mpr hne
      have e2 : e.refKey = false := by
        unfold DictEntry.refKey
        rw [q]
      exact ⟨by rw [List.find?_cons, e1]; exact i1, by rw [List.any_cons, e2, i2]; rfl⟩
    · cases h2
theorem tab_not {K : PySem.W.Frag} {P : Params} {a : Addr} {ks : List Str} {z : Str} (h : He.dicW K a = some (He.keysIn P ks)) (hz : z ∉ ks) : PySem.W.nsIn K a z = some none := by
  unfold He.dicW at h
  unfold PySem.W.nsIn
  split at h
  · rename_i c es n sl q
    rw [q]
    simp only
    split at h
    · obtain ⟨h1, h2⟩ := keys_find (Option.some.inj h) hz
      rw [h1]
      simp only
      rw [h2]
      rfl
    · cases h
  · cases h
theorem says_keys {fl : List He.Fa} {fn : List He.DefD} {ts : List He.Tab} {w : World} {K : PySem.W.Frag} (c : He.SaysT fl fn ts w K) (i : Nat) {t : He.Tab} (h : ts[i]? = some t) : He.dicW K (t.1 K) = some (He.keysIn w.params t.2) := by
  have e : ts.map (fun t => He.dicW K (t.1 K)) = ts.map fun t => some (He.keysIn w.params t.2) := congrArg (fun z : He.AlT => z.2) c
  have e2 : (ts.map fun t => He.dicW K (t.1 K))[i]? = (ts.map fun t => some (He.keysIn w.params t.2))[i]? := by rw [e]
  rw [List.getElem?_map, List.getElem?_map, h] at e2
  exact Option.some.inj e2
/-- a table's rows: data beside the library's values -/
inductive DvD (K : PySem.W.Frag) (fa : Nat → Addr) : He.Dv → D → Prop
  | fn (x : Str) (j : Nat) : fa j = He.ga K x → DvD K fa (.glo x) (.fn j)
  | int (i : Int) : DvD K fa (.int i) (.int i)
  | str (x : Str) : DvD K fa (.str x) (.str x)
  | bl (b : Bool) : DvD K fa (.bl b) (.bl b)
  | non : DvD K fa .non .non
theorem DvD.rd {K : PySem.W.Frag} {fa : Nat → Addr} {dv : He.Dv} {d : D} (h : DvD K fa dv d) (H : Hp) (m : List Addr) : RD ⟨K, fa⟩ H m d (dv.v K) := by
  cases h with
  | fn x j e =>
    show RD ⟨K, fa⟩ H m (.fn j) (.ref (He.ga K x))
    rw [← e]
    exact .fn j
  | int i => exact .int i
  | str x => exact .str x
  | bl b => exact .bl b
  | non => exact .non
abbrev RowT := Str × He.Dv × D
theorem rows_lookup {z : Str} {d : D} : ∀ {rows : List RowT}, (rows.map fun r => (r.1, r.2.2)).lookup z = some d → ∃ r ∈ rows, r.1 = z ∧ r.2.2 = d
  | [], h => by cases h
  | r :: rows, h => by
    rw [List.map_cons, List.lookup_cons] at h
    cases q : (z == r.1) with
    | true =>
      rw [q] at h
      exact ⟨r, List.mem_cons_self, (beq_iff_eq.mp q).symm, Option.some.inj h⟩
    | false =>
      rw [q] at h
      obtain ⟨r', h1, h2⟩ := rows_lookup h
      exact ⟨r', List.mem_cons_of_mem _ h1, h2⟩
theorem rows_absent {z : Str} : ∀ {rows : List RowT}, (rows.map fun r => (r.1, r.2.2)).lookup z = none → z ∉ rows.map (·.1)
  | [], _ => fun h => by cases h
  | r :: rows, h => by
    rw [List.map_cons, List.lookup_cons] at h
    cases q : (z == r.1) with
    | true => rw [q] at h; cases h
    | false =>
      rw [q] at h
      intro hm
      rcases List.mem_cons.mp hm with e | hm
      · rw [e, beq_self_eq_true] at q
        cases q
      · exact rows_absent h hm
/-- tables out of what the head says -/
theorem tabs_ok {K : PySem.W.Frag} {w : World} {fa : Nat → Addr} {tb : Nat → Option (List RowT)}
    (h : ∀ t rows, tb t = some rows → (∃ es n, KDict K w (fa t) es n) ∧ He.dicW K (fa t) = some (He.keysIn w.params (rows.map (·.1))) ∧ He.valsB K (fa t) (rows.map fun r => (r.1, r.2.1)) = true ∧ ∀ r ∈ rows, DvD K fa r.2.1 r.2.2) :
    TabsOk K w fa fun t => (tb t).map fun rows => rows.map fun r => (r.1, r.2.2) := by
  have inv : ∀ {t kvs}, ((tb t).map fun rows => rows.map fun r => (r.1, r.2.2)) = some kvs → ∃ rows, tb t = some rows ∧ kvs = rows.map fun r => (r.1, r.2.2) := fun {t kvs} e => by
    obtain ⟨rows, e1, e2⟩ := Option.map_eq_some_iff.mp e
    exact ⟨rows, e1, e2.symm⟩
  constructor
  · intro t kvs e
    obtain ⟨rows, e1, _⟩ := inv e
    exact (h t rows e1).1
  · intro t kvs z d e hl
    obtain ⟨rows, e1, rfl⟩ := inv e
    obtain ⟨_, _, h3, h4⟩ := h t rows e1
    obtain ⟨r, hr, rfl, rfl⟩ := rows_lookup hl
    obtain ⟨u, hu, rv⟩ := He.valsB_ok h3 (q := (r.1, r.2.1)) (List.mem_map.mpr ⟨r, hr, rfl⟩)
    exact ⟨u, _, hu, rv, fun H m => (h4 r hr).rd H m⟩
  · intro t kvs z e hl
    obtain ⟨rows, e1, rfl⟩ := inv e
    obtain ⟨_, h2, _, _⟩ := h t rows e1
    exact tab_not h2 (rows_absent hl)
end Mi
set_option Elab.async false
set_option linter.all false
set_option maxRecDepth 100000
/-! going along data functions: what is asked of the rest -/
namespace Mi
open PySem PySem.Spec PyProof.Rows L2
def Ok {α : Type} (e : R α) (Q : α → Mem → Prop) : Prop := ∃ a M, e = some (a, M) ∧ Q a M
section
variable {α β : Type} {Q : α → Mem → Prop}
@[simp] theorem ok_some {a : α} {M : Mem} : Ok (some (a, M)) Q ↔ Q a M := ⟨fun ⟨_, _, e, q⟩ => by cases e; exact q, fun q => ⟨_, _, rfl, q⟩⟩
@[simp] theorem ok_bind {x : R β} {f : β → Mem → R α} : Ok (bindO x f) Q ↔ Ok x fun b M => Ok (f b M) Q := by
  constructor
  · rintro ⟨a, M, e, q⟩
    cases z : x with
    | none => rw [z] at e; cases e
    | some p => rw [z] at e; exact ⟨p.1, p.2, rfl, a, M, e, q⟩
  · rintro ⟨b, M, e, a, M', e2, q⟩
    exact ⟨a, M', by rw [e]; exact e2, q⟩
theorem Ok.mono {e : R α} {Q' : α → Mem → Prop} (h : Ok e Q) (i : ∀ a M, Q a M → Q' a M) : Ok e Q' := let ⟨a, M, x, q⟩ := h; ⟨a, M, x, i a M q⟩
@[simp] theorem ok_map {x : Option β} {f : β → α × Mem} : Ok (x.map f) Q ↔ ∃ b, x = some b ∧ Q (f b).1 (f b).2 := by
  cases x with
  | none => exact ⟨fun ⟨_, _, e, _⟩ => (by cases e), fun ⟨_, e, _⟩ => (by cases e)⟩
  | some b => exact ⟨fun ⟨a, M, e, q⟩ => by have e' : f b = (a, M) := Option.some.inj e; exact ⟨b, rfl, by rw [e']; exact q⟩, fun ⟨_, e, q⟩ => by cases e; exact ⟨_, _, rfl, q⟩⟩
@[simp] theorem ok_ite {c : Prop} [Decidable c] {x y : R α} : Ok (if c then x else y) Q ↔ if c then Ok x Q else Ok y Q := by split <;> rfl
end
/-! memories -/
/-- all stays but what stands at these -/
def Kp (ps : List Nat) (M M' : Mem) : Prop := M.length ≤ M'.length ∧ ∀ n, n < M.length → n ∉ ps → M'[n]? = M[n]?
theorem Kp.refl {ps : List Nat} {M : Mem} : Kp ps M M := ⟨Nat.le_refl _, fun _ _ _ => rfl⟩
theorem Kp.trans {ps : List Nat} {M M1 M2 : Mem} (a : Kp ps M M1) (b : Kp ps M1 M2) : Kp ps M M2 := ⟨Nat.le_trans a.1 b.1, fun n h1 h2 => (b.2 n (Nat.lt_of_lt_of_le h1 a.1) h2).trans (a.2 n h1 h2)⟩
theorem Kp.wide {ps qs : List Nat} {M M1 : Mem} (a : Kp ps M M1) (h : ∀ n, n < M.length → n ∈ ps → n ∈ qs) : Kp qs M M1 := ⟨a.1, fun n h1 h2 => a.2 n h1 fun z => h2 (h n h1 z)⟩
theorem Kp.push {ps : List Nat} {M : Mem} {g : Mem} : Kp ps M (M ++ g) := ⟨by rw [List.length_append]; omega, fun n h _ => List.getElem?_append_left h⟩
theorem Kp.set {ps : List Nat} {M : Mem} {n : Nat} {o : MO} (h : n ∈ ps) : Kp ps M (M.set n o) := ⟨by rw [List.length_set]; exact Nat.le_refl _, fun k _ hk => List.getElem?_set_ne fun z : n = k => hk (by rw [← z]; exact h)⟩
theorem Kp.get {ps : List Nat} {M M1 : Mem} (a : Kp ps M M1) {n : Nat} {o : MO} (h : M[n]? = some o) (hn : n ∉ ps) : M1[n]? = some o := (a.2 n (List.getElem?_eq_some_iff.mp h).1 hn).trans h
theorem lt_of_get {M : Mem} {n : Nat} {o : MO} (h : M[n]? = some o) : n < M.length := (List.getElem?_eq_some_iff.mp h).1
theorem lstAt_of {M : Mem} {n : Nat} {xs : List D} (h : M[n]? = some (.lst xs)) : lstAt M n = some xs := by unfold lstAt; rw [h]
theorem lstAt_of' {M : Mem} {n : Nat} {xs : List D} (h : M[n]? = some (.flst xs)) : lstAt M n = some xs := by unfold lstAt; rw [h]
theorem push_last {M : Mem} {o : MO} : (M ++ [o])[M.length]? = some o := by rw [List.getElem?_append_right (Nat.le_refl _), Nat.sub_self]; rfl
theorem lst_last {M : Mem} {xs : List D} : lstAt (M ++ [.lst xs]) M.length = some xs := lstAt_of push_last
theorem set_self {M : Mem} {n : Nat} {o u : MO} (h : M[n]? = some u) : (M.set n o)[n]? = some o := List.getElem?_set_self (lt_of_get h)
theorem append_get {M : Mem} {g : Mem} {n : Nat} {o : MO} (h : M[n]? = some o) : (M ++ g)[n]? = some o := by rw [List.getElem?_append_left (lt_of_get h)]; exact h
/-! ints -/
theorem bits_le {i : Int} {k : Nat} (h : i.natAbs < 2 ^ k) : Builtin.Int.intBits i ≤ k := by
  unfold Builtin.Int.intBits
  split
  · omega
  · rename_i h0
    have : i.natAbs ≠ 0 := by intro z; apply h0; simp; omega
    have := (Nat.log2_lt this).mpr h
    omega
theorem log_lt {i : Int} {k : Nat} (h : i.natAbs < 2 ^ k) (hk : 0 < k) : i.natAbs.log2 < k := by
  by_cases z : i.natAbs = 0
  · rw [z]; simpa using hk
  · exact (Nat.log2_lt z).mpr h
@[simp] theorem ixN_nat {n i : Nat} (h : i < n) : ixN n (i : Int) = some i := by
  unfold ixN
  simp
  omega

/-! the laws' own drawing -/
/-- a pot: three ints -/
def PotAt (M : Mem) (p : Nat) (k : Nat) : Prop := ∃ a b c : Int, M[p]? = some (.lst [.int a, .int b, .int c]) ∧ 0 ≤ b ∧ b < 2305843009213693921 ∧ 0 ≤ c ∧ c ≤ k
theorem PotAt.keep {M M' : Mem} {p k : Nat} {ps : List Nat} (h : PotAt M p k) (x : Kp ps M M') (hp : p ∉ ps) : PotAt M' p k := let ⟨a, b, c, e, r⟩ := h; ⟨a, b, c, x.get e hp, r⟩
theorem PotAt.lt {M : Mem} {p k : Nat} (h : PotAt M p k) : p < M.length := let ⟨_, _, _, e, _⟩ := h; lt_of_get e
theorem PotAt.up {M : Mem} {p k k' : Nat} (h : PotAt M p k) (hk : k ≤ k') : PotAt M p k' := let ⟨a, b, c, e, r1, r2, r3, r4⟩ := h; ⟨a, b, c, e, r1, r2, r3, by omega⟩
abbrev primesD : List D := [.int 2147483647, .int 2147483629, .int 2147483587, .int 2147483579, .int 2147483563]
def takeBody (A B C E : Int) : Es :=
  (sSeq (sIf (bOf (eBin oGt (eBin oIx (eVar 0) (eC (.int 0))) (eC (.int 0)))) (sSeq (sSet 2 (eBin oMod (eCall fInt (eCons (eBin oIx (eVar 0) (eC (.int 0))) eNil)) (eVar 1)))
    (sSeq (sSub (eVar 0) (eC (.int 0)) (eBin oDiv (eBin oIx (eVar 0) (eC (.int 0))) (eVar 1)))
    (sRet (eVar 2)))) sNil)
    (sSeq (sSub (eVar 0) (eC (.int 2)) (eBin oAdd (eBin oIx (eVar 0) (eC (.int 2))) (eC (.int 1))))
    (sSeq (sSet 3 (eBin oIx (eLst (eCons (eC (.int 2147483647)) (eCons (eC (.int 2147483629)) (eCons (eC (.int 2147483587)) (eCons (eC (.int 2147483579)) (eCons (eC (.int 2147483563)) eNil)))))) (eBin oMod (eCall fInt (eCons (eBin oIx (eVar 0) (eC (.int 2))) eNil)) (eC (.int 5)))))
    (sSeq (sSet 4 (eBin oMod (eCall fInt (eCons (eBin oPow (eCall fInt (eCons (eBin oAdd (eBin oAdd (eBin oIx (eVar 0) (eC (.int 1))) (eBin oMul (eBin oMul (eC (.int A)) (eBin oIx (eVar 0) (eC (.int 2)))) (eBin oIx (eVar 0) (eC (.int 2))))) (eC (.int B))) eNil)) (eC (.int 3))) eNil)) (eVar 3)))
    (sSeq (sSet 4 (eBin oMod (eCall fInt (eCons (eBin oMul (eVar 4) (eBin oAdd (eBin oMod (eCall fInt (eCons (eVar 4) eNil)) (eC (.int C))) (eBin oMul (eC (.int E)) (eBin oIx (eVar 0) (eC (.int 2)))))) eNil)) (eC (.int 2305843009213693907))))
    (sRet (eBin oMod (eCall fInt (eCons (eBin oDiv (eVar 4) (eC (.int 167))) eNil)) (eVar 1))))))))
theorem at0 {a b c : D} : atD [a, b, c] 0 = some a := rfl
theorem at1 {a b c : D} : atD [a, b, c] 1 = some b := rfl
theorem at2 {a b c : D} : atD [a, b, c] 2 = some c := rfl
theorem mul_nn {x y m n : Int} (h1 : 0 ≤ x) (h2 : x ≤ m) (h3 : 0 ≤ y) (h4 : y ≤ n) : 0 ≤ x * y ∧ x * y ≤ m * n := ⟨Int.mul_nonneg h1 h3, Int.mul_le_mul h2 h4 h3 (by omega)⟩
theorem prime_at {c : Int} (h : 0 ≤ c) : ∃ q : Int, atD primesD (c % 5) = some (.int q) ∧ 2147483563 ≤ q ∧ q ≤ 2147483647 := by
  have h1 : 0 ≤ c % 5 := Int.emod_nonneg _ (by decide)
  have h2 : c % 5 < 5 := Int.emod_lt_of_pos _ (by decide)
  generalize c % 5 = r at h1 h2
  have : r = 0 ∨ r = 1 ∨ r = 2 ∨ r = 3 ∨ r = 4 := by omega
  rcases this with rfl | rfl | rfl | rfl | rfl
  · exact ⟨2147483647, rfl, by decide, by decide⟩
  · exact ⟨2147483629, rfl, by decide, by decide⟩
  · exact ⟨2147483587, rfl, by decide, by decide⟩
  · exact ⟨2147483579, rfl, by decide, by decide⟩
  · exact ⟨2147483563, rfl, by decide, by decide⟩
theorem take_spec {A B C E u : Int} {M : Mem} {p k : Nat} (hA : 0 ≤ A ∧ A ≤ 1000000) (hB : 0 ≤ B ∧ B ≤ 1000000) (hC : 0 < C ∧ C ≤ 1000000) (hE : 0 ≤ E ∧ E ≤ 1000000) (h : PotAt M p k) (hk : k < 1000000000) (hu : 0 < u) (hu2 : u < 18446744073709551616) :
    Ok (runB 5 (takeBody A B C E) [.ref p, .int u] M) fun d M' => ∃ r : Int, d = .int r ∧ 0 ≤ r ∧ r < u ∧ PotAt M' p (k + 1) ∧ Kp [p] M M' := by
  obtain ⟨a, b, c, e, b1, b2, c1, c2⟩ := h
  have l0 := lstAt_of e
  have hu3 : u.natAbs.log2 < 9000 := log_lt (by have : u.natAbs < 2 ^ 64 := by omega
                                                exact Nat.lt_of_lt_of_le this (Nat.pow_le_pow_right (by decide) (by decide))) (by decide)
  unfold runB takeBody
  by_cases ha : 0 < a
  · simp [startD, sSeq, sIf, bOf, eBin, oGt, oI0, oIx, eVar, eC, sSet, eCall, eCons, eNil, fInt, oMod, oI, sSub, oDiv, cDiv, sRet, setL, l0, e, at0, ha, hu, hu3, ixN, List.set]
    exact ⟨Int.emod_nonneg _ (by omega), Int.emod_lt_of_pos _ hu, ⟨_, b, c, set_self e, b1, b2, c1, by omega⟩, Kp.set (by simp)⟩
  · have e1 := set_self (o := .lst [.int a, .int b, .int (c + 1)]) e
    have l1 : lstAt (M.set p (.lst [.int a, .int b, .int (c + 1)])) p = some [.int a, .int b, .int (c + 1)] := lstAt_of e1
    have l2 : lstAt (M.set p (.lst [.int a, .int b, .int (c + 1)]) ++ [.lst primesD]) p = some [.int a, .int b, .int (c + 1)] := lstAt_of (append_get e1)
    have l3 : lstAt (M.set p (.lst [.int a, .int b, .int (c + 1)]) ++ [.lst primesD]) M.length = some primesD := by
      have := lst_last (M := M.set p (.lst [.int a, .int b, .int (c + 1)])) (xs := primesD)
      rw [List.length_set] at this
      exact this
    obtain ⟨q, q1, q2, q3⟩ := prime_at (c := c + 1) (by omega)
    have c3 : 0 ≤ c + 1 := by omega
    have c4 : c + 1 ≤ 1000000000 := by omega
    have sz : (5 : Nat) ≤ sizeLine := by rw [sizeLine_eq]; decide
    unfold primesD at l2 l3 q1
    obtain ⟨m1, m2⟩ := mul_nn hA.1 hA.2 c3 c4
    obtain ⟨m3, m4⟩ := mul_nn m1 m2 c3 c4
    have k1 : A.natAbs.log2 + (c + 1).natAbs.log2 < 1000000 := by
      have x1 : A.natAbs.log2 < 64 := log_lt (by omega) (by decide)
      have x2 : (c + 1).natAbs.log2 < 64 := log_lt (by omega) (by decide)
      omega
    have k2 : (A * (c + 1)).natAbs.log2 + (c + 1).natAbs.log2 < 1000000 := by
      have x1 : (A * (c + 1)).natAbs.log2 < 64 := log_lt (by omega) (by decide)
      have x2 : (c + 1).natAbs.log2 < 64 := log_lt (by omega) (by decide)
      omega
    generalize hy : b + A * (c + 1) * (c + 1) + B = y
    have y1 : 0 ≤ y ∧ y < 2 ^ 90 := by subst hy; constructor <;> omega
    have k3 : CPowB y 3 := ⟨by decide, by
      have := bits_le (i := y) (k := 90) (by omega)
      omega⟩
    have hq : 0 < q := by omega
    have z1 : 0 ≤ y ^ 3 % q := Int.emod_nonneg _ (by omega)
    have z2 : y ^ 3 % q < q := Int.emod_lt_of_pos _ hq
    generalize hz : y ^ 3 % q = z at z1 z2
    have w1 : 0 ≤ z % C := Int.emod_nonneg _ (by omega)
    have w2 : z % C < C := Int.emod_lt_of_pos _ hC.1
    obtain ⟨m5, m6⟩ := mul_nn hE.1 hE.2 c3 c4
    have k4 : E.natAbs.log2 + (c + 1).natAbs.log2 < 1000000 := by
      have x1 : E.natAbs.log2 < 64 := log_lt (by omega) (by decide)
      have x2 : (c + 1).natAbs.log2 < 64 := log_lt (by omega) (by decide)
      omega
    have k5 : z.natAbs.log2 + (z % C + E * (c + 1)).natAbs.log2 < 1000000 := by
      have x1 : z.natAbs.log2 < 64 := log_lt (by omega) (by decide)
      have x2 : (z % C + E * (c + 1)).natAbs.log2 < 64 := log_lt (by omega) (by decide)
      omega
    simp [startD, sSeq, sIf, bOf, eBin, oGt, oI0, oIx, eVar, eC, sSet, eCall, eCons, eNil, fInt, oMod, oMul, cMul, oPow, cPow, oI, sSub, oDiv, cDiv, sRet, setL, l0, l1, l2, l3, e, at0, at1, at2, ha, hu, hu3, ixN, List.set, sNil, oAdd, eLst, q1, sz, k1, k2, hy, k3, hq, hz, hC.1, k4, k5]
    have t1 : 0 ≤ z * (z % C + E * (c + 1)) % 2305843009213693907 / 167 % u := Int.emod_nonneg _ (by omega)
    have t2 : z * (z % C + E * (c + 1)) % 2305843009213693907 / 167 % u < u := Int.emod_lt_of_pos _ hu
    rw [if_pos (by decide)]
    exact ⟨t1, t2, ⟨a, b, c + 1, append_get e1, b1, b2, by omega, by omega⟩, (Kp.set (by simp)).trans Kp.push⟩
/-- some[take(pot, len(some))] -/
def ofBody (call : CallF) (ti : Nat) : Es :=
  (sRet (eBin oIx (eVar 1) (eCall (call ti) (eCons (eVar 0) (eCons (eCall fLen (eCons (eVar 1) eNil)) eNil)))))
theorem fLen_items {M : Mem} {d : D} {xs : List D} (h : itemsOf M d = some xs) : fLen [d] M = some (.int xs.length, M) := by
  unfold itemsOf at h
  split at h
  · cases h; rfl
  · rename_i n
    have h' : lstAt M n = some xs := h
    unfold fLen
    simp only [h']
    unfold lstAt at h'
    split at h' <;> first | (rename_i q; rw [q]) | cases h'
  · cases h
theorem oIx_items {M : Mem} {d : D} {xs : List D} (h : itemsOf M d = some xs) {i : Int} (h0 : 0 ≤ i) (h1 : i < xs.length) : ∃ x, x ∈ xs ∧ oIx d (.int i) M = some (x, M) := by
  have hn : i.toNat < xs.length := by omega
  have hx : atD xs i = some xs[i.toNat] := by
    unfold atD ixN
    rw [if_pos h0, if_pos h1]
    exact List.getElem?_eq_getElem hn
  refine ⟨_, List.getElem_mem hn, ?_⟩
  unfold itemsOf at h
  split at h
  · cases h
    unfold oIx
    simp only [hx]
    rfl
  · unfold oIx
    simp only [h, hx]
    rfl
  · cases h
theorem of_spec {call : CallF} {ti : Nat} {M : Mem} {p k : Nat} {d : D} {xs : List D}
    (take : ∀ {M : Mem} {p k : Nat} {u : Int}, PotAt M p k → k < 1000000000 → 0 < u → u < 18446744073709551616 → Ok (call ti [.ref p, .int u] M) fun d M' => ∃ r : Int, d = .int r ∧ 0 ≤ r ∧ r < u ∧ PotAt M' p (k + 1) ∧ Kp [p] M M')
    (h : PotAt M p k) (hk : k < 1000000000) (hd : itemsOf M d = some xs) (hd2 : ∀ M', Kp [p] M M' → itemsOf M' d = some xs) (h0 : 0 < xs.length) (h1 : xs.length < 18446744073709551616) :
    Ok (runB 2 (ofBody call ti) [.ref p, d] M) fun x M' => x ∈ xs ∧ PotAt M' p (k + 1) ∧ Kp [p] M M' := by
  unfold runB ofBody
  simp [startD, sRet, eBin, eVar, eCall, eCons, eNil, fLen_items hd]
  refine (take h hk (u := xs.length) (by omega) (by omega)).mono ?_
  rintro _ M' ⟨r, rfl, r1, r2, r3, r4⟩
  obtain ⟨x, x1, x2⟩ := oIx_items (hd2 M' r4) r1 r2
  simp [x2]
  exact ⟨x1, r3, r4⟩
/-- list(range(max(1, min(most, len(script))))) -/
def cellsBody : Es :=
  (sRet (eLrg (eCall fMax (eCons (eC (.int 1)) (eCons (eCall fMin (eCons (eVar 1) (eCons (eCall fLen (eCons (eVar 0) eNil)) eNil))) eNil)))))
def potBody (A B C E F : Int) : Es :=
  (sSeq (sSet 2 (eIf (bOf (eBin oLt (eVar 1) (eCall fLen (eCons (eVar 0) eNil)))) (eBin oIx (eVar 0) (eVar 1)) (eBin oAdd (eBin oAdd (eBin oMod (eCall fSum (eCons (eSl (eVar 0) poNone (poSome (eC (.int 1)))) eNil)) (eC (.int 1000003))) (eBin oMul (eC (.int A)) (eVar 1))) (eC (.int B)))))
    (sSeq (sSet 3 (eBin oMul (eBin oMod (eCall fInt (eCons (eCall fAbs (eCons (eVar 2) eNil)) eNil)) (eBin oPow (eBin oPow (eC (.int 10)) (eC (.int 60))) (eC (.int 5)))) (eCall fInt (eCons (eBin oGe (eCall fAbs (eCons (eVar 2) eNil)) (eBin oPow (eC (.int 10)) (eC (.int 18)))) eNil))))
    (sSeq (sSet 4 (eBin oMod (eCall fInt (eCons (eVar 2) eNil)) (eC (.int 2305843009213693951))))
    (sRet (eLst (eCons (eVar 3) (eCons (eBin oMod (eCall fInt (eCons (eBin oAdd (eBin oAdd (eBin oMul (eVar 4) (eC (.int C))) (eBin oMul (eBin oMul (eC (.int E)) (eVar 1)) (eVar 1))) (eC (.int F))) eNil)) (eC (.int 2305843009213693921))) (eCons (eC (.int 0)) eNil))))))))
theorem cells_spec {M : Mem} {s : Nat} {ns : List Int} {most : Nat} (h : M[s]? = some (.flst (ns.map .int))) (hm : most < 1000) (hn : ns.length < 1000) :
    Ok (runB 2 cellsBody [.ref s, .int most] M) fun d M' => d = .ref M.length ∧ M' = M ++ [.lst (rgD 0 (max 1 (min most ns.length)))] := by
  unfold runB cellsBody
  have l := fLen_items (show itemsOf M (.ref s) = some (ns.map .int) from lstAt_of' h)
  simp [startD, sRet, eVar, eCall, eCons, eNil, l, eLrg, eC, fMax, fMin]
  have e : (if (1 : Int) < (if ns.length < most then (ns.length : Int) else most) then (if ns.length < most then (ns.length : Int) else most) else 1) = ((max 1 (min most ns.length) : Nat) : Int) := by
    split <;> split <;> omega
  rw [e, if_pos ⟨by omega, by omega⟩, Int.toNat_natCast]
theorem pot_spec {A B C E F : Int} {M : Mem} {s : Nat} {ns : List Int} {i : Nat} (hA : 0 ≤ A ∧ A ≤ 1000000) (hC : 0 ≤ C ∧ C ≤ 1000000) (hE : 0 ≤ E ∧ E ≤ 1000000) (h : M[s]? = some (.flst (ns.map .int))) (hi : i < 1000) :
    Ok (runB 5 (potBody A B C E F) [.ref s, .int i] M) fun d M' => ∃ p, d = .ref p ∧ M.length ≤ p ∧ PotAt M' p 0 ∧ Kp [] M M' := by
  unfold runB potBody
  have l := fLen_items (show itemsOf M (.ref s) = some (ns.map .int) from lstAt_of' h)
  have fin : ∀ (M1 : Mem) (cell : Int), Kp [] M M1 → Ok ((bindO ((sSeq (sSet 3 (eBin oMul (eBin oMod (eCall fInt (eCons (eCall fAbs (eCons (eVar 2) eNil)) eNil)) (eBin oPow (eBin oPow (eC (.int 10)) (eC (.int 60))) (eC (.int 5)))) (eCall fInt (eCons (eBin oGe (eCall fAbs (eCons (eVar 2) eNil)) (eBin oPow (eC (.int 10)) (eC (.int 18)))) eNil))))
    (sSeq (sSet 4 (eBin oMod (eCall fInt (eCons (eVar 2) eNil)) (eC (.int 2305843009213693951))))
    (sRet (eLst (eCons (eVar 3) (eCons (eBin oMod (eCall fInt (eCons (eBin oAdd (eBin oAdd (eBin oMul (eVar 4) (eC (.int C))) (eBin oMul (eBin oMul (eC (.int E)) (eVar 1)) (eVar 1))) (eC (.int F))) eNil)) (eC (.int 2305843009213693921))) (eCons (eC (.int 0)) eNil))))))) [some (.ref s), some (.int i), some (.int cell), none, none] M1) fun o M1 => match o with
      | .ret d => some (d, M1)
      | .next _ => some (.non, M1)
      | _ => none)) fun d M' => ∃ p, d = .ref p ∧ M.length ≤ p ∧ PotAt M' p 0 ∧ Kp [] M M' := by
    intro M1 cell hk
    have sz : (3 : Nat) ≤ sizeLine := by rw [sizeLine_eq]; decide
    simp [sSeq, sSet, sRet, eBin, eVar, eC, eCall, eCons, eNil, fInt, fAbs, oPow, cPow, oMod, oMul, cMul, oGe, oI, oI0, oAdd, eLst, List.set, sz]
    have x0 : ∀ x : Int, 0 ≤ x → x < 2 ^ 62 → x.natAbs.log2 < 1000 := fun x h1 h2 => log_lt (k := 1000) (Nat.lt_of_lt_of_le (show x.natAbs < 2 ^ 62 by omega) (Nat.pow_le_pow_right (by decide) (by decide))) (by decide)
    have xi : i.log2 < 1000 := by
      have := x0 (i : Int) (by omega) (by omega)
      simpa using this
    obtain ⟨m1, m2⟩ := mul_nn (x := E) (y := (i : Int)) hE.1 hE.2 (by omega) (show (i : Int) ≤ 1000 by omega)
    rw [if_pos (by decide), if_pos (by decide), if_pos (by decide), if_pos, if_pos, if_pos, if_pos]
    · refine ⟨hk.1, ⟨_, _, 0, push_last, Int.emod_nonneg _ (by decide), Int.emod_lt_of_pos _ (by decide), by decide, by decide⟩, hk.trans Kp.push⟩
    · have := x0 (E * (i : Int)) m1 (by omega)
      omega
    · have := x0 E hE.1 (by omega)
      omega
    · have y1 := x0 (cell % 2305843009213693951) (Int.emod_nonneg _ (by decide)) (Int.lt_trans (Int.emod_lt_of_pos _ (by decide)) (by decide))
      have y2 := x0 C hC.1 (by omega)
      omega
    · generalize (if cell < 0 then -cell else cell) = v
      generalize hb : (1000000000000000000000000000000000000000000000000000000000000000000000000000000000000000000000000000000000000000000000000000000000000000000000000000000000000000000000000000000000000000000000000000000000000000000000000000000000000000000000000000000000000000000000000000000000000000000000000000000000000 : Int) = big
      have hb1 : 0 < big := by rw [← hb]; decide
      have hb2 : big.natAbs < 2 ^ 1000 := by rw [← hb]; decide
      have z1 := Int.emod_nonneg v (b := big) (by omega)
      have z2 := Int.emod_lt_of_pos v hb1
      have y1 : (v % big).natAbs.log2 < 1000 := log_lt (Nat.lt_trans (by omega) hb2) (by decide)
      have y2 : (if (1000000000000000000 : Int) ≤ v then (1 : Int) else 0).natAbs.log2 < 1000 := by split <;> decide
      omega
  rw [ok_bind, show sSeq = fun x y ρ M => bindO (x ρ M) fun o M1 => match o with
    | .next ρ1 => y ρ1 M1
    | o => some (o, M1) from rfl]
  simp only [ok_bind]
  have step : Ok (sSet 2 (eIf (bOf (eBin oLt (eVar 1) (eCall fLen (eCons (eVar 0) eNil)))) (eBin oIx (eVar 0) (eVar 1)) (eBin oAdd (eBin oAdd (eBin oMod (eCall fSum (eCons (eSl (eVar 0) poNone (poSome (eC (.int 1)))) eNil)) (eC (.int 1000003))) (eBin oMul (eC (.int A)) (eVar 1))) (eC (.int B)))) (startD 5 [.ref s, .int i]) M) fun o M1 => ∃ cell, o = .next [some (.ref s), some (.int i), some (.int cell), none, none] ∧ Kp [] M M1 := by
    have li : lstAt M s = some (ns.map .int) := lstAt_of' h
    by_cases hlt : i < ns.length
    · have hx : atD (ns.map Mi.D.int) (i : Int) = some (.int ns[i]) := by
        unfold atD ixN
        rw [if_pos (by omega), if_pos (by rw [List.length_map]; omega)]
        simp [hlt]
      simp [startD, sSet, eIf, bOf, eBin, eVar, eCall, eCons, eNil, l, oLt, oI0, hlt, oIx, li, hx, List.set]
      exact Kp.refl
    · have hs : intsOf ((ns.map Mi.D.int).take 1) = some (ns.take 1) := by
        cases ns <;> rfl
      have x1 : A.natAbs.log2 < 64 := log_lt (by omega) (by decide)
      have x2 : i.log2 < 64 := by
        have := log_lt (i := (i : Int)) (k := 64) (by omega) (by decide)
        simpa using this
      have cut : cutD (ns.map Mi.D.int) none (some 1) = (ns.map Mi.D.int).take 1 := by
        unfold cutD
        cases ns <;> simp [HT.sIx]
      have sm : lstAt (M ++ [.lst (cutD (ns.map Mi.D.int) none (some 1))]) M.length = some (cutD (ns.map Mi.D.int) none (some 1)) := lst_last
      rw [← cut] at hs
      have x3 : A.natAbs.log2 + i.log2 < 1000000 := by omega
      simp [startD, sSet, eIf, bOf, eBin, eVar, eCall, eCons, eNil, l, oLt, oI0, hlt, li, List.set, oAdd, oMod, oI, fSum, eSl, poNone, poSome, eC, oMul, cMul, sm, hs, x3]
      exact Kp.push
  refine step.mono ?_
  rintro _ M1 ⟨cell, rfl, hk⟩
  have := fin M1 cell hk
  simp only [ok_bind] at this
  exact this
end Mi
set_option Elab.async false
set_option linter.all false
set_option maxRecDepth 100000
/-! loops and plain data -/
namespace Mi
open PySem PySem.Spec PyProof.Rows L2
theorem ok_seq {x y : Es} {ρ : Loc} {M : Mem} {Q : Fl → Mem → Prop} : Ok (sSeq x y ρ M) Q ↔ Ok (x ρ M) fun o M1 => match o with
    | .next ρ1 => Ok (y ρ1 M1) Q
    | o => Q o M1 := by
  unfold sSeq
  rw [ok_bind]
  constructor
  · intro h
    refine h.mono fun o M1 q => ?_
    cases o <;> first | exact q | exact ok_some.mp q
  · intro h
    refine h.mono fun o M1 q => ?_
    cases o <;> first | exact q | exact ok_some.mpr q
/-- what a turn's end leads to -/
def Turn (Inv : Loc → Mem → Prop) (Q : Fl → Mem → Prop) : Fl → Mem → Prop
  | .next ρ, M => Inv ρ M
  | .cont ρ, M => Inv ρ M
  | .brk ρ, M => Q (.next ρ) M
  | .ret d, M => Q (.ret d) M
  | .exc ρ c v, M => Q (.exc ρ c v) M
theorem ok_forN {get : Src} {g : D → Loc → Option Loc} {body : Es} {Q : Fl → Mem → Prop} (len : Nat) (Inv : Nat → Loc → Mem → Prop)
    (step : ∀ j ρ M, j ≤ len → Inv j ρ M → ∃ xs, get M = some xs ∧ xs.length = len ∧ ∀ d, xs[j]? = some d → ∃ ρ1, g d ρ = some ρ1 ∧ Ok (body ρ1 M) (Turn (Inv (j + 1)) Q))
    (done : ∀ ρ M, Inv len ρ M → Q (.next ρ) M) : ∀ (f i : Nat) (ρ : Loc) (M : Mem), i ≤ len → len + 1 ≤ f + i → Inv i ρ M → Ok (forN get g body f i ρ M) Q
  | 0, i, ρ, M, hi, hf, h => by omega
  | f + 1, i, ρ, M, hi, hf, h => by
    obtain ⟨xs, e1, e2, e3⟩ := step i ρ M hi h
    unfold forN
    rw [e1]
    simp only
    cases hx : xs[i]? with
    | none =>
      have hl : len ≤ i := by rw [← e2]; exact List.getElem?_eq_none_iff.mp hx
      have : i = len := by omega
      subst this
      exact ok_some.mpr (done _ _ h)
    | some d =>
      have hl : i < len := by rw [← e2]; exact (List.getElem?_eq_some_iff.mp hx).1
      obtain ⟨ρ1, g1, o, M2, hb, ht⟩ := e3 d hx
      simp only [g1, hb]
      cases o with
      | next ρ2 => exact ok_forN len Inv step done f (i + 1) ρ2 M2 hl (by omega) ht
      | cont ρ2 => exact ok_forN len Inv step done f (i + 1) ρ2 M2 hl (by omega) ht
      | brk ρ2 => exact ok_some.mpr ht
      | ret d => exact ok_some.mpr ht
      | exc ρ c v => exact ok_some.mpr ht
theorem ok_for {src : EvI} {g : D → Loc → Option Loc} {body : Es} {ρ : Loc} {M : Mem} {Q : Fl → Mem → Prop} (len : Nat) (Inv : Nat → Loc → Mem → Prop)
    (h0 : Ok (src ρ M) fun get M1 => Inv 0 ρ M1 ∧ (∃ xs, get M1 = some xs ∧ xs.length = len) ∧ ∀ j ρ M, j ≤ len → Inv j ρ M → ∃ xs, get M = some xs ∧ xs.length = len ∧ ∀ d, xs[j]? = some d → ∃ ρ1, g d ρ = some ρ1 ∧ Ok (body ρ1 M) (Turn (Inv (j + 1)) Q))
    (done : ∀ ρ M, Inv len ρ M → Q (.next ρ) M) : Ok (sFor src g body ρ M) Q := by
  unfold sFor
  rw [ok_bind]
  refine h0.mono fun get M1 ⟨a, ⟨xs, b1, b2⟩, c⟩ => ?_
  rw [b1]
  exact ok_forN len Inv c done _ 0 ρ M1 (Nat.zero_le _) (by omega) a
/-- a comprehension -/
theorem ok_lcN {get : Src} {g : D → Loc → Option Loc} {t : EvB} {el : Ev} {D0 : Nat} {ρ : Loc} (len : Nat) (hlen : len ≤ sizeLine) (Inv : Nat → List D → Mem → Prop)
    (step : ∀ j acc M, j ≤ len → acc.length ≤ j → M[D0]? = some (.lst acc) → Inv j acc M → ∃ xs, get M = some xs ∧ xs.length = len ∧ ∀ d, xs[j]? = some d → ∃ ρ1, g d ρ = some ρ1 ∧ Ok (t ρ1 M) fun b M2 =>
      if b = true then Ok (el ρ1 M2) fun y M3 => M3[D0]? = some (.lst acc) ∧ Inv (j + 1) (acc ++ [y]) (M3.set D0 (.lst (acc ++ [y]))) else M2[D0]? = some (.lst acc) ∧ Inv (j + 1) acc M2) :
    ∀ (f i : Nat) (acc : List D) (M : Mem), i ≤ len → len + 1 ≤ f + i → acc.length ≤ i → M[D0]? = some (.lst acc) → Inv i acc M → ∃ acc' M', lcN get g t el D0 ρ f i M = some M' ∧ M'[D0]? = some (.lst acc') ∧ Inv len acc' M'
  | 0, i, acc, M, hi, hf, _, _, h => by omega
  | f + 1, i, acc, M, hi, hf, ha, hD, h => by
    obtain ⟨xs, e1, e2, e3⟩ := step i acc M hi ha hD h
    unfold lcN
    rw [e1]
    simp only
    cases hx : xs[i]? with
    | none =>
      have hl : len ≤ i := by rw [← e2]; exact List.getElem?_eq_none_iff.mp hx
      have : i = len := by omega
      subst this
      exact ⟨acc, M, rfl, hD, h⟩
    | some d =>
      have hl : i < len := by rw [← e2]; exact (List.getElem?_eq_some_iff.mp hx).1
      obtain ⟨ρ1, g1, b, M2, hb, ht⟩ := e3 d hx
      simp only [g1, hb]
      cases b with
      | false =>
        rw [if_neg (by decide)] at ht
        exact ok_lcN len hlen Inv step f (i + 1) acc M2 hl (by omega) (by omega) ht.1 ht.2
      | true =>
        rw [if_pos rfl] at ht
        obtain ⟨y, M3, hy, h3, h4⟩ := ht
        have hp : Mi.lput M3 D0 y = some (M3.set D0 (.lst (acc ++ [y]))) := by
          unfold Mi.lput
          rw [h3]
          exact if_pos (by omega)
        simp only [hy, hp]
        exact ok_lcN len hlen Inv step f (i + 1) (acc ++ [y]) _ hl (by omega) (by rw [List.length_append, List.length_singleton]; omega) (set_self h3) h4
theorem ok_lc {src : EvI} {vs : List Nat} {g : D → Loc → Option Loc} {t : EvB} {el : Ev} {ρ : Loc} {M : Mem} {Q : D → Mem → Prop} (len : Nat) (hlen : len ≤ sizeLine) (Inv : Nat → Nat → List D → Mem → Prop)
    (h0 : Ok (src ρ M) fun get M1 => Inv M1.length 0 [] (M1 ++ [.lst []]) ∧ (∃ xs, get (M1 ++ [.lst []]) = some xs ∧ xs.length = len) ∧ (∀ j acc M, j ≤ len → acc.length ≤ j → M[M1.length]? = some (.lst acc) → Inv M1.length j acc M → ∃ xs, get M = some xs ∧ xs.length = len ∧ ∀ d, xs[j]? = some d → ∃ ρ1, g d (wipeD ρ vs) = some ρ1 ∧ Ok (t ρ1 M) fun b M2 =>
      if b = true then Ok (el ρ1 M2) fun y M3 => M3[M1.length]? = some (.lst acc) ∧ Inv M1.length (j + 1) (acc ++ [y]) (M3.set M1.length (.lst (acc ++ [y]))) else M2[M1.length]? = some (.lst acc) ∧ Inv M1.length (j + 1) acc M2) ∧
      ∀ acc M', M'[M1.length]? = some (.lst acc) → Inv M1.length len acc M' → Q (.ref M1.length) M') : Ok (eLc src vs g t el ρ M) Q := by
  unfold eLc
  rw [ok_bind]
  refine h0.mono fun get M1 ⟨a, ⟨xs, b1, b2⟩, c, dn⟩ => ?_
  rw [b1]
  simp only
  obtain ⟨acc, M', e1, e2, e3⟩ := ok_lcN (t := t) (el := el) len hlen (Inv M1.length) c (xs.length + 1) 0 [] (M1 ++ [.lst []]) (Nat.zero_le _) (by omega) (Nat.le_refl _) push_last a
  rw [e1]
  exact ⟨.ref M1.length, M', rfl, dn acc M' e2 e3⟩
/-- .. whose parts change nothing -/
theorem lc_plain {src : EvI} {vs : List Nat} {g : D → Loc → Option Loc} {t : EvB} {el : Ev} {ρ : Loc} {M M1 : Mem} {get : Src} (xs : List D) (tb : D → Bool) (ed : D → D) (hs : src ρ M = some (get, M1)) (hl : xs.length ≤ sizeLine) (hg : ∀ acc, get (M1 ++ [.lst acc]) = some xs)
    (h : ∀ d ∈ xs, ∃ ρ1, g d (wipeD ρ vs) = some ρ1 ∧ ∀ acc, t ρ1 (M1 ++ [.lst acc]) = some (tb d, M1 ++ [.lst acc]) ∧ (tb d = true → el ρ1 (M1 ++ [.lst acc]) = some (ed d, M1 ++ [.lst acc]))) :
    eLc src vs g t el ρ M = some (.ref M1.length, M1 ++ [.lst ((xs.filter tb).map ed)]) := by
  have key : Ok (eLc src vs g t el ρ M) fun d M' => d = .ref M1.length ∧ M' = M1 ++ [.lst ((xs.filter tb).map ed)] := by
    refine ok_lc xs.length hl (fun _ j acc M' => M' = M1 ++ [.lst acc] ∧ acc = ((xs.take j).filter tb).map ed) ?_
    rw [hs]
    refine ok_some.mpr ⟨⟨rfl, rfl⟩, ⟨xs, hg [], rfl⟩, ?_, ?_⟩
    · rintro j acc _ hj _ _ ⟨rfl, ha⟩
      refine ⟨xs, hg acc, rfl, fun d hd => ?_⟩
      obtain ⟨ρ1, g1, h1⟩ := h d (List.mem_of_getElem? hd)
      obtain ⟨h2, h3⟩ := h1 acc
      have ht : xs.take (j + 1) = xs.take j ++ [d] := by rw [List.take_add_one, hd]; rfl
      refine ⟨ρ1, g1, ?_⟩
      rw [h2]
      refine ok_some.mpr ?_
      cases hb : tb d with
      | true =>
        rw [if_pos rfl, h3 hb]
        refine ok_some.mpr ⟨push_last, ?_, ?_⟩
        · rw [List.set_append_right _ _ (Nat.le_refl _), Nat.sub_self]; rfl
        · rw [ht, List.filter_append, List.map_append, ← ha]
          simp [hb]
      | false =>
        rw [if_neg (by decide)]
        refine ⟨push_last, rfl, ?_⟩
        rw [ht, List.filter_append, List.map_append, ← ha]
        simp [hb]
    · rintro acc _ _ ⟨rfl, ha⟩
      rw [List.take_length] at ha
      exact ⟨rfl, by rw [ha]⟩
  obtain ⟨d, M', e, rfl, rfl⟩ := key
  exact e
/-! plain data -/
/-- reads as p, whatever the memory, with so much fuel -/
def Reads0 (n : Nat) (d : D) (p : PyData) : Prop := ∀ (M : Mem) (f : Nat), n ≤ f → toPy M f d = some p
def ReadsL (n : Nat) : List D → List PyData → Prop
  | [], [] => True
  | d :: ds, p :: ps => Reads0 n d p ∧ ReadsL n ds ps
  | _, _ => False
theorem r0_non : Reads0 1 .non .none := fun M f h => by cases f with | zero => omega | succ f => rfl
theorem r0_bl {b : Bool} : Reads0 1 (.bl b) (.bool b) := fun M f h => by cases f with | zero => omega | succ f => rfl
theorem r0_int {b : Int} : Reads0 1 (.int b) (.int b) := fun M f h => by cases f with | zero => omega | succ f => rfl
theorem r0_str {b : Str} : Reads0 1 (.str b) (.str b) := fun M f h => by cases f with | zero => omega | succ f => rfl
theorem Reads0.up {n m : Nat} {d : D} {p : PyData} (h : Reads0 n d p) (hm : n ≤ m) : Reads0 m d p := fun M f hf => h M f (by omega)
theorem ReadsL.up {n m : Nat} (hm : n ≤ m) : ∀ {ds : List D} {ps : List PyData}, ReadsL n ds ps → ReadsL m ds ps
  | [], [], _ => trivial
  | _ :: _, _ :: _, h => ⟨h.1.up hm, ReadsL.up hm h.2⟩
  | [], _ :: _, h => h.elim
  | _ :: _, [], h => h.elim
theorem rl_toPys {n : Nat} {M : Mem} : ∀ {ds : List D} {ps : List PyData} (f : Nat), ReadsL n ds ps → n + ds.length + 1 ≤ f → toPys M f ds = some ps
  | [], [], f, _, h => by cases f with | zero => omega | succ f => rfl
  | d :: ds, p :: ps, f, r, h => by
    cases f with
    | zero => omega
    | succ f =>
      rw [List.length_cons] at h
      show (match toPy M f d with
        | some d => (toPys M f ds).map (d :: ·)
        | none => none) = some (p :: ps)
      rw [r.1 M f (by omega), rl_toPys f r.2 (by omega)]
      rfl
  | [], _ :: _, _, h, _ => h.elim
  | _ :: _, [], _, h, _ => h.elim
theorem r0_tup {n : Nat} {ds : List D} {ps : List PyData} (h : ReadsL n ds ps) : Reads0 (n + ds.length + 2) (.tup ds) (.tuple ps) := fun M f hf => by
  cases f with
  | zero => omega
  | succ f =>
    show (toPys M f ds).map PyData.tuple = some (.tuple ps)
    rw [rl_toPys f h (by omega)]
    rfl
theorem rl_map {α : Type} {n : Nat} {f : α → D} {g : α → PyData} : ∀ {l : List α}, (∀ a ∈ l, Reads0 n (f a) (g a)) → ReadsL n (l.map f) (l.map g)
  | [], _ => trivial
  | a :: l, h => ⟨h a List.mem_cons_self, rl_map fun b hb => h b (List.mem_cons_of_mem _ hb)⟩
theorem eq_plain {n m : Nat} {M : Mem} {x y : D} {p q : PyData} (hx : Reads0 n x p) (hy : Reads0 m y q) (hn : n ≤ 100000) (hm : m ≤ 100000) (h1 : SeqAt.shaped p = true) (h2 : SeqAt.shaped q = true) : eqD M x y = some (PyData.eqv p q) := by
  unfold eqD
  rw [hx M _ hn, hy M _ hm]
  exact if_pos ⟨h1, h2⟩
/-! data that can be shown and told apart -/
structure Fine (w dp : Nat) (p : PyData) : Prop where
  lay : p.canLay0 = true
  deep : p.depth ≤ dp
  size : p.weight ≤ w
  show_ : p.showable = true
  short : p.intsShort 13 = true
structure FineL (w dp : Nat) (ps : List PyData) : Prop where
  lay : PyData.canLayAll0 ps = true
  deep : PyData.depthAll ps ≤ dp
  size : PyData.weightAll ps ≤ w
  show_ : PyData.showableAll ps = true
  short : PyData.intsShortAll 13 ps = true
theorem FineL.nil {w dp : Nat} : FineL w dp [] := ⟨by simp [PyData.canLayAll0], by simp [PyData.depthAll], by simp [PyData.weightAll], by simp [PyData.showableAll], by simp [PyData.intsShortAll]⟩
theorem FineL.cons {w dp v : Nat} {p : PyData} {ps : List PyData} (a : Fine w dp p) (b : FineL v dp ps) : FineL (w + 1 + v) dp (p :: ps) :=
  ⟨by simp [PyData.canLayAll0, a.lay, b.lay], by simp only [PyData.depthAll]; exact Nat.max_le.mpr ⟨a.deep, b.deep⟩, by simp only [PyData.weightAll]; have := a.size; have := b.size; omega, by simp [PyData.showableAll, a.show_, b.show_], by simp [PyData.intsShortAll, a.short, b.short]⟩
theorem Fine.tup {w dp : Nat} {ps : List PyData} (a : FineL w dp ps) : Fine w (dp + 1) (.tuple ps) :=
  ⟨by simpa [PyData.canLay0] using a.lay, by simp only [PyData.depth]; have := a.deep; omega, by simp only [PyData.weight]; exact a.size, by simpa [PyData.showable] using a.show_, by simpa [PyData.intsShort] using a.short⟩
theorem Fine.up {w dp w' dp' : Nat} {p : PyData} (a : Fine w dp p) (h1 : w ≤ w') (h2 : dp ≤ dp') : Fine w' dp' p := ⟨a.lay, Nat.le_trans a.deep h2, Nat.le_trans a.size h1, a.show_, a.short⟩
theorem FineL.map {α : Type} {w dp : Nat} {g : α → PyData} : ∀ {l : List α}, (∀ a ∈ l, Fine w dp (g a)) → FineL ((w + 1) * l.length) dp (l.map g)
  | [], _ => FineL.nil
  | a :: l, h => by
    have z := FineL.cons (h a List.mem_cons_self) (FineL.map (l := l) fun b hb => h b (List.mem_cons_of_mem _ hb))
    have e : w + 1 + (w + 1) * l.length = (w + 1) * (a :: l).length := by rw [List.length_cons, Nat.mul_add, Nat.mul_one, Nat.add_comm]
    rw [← e]
    exact z
theorem Fine.bl {b : Bool} : Fine 0 0 (.bool b) := ⟨by simp [PyData.canLay0], by simp [PyData.depth], by simp [PyData.weight], by simp [PyData.showable], by simp [PyData.intsShort]⟩
theorem Fine.non : Fine 0 0 .none := ⟨by simp [PyData.canLay0], by simp [PyData.depth], by simp [PyData.weight], by simp [PyData.showable], by simp [PyData.intsShort]⟩
theorem Fine.shaped {w dp : Nat} {p : PyData} (a : Fine w dp p) (h : dp ≤ 64) : SeqAt.shaped p = true := by
  unfold SeqAt.shaped
  rw [a.lay, Bool.true_and, decide_eq_true_eq]
  have := a.deep
  omega
theorem Fine.can {w dp : Nat} {p : PyData} (a : Fine w dp p) (h : dp ≤ 64) (h2 : w ≤ 2 ^ 20) : canShow p = true := by
  have hl : PyData.layable0 p = true := by
    unfold PyData.layable0
    rw [a.lay, Bool.true_and, Bool.and_eq_true, decide_eq_true_eq, decide_eq_true_eq]
    exact ⟨Nat.le_trans a.deep h, Nat.le_trans a.size h2⟩
  have z := shown_le13 hl a.short
  unfold canShow
  rw [a.lay, a.show_, sizeLine_eq]
  have := a.deep
  simp only [Bool.true_and, Bool.and_true, Bool.and_eq_true, decide_eq_true_eq]
  exact ⟨by omega, by omega⟩
theorem repr_plain {n w dp : Nat} {M : Mem} {x : D} {p : PyData} (hx : Reads0 n x p) (hn : n ≤ 100000) (a : Fine w dp p) (h : dp ≤ 64) (h2 : w ≤ 2 ^ 20) : fRepr [x] M = some (.str p.shown, M) := by
  unfold fRepr
  simp only [hx M _ hn, a.can h h2, if_true]
end Mi
set_option Elab.async false
set_option linter.all false
set_option maxRecDepth 100000
/-! rows of a book of names -/
namespace Mi
open PySem PySem.Spec PyProof.Rows L2
abbrev Row := Str × List Int
def pidD (p : List Int) : D := .tup [.str "pid", .tup (p.map .int)]
def pidP (p : List Int) : PyData := .tuple [.str "pid", .tuple (p.map .int)]
def rowD (r : Row) : D := .tup [.str r.1, pidD r.2]
def rowP (r : Row) : PyData := .tuple [.str r.1, pidP r.2]
abbrev names4 : List Str := ["srv", "box", "EXIT", "a1"]
abbrev names5 : List Str := ["srv", "box", "EXIT", "a1", "undefined"]
abbrev pids3 : List (List Int) := [[], [1], [3, 1]]
def allRows : List Row := names4.flatMap fun n => pids3.map fun p => (n, p)
def rank (n : Str) : Nat := (["EXIT", "a1", "box", "srv"] : List Str).idxOf n
def nle (a b : Row) : Bool := decide (rank a.1 ≤ rank b.1)
theorem all_rows {n : Str} {p : List Int} (hn : n ∈ names4) (hp : p ∈ pids3) : (n, p) ∈ allRows := List.mem_flatMap.mpr ⟨n, hn, List.mem_map.mpr ⟨p, hp, rfl⟩⟩
theorem row_name {r : Row} (h : r ∈ allRows) : r.1 ∈ names4 := by
  obtain ⟨n, hn, h⟩ := List.mem_flatMap.mp h
  obtain ⟨p, hp, rfl⟩ := List.mem_map.mp h
  exact hn
theorem row_pid {r : Row} (h : r ∈ allRows) : r.2 ∈ pids3 := by
  obtain ⟨n, hn, h⟩ := List.mem_flatMap.mp h
  obtain ⟨p, hp, rfl⟩ := List.mem_map.mp h
  exact hp
theorem eqv_pid : ∀ p ∈ pids3, ∀ q ∈ pids3, PyData.eqv (pidP p) (pidP q) = decide (p = q) := by decide +kernel
theorem eqv_name : ∀ p ∈ names5, ∀ q ∈ names5, PyData.eqv (.str p) (.str q) = decide (p = q) := by decide +kernel
theorem rank_inj : ∀ p ∈ names4, ∀ q ∈ names4, rank p = rank q → p = q := by decide +kernel
theorem rows_alike : ∀ a ∈ allRows, ∀ b ∈ allRows, PySem.W.alike (rowP a) (rowP b) = true := by decide +kernel
theorem rows_le : ∀ a ∈ allRows, ∀ b ∈ allRows, (a.1 ≠ b.1 ∨ a = b) → PySem.W.dataLe false (fun x : PyData => x) (rowP a) (rowP b) = nle a b := by decide +kernel
theorem pid_fine' : ∀ p ∈ pids3, (pidP p).canLay0 = true ∧ (pidP p).depth ≤ 2 ∧ (pidP p).weight ≤ 40 ∧ (pidP p).showable = true ∧ (pidP p).intsShort 13 = true := by decide +kernel
theorem name_fine' : ∀ p ∈ names5, (PyData.str p).canLay0 = true ∧ (PyData.str p).depth ≤ 0 ∧ (PyData.str p).weight ≤ 20 ∧ (PyData.str p).showable = true ∧ (PyData.str p).intsShort 13 = true := by decide +kernel
theorem pid_fine {p : List Int} (h : p ∈ pids3) : Fine 40 2 (pidP p) := let ⟨a, b, c, d, e⟩ := pid_fine' p h; ⟨a, b, c, d, e⟩
theorem name_fine {p : Str} (h : p ∈ names5) : Fine 20 0 (.str p) := let ⟨a, b, c, d, e⟩ := name_fine' p h; ⟨a, b, c, d, e⟩
theorem n5 {n : Str} (h : n ∈ names4) : n ∈ names5 := by
  show n ∈ names4 ++ (["undefined"] : List Str)
  exact List.mem_append_left _ h
theorem r0_two {n : Nat} {a b : D} {p q : PyData} (x : Reads0 n a p) (y : Reads0 n b q) : Reads0 (n + 4) (.tup [a, b]) (.tuple [p, q]) := r0_tup (ds := [a, b]) (ps := [p, q]) ⟨x, y, trivial⟩
theorem row_fine {r : Row} (h : r ∈ allRows) : Fine 80 3 (rowP r) := (Fine.tup (.cons ((name_fine (n5 (row_name h))).up (Nat.le_refl _) (by decide)) (.cons (pid_fine (row_pid h)) (.nil (w := 0))))).up (by decide) (by decide)
theorem pid_reads {p : List Int} (h : p ∈ pids3) : Reads0 20 (pidD p) (pidP p) := by
  have hl : p.length ≤ 2 := by
    simp only [pids3, List.mem_cons, List.not_mem_nil, or_false] at h
    rcases h with rfl | rfl | rfl <;> decide
  have h1 : Reads0 (1 + (p.map Mi.D.int).length + 2) (.tup (p.map .int)) (.tuple (p.map .int)) := r0_tup (rl_map fun _ _ => r0_int)
  rw [List.length_map] at h1
  exact (r0_two (n := 5) (r0_str.up (by decide)) (h1.up (by omega))).up (by decide)
theorem row_reads {r : Row} (h : r ∈ allRows) : Reads0 30 (rowD r) (rowP r) := (r0_two (n := 20) (r0_str.up (by decide)) (pid_reads (row_pid h))).up (by decide)
theorem rows_reads {l : List Row} (h : ∀ r ∈ l, r ∈ allRows) (hl : l.length ≤ 100) : Reads0 200 (.tup (l.map rowD)) (.tuple (l.map rowP)) := by
  have := r0_tup (rl_map (f := rowD) (g := rowP) (l := l) fun r hr => row_reads (h r hr))
  rw [List.length_map] at this
  exact this.up (by omega)
/-- sorted by names -/
def srt (l : List Row) : List Row := l.mergeSort nle
theorem srt_perm (l : List Row) : (srt l).Perm l := List.mergeSort_perm _ _
theorem srt_sorted (l : List Row) : (srt l).Pairwise fun a b => nle a b = true := List.pairwise_mergeSort (fun a b c h1 h2 => by
  unfold nle at *
  simp only [decide_eq_true_eq] at *
  omega) (fun a b => by
  unfold nle
  simp only [Bool.or_eq_true, decide_eq_true_eq]
  omega) l
/-- each name once, all of the told names and processes -/
structure Own (l : List Row) : Prop where
  ok : ∀ r ∈ l, r ∈ allRows
  nd : (l.map (·.1)).Nodup
theorem own_inj {l : List Row} (h : (l.map (·.1)).Nodup) : ∀ a ∈ l, ∀ b ∈ l, a.1 = b.1 → a = b := by
  induction l with
  | nil => intro a ha; cases ha
  | cons r l ih =>
    rw [List.map_cons, List.nodup_cons] at h
    intro a ha b hb e
    rcases List.mem_cons.mp ha with ea | ha1
    · rcases List.mem_cons.mp hb with eb | hb1
      · rw [ea, eb]
      · exact absurd (List.mem_map.mpr ⟨b, hb1, by rw [← e, ea]⟩) h.1
    · rcases List.mem_cons.mp hb with eb | hb1
      · exact absurd (List.mem_map.mpr ⟨a, ha1, by rw [e, eb]⟩) h.1
      · exact ih h.2 a ha1 b hb1 e
theorem Own.inj {l : List Row} (h : Own l) : ∀ a ∈ l, ∀ b ∈ l, a.1 = b.1 → a = b := own_inj h.nd
theorem Own.perm {l l' : List Row} (h : Own l) (p : l'.Perm l) : Own l' := ⟨fun r hr => h.ok r (p.mem_iff.mp hr), (p.map _).nodup_iff.mpr h.nd⟩
theorem Own.sub {l l' : List Row} (h : Own l) (p : l'.Sublist l) : Own l' := ⟨fun r hr => h.ok r (p.subset hr), (p.map _).nodup h.nd⟩
theorem srt_unique {l o : List Row} (h : Own o) (p : l.Perm o) (s : l.Pairwise fun a b => nle a b = true) : l = srt o := by
  refine List.Perm.eq_of_pairwise (le := fun a b => nle a b = true) (fun a b ha hb h1 h2 => ?_) s (srt_sorted o) (p.trans (srt_perm o).symm)
  have ha' := p.mem_iff.mp ha
  have hb' := (srt_perm o).mem_iff.mp hb
  refine h.inj a ha' b hb' (rank_inj _ (row_name (h.ok a ha')) _ (row_name (h.ok b hb')) ?_)
  unfold nle at h1 h2
  simp only [decide_eq_true_eq] at h1 h2
  omega
theorem rows_fine {l : List Row} (h : ∀ r ∈ l, r ∈ allRows) (hl : l.length ≤ 100) : Fine 9000 4 (.tuple (l.map rowP)) := (Fine.tup (FineL.map fun r hr => row_fine (h r hr))).up (by have := Nat.mul_le_mul_left 81 hl; omega) (by decide)

theorem okSort_rows {l : List Row} (h : ∀ r ∈ l, r ∈ allRows) : okSort (l.map rowP) = true := by
  unfold okSort alikeB sortableB
  simp only [Bool.and_eq_true, Bool.or_eq_true, List.all_eq_true, List.mem_map, decide_eq_true_eq]
  refine ⟨⟨?_, .inl ?_⟩, ?_⟩
  · rintro _ ⟨a, ha, rfl⟩ _ ⟨b, hb, rfl⟩
    exact rows_alike a (h a ha) b (h b hb)
  · rintro _ ⟨a, ha, rfl⟩
    rfl
  · rintro _ ⟨a, ha, rfl⟩
    exact Nat.le_trans (row_fine (h a ha)).deep (by decide)
theorem rows_le' {l : List Row} (h : Own l) : ∀ a ∈ l, ∀ b ∈ l, nle a b = PySem.W.dataLe false (fun x : PyData => x) (rowP a) (rowP b) := fun a ha b hb => by
  refine (rows_le a (h.ok a ha) b (h.ok b hb) ?_).symm
  by_cases e : a.1 = b.1
  · exact .inr (h.inj a ha b hb e)
  · exact .inl e
/-- a dict of names -/
def ownKv (o : List Row) : List (Key × D) := o.map fun r => (.inr r.1, pidD r.2)
theorem sorted_items {who : Ev} {ρ : Loc} {M M1 : Mem} {n : Nat} {o : List Row} (e : who ρ M = some (.ref n, M1)) (q : M1[n]? = some (.dK (ownKv o))) (h : Own o) (hl : o.length ≤ 100) : e_sortedItems who ρ M = some (.ref M1.length, M1 ++ [.lst ((srt o).map rowD)]) := by
  unfold e_sortedItems
  rw [e]
  have ep : toPys M1 fuelD ((ownKv o).map fVal) = some (o.map fun r => pidP r.2) := by
    have e1 : (ownKv o).map fVal = o.map fun r => pidD r.2 := by unfold ownKv; rw [List.map_map]; rfl
    rw [e1]
    exact rl_toPys (n := 20) _ (rl_map fun r hr => pid_reads (row_pid (h.ok r hr))) (by rw [List.length_map]; show 20 + o.length + 1 ≤ 100000; omega)
  have ez : (ownKv o).zip (o.map fun r => pidP r.2) = o.map fun r : Row => (((Sum.inr r.1 : Key), pidD r.2), pidP r.2) := zip_maps _ _ _
  have er : (o.map fun r : Row => (((Sum.inr r.1 : Key), pidD r.2), pidP r.2)).map pairP = o.map rowP := by rw [List.map_map]; rfl
  show (match M1[n]? with
    | some (.dK kvs) => match toPys M1 fuelD (kvs.map fVal) with
      | some ps => if okSort ((kvs.zip ps).map pairP) = true then some (Mi.D.ref M1.length, M1 ++ [MO.lst (((kvs.zip ps).mergeSort (PySem.W.dataLe false pairP)).map fun b => fItem b.1)]) else none
      | none => none
    | _ => none) = (some (Mi.D.ref M1.length, M1 ++ [MO.lst ((srt o).map rowD)]) : R D)
  rw [q]
  simp only
  rw [ep]
  simp only
  rw [ez, er, if_pos (okSort_rows h.ok), ← List.map_mergeSort (r := nle) (s := PySem.W.dataLe false pairP) (f := fun r : Row => (((Sum.inr r.1 : Key), pidD r.2), pidP r.2)) (l := o) (rows_le' h), List.map_map]
  rfl
theorem sort_rows {M : Mem} {n : Nat} {l : List Row} (q : lstAt M n = some (l.map rowD)) (h : Own l) (hl : l.length ≤ 100) : fSort [.ref n] M = some (.ref M.length, M ++ [.lst ((srt l).map rowD)]) := by
  unfold fSort
  simp only [q]
  have ep : toPys M fuelD (l.map rowD) = some (l.map rowP) := rl_toPys (n := 30) _ (rl_map fun r hr => row_reads (h.ok r hr)) (by rw [List.length_map]; show 30 + l.length + 1 ≤ 100000; omega)
  simp only [ep, okSort_rows h.ok, if_true]
  unfold sortD
  rw [zip_maps, ← List.map_mergeSort (r := nle) (s := PySem.W.dataLe false (fun x : D × PyData => x.2)) (f := fun r : Row => (rowD r, rowP r)) (l := l) (rows_le' h), List.map_map]
  rfl
end Mi
set_option Elab.async false
set_option linter.all false
set_option maxRecDepth 100000
set_option maxHeartbeats 2000000
namespace PySem
namespace MiE
open PySem.W PySem.Calls PyProof.Rows PySem.HandSPX
/-! ### the text of __init__ -/
def iA (p1 p2 : Pos) : Arguments := { posonlyargs := [], args := [{ arg := "self", annotation := none, pos := p1 }, { arg := "value", annotation := none, pos := p2 }], vararg := none, kwonlyargs := [], kw_defaults := [], kwarg := none, defaults := [] }
def iB (q1 q2 q3 q4 : Pos) : List Stmt := [.Assign [.Attribute (.Name "self" q1) "value" q2] (.Name "value" q3) q4]
def iS : Scope := { kind := .function, names := [(PySem.Str.ofString "self", .local), (PySem.Str.ofString "value", .local)], isGenerator := false, isCoroutine := false, more := [] }
/-- what the written part says of Low, at C, and of its __init__, at fI -/
structure LowTxt (K : Frag) (mg : Str → Option Value) (xn : Str) (C fI : Addr) : Prop where
  gC : mg xn = some (.ref C)
  cls : ∃ nm q N bs bm sn sub ab col dd k0 k1 k2 k3 k5, K.lookup C = some (excClassObj nm q C N bs bm true sn sub ab col dd k0 k1 k2 k3 k5 "ValueError.__new__") ∧ refsVE bm = true
  sa : findIn K (.ref C) "__setattr__" = some (some (.builtin "object.__setattr__"))
  ga : findIn K (.ref C) "__getattribute__" = some (some (.builtin "BaseException.__getattribute__"))
  gg : findIn K (.ref C) "__getattr__" = some none
  noN : findIn K (.ref C) "value" = some none
  iC : findIn K (.ref C) "__init__" = some (some (.ref fI))
  tC : typeIn K (.ref fI) = some (.type "function")
  kC : keepIn K (.ref C) = true
  exC : subIn K (.ref C) (.type "BaseException") = some true
  tyC : typeIn K (.ref C) = some (.type "type")
  hdC : hasDictIn K C = true
  te : exmOne K (.ref C) (.ref C) = some true
  fn : ∃ (oc : Value) (od : Option Addr) (doc pm : Value) (an : Option Addr) (cdv ct : Value) (osl : Array (Option Value)) (p1 p2 q1 q2 q3 q4 : Pos),
    K.lookup fI = some ⟨oc, od, .func (fnOf "__init__" "MillError.__init__" (iA p1 p2) (iB q1 q2 q3 q4) iS .none .none doc pm an cdv ct), osl⟩ ∧ codeIn K cdv "MillError.__init__" = true
theorem one_size (v : Value) : [v].length ≤ sizeLine := by
  rw [sizeLine_eq]
  exact (by decide : 1 ≤ 16777216)
theorem kept_but {K : Frag} {h h' : Heap} {x : Addr} (X : K.In h) (hx : K.lookup x = none) (k : ∀ b o, b ≠ x → h.get? b = some o → h'.get? b = some o) : K.In h' := fun a o e =>
  k a o (fun z => by rw [z, hx] at e; cases e) (X a o e)
theorem ldC {M : Model} {s : Shared} {name : Str} {scope : Scope} {L a : Addr} {cd : Value} {m : Str → Option Value} {x : Str} {pos : Pos} {v : Value} {Q : Value → Shared → Prop} {A : Around} {E : Value → Shared → Prop} (hn : s.heap.Ns L m) (hv : m x = some v) (h : Q v s)
    (hk : scope.kind = .function := by rfl) (hl : (envOfC name scope L a cd).kindOf x = some .local := by rfl) (hd : (x == ("__debug__" : Str)) = false := by decide) :
    wpAny M A (eval (.Name x pos) (envOfC name scope L a cd)) Q E s := wpAny_Name (wpAny_loadName_local hk hl hn hv h) hd
/-- what __init__ leaves of a fresh exception at x -/
structure InitEnd (h h' : Heap) (x C dx t1 : Addr) (v : Value) : Prop where
  keep : ∀ b o, b ≠ x → h.get? b = some o → h'.get? b = some o
  obj : h'.get? x = some { cls := .ref C, dict := some dx, data := .fields #[.ref t1, .none, .none, .none, .bool false, .none] }
  dbig : h.objs.size ≤ dx
  dne : dx ≠ x
  ns : h'.Ns1 dx (fun y => if y = "value" then some v else none)
/-- a made Low -/
structure OwnMade (h h' : Heap) (e C d : Addr) (v : Value) : Prop where
  keep : ∀ b o, h.get? b = some o → h'.get? b = some o
  new : h.objs.size ≤ e
  obj : ∃ oe vs, h'.get? e = some oe ∧ oe.cls = .ref C ∧ oe.dict = some d ∧ oe.data = .fields vs ∧ vs[1]? = some .none
  dbig : h.objs.size ≤ d
  dne : d ≠ e
  ns : h'.Ns1 d (fun y => if y = "value" then some v else none)
section
variable {prog : Program} {w : World} {A : Around} {E : Value → Shared → Prop} {R : Result → Shared → Prop} {s : Shared} {K : Frag} {mg : Str → Option Value} {xn : Str} {C fI : Addr}
theorem low_init (T : LowTxt K mg xn C fI) {x t0 : Addr} {v : Value} (X : K.In s.heap) (hlim : s.heap.NoLimit) (hx : s.heap.get? x = some (excO C t0)) (hnx : K.lookup x = none) (hroom : A.depth < recursionLimit)
    (hq : ∀ h' tk dx, InitEnd s.heap h' x C dx t0 v → R (.ok (.ret .none)) { s with heap := h', toks := tk }) :
    codeAny (model prog w) A (.call (.ref fI) ⟨[.ref x, v], []⟩) R s := by
  obtain ⟨oc, od, doc, pm, an, cdv, ct, osl, p1, p2, q1, q2, q3, q4, ho, hcd⟩ := T.fn
  obtain ⟨nm, q, N, bs, bm, sn, sub, ab, col, dd, k0, k1, k2, k3, k5, hC, hbm⟩ := T.cls
  have hcl : clsIn K C = some { name := nm, bases := bs, mro := .ref C :: bm, ns := N, qualname := q, hasDict := true, slotNames := sn, subclasses := sub, abstract := ab, collection := col, hasDel := false } := by unfold clsIn; rw [hC] <;> rfl
  refine Att.call_fn (binds := [("self", .ref x), ("value", v)]) X hlim ho hcd hroom (BindsTo.of_eq (by first | rfl | with_unfolding_all rfl)) (by first | rfl | decide | with_unfolding_all rfl) (fun s₁ IC => ?_) rfl rfl rfl
  obtain ⟨h₁, tk₁, rfl⟩ := IC.toInCall.same
  have k : ∀ b o, s.heap.get? b = some o → h₁.get? b = some o := IC.toInCall.keep
  have hn := IC.toInCall.ns
  have hxL : s.heap.objs.size ≠ x := Nat.ne_of_gt (Heap.lt_size hx)
  have X₁ : K.In h₁ := X.keeps k
  have hx₁ := k _ _ hx
  -- self.by = by
  show wpAny _ _ (execs _ _) _ _ _
  refine wpAny_execs_cons (plainObj_wpAny_Assign_Attribute ?_)
  refine ldC (v := v) hn (by first | rfl | with_unfolding_all rfl | kernel_rfl) (ldC (v := .ref x) hn (by first | rfl | with_unfolding_all rfl | kernel_rfl) ?_)
  refine set_plain X₁ (ox := excO C t0) (od := none) ⟨hx₁, rfl, rfl, trivial⟩ T.sa ?_
  refine exc_osa X₁ hx₁ hcl (show refsVE (.ref C :: bm) = true from hbm) rfl T.noN (fun h₃ tk₃ dx k₃ dn dne hx₃ hn₃ => ?_)
  show wpAny _ _ (execs _ _) _ _ _
  have z : s.heap.objs.size < h₁.objs.size := hn.lt
  exact wpAny_execs_nil (hq h₃ tk₃ dx ⟨fun b o hb e => k₃ b o hb (k b o e), hx₃, Nat.le_of_lt (Nat.lt_of_lt_of_le z dn), dne, hn₃⟩)
theorem low_made (T : LowTxt K mg xn C fI) {v : Value} (X : K.In s.heap) (hlim : s.heap.NoLimit) (hroom : A.depth + 1 < recursionLimit)
    (hq : ∀ h' tk e d, OwnMade s.heap h' e C d v → R (.ok (.ret (.ref e))) { s with heap := h', toks := tk }) :
    codeAny (model prog w) A (.call (.ref C) ⟨[v], []⟩) R s := by
  obtain ⟨nm, q, N, bs, bm, sn, sub, ab, col, dd, k0, k1, k2, k3, k5, hC, hbm⟩ := T.cls
  obtain ⟨hp, g, dr, tk, os⟩ := s
  have k : ∀ b o, hp.get? b = some o → ((hp.push (kdv_tup [v])).push (excO C hp.objs.size)).get? b = some o := fun b o e => Heap.get?_push_of_some _ (Heap.get?_push_of_some _ e)
  have hget : ((hp.push (kdv_tup [v])).push (excO C hp.objs.size)).get? (hp.objs.size + 1) = some (excO C hp.objs.size) := by heap_get
  have hnx : K.lookup (hp.objs.size + 1) = none := by
    cases e : K.lookup (hp.objs.size + 1) with
    | none => rfl
    | some o =>
      have z : hp.get? (hp.objs.size + 1) = some o := X _ _ e
      exact absurd (Nat.lt_of_succ_lt (Heap.lt_size z)) (Nat.lt_irrefl _)
  refine call_own F.excBase_ValueError (fun X => refsVE_contains X bm hbm) (X _ _ hC) (looks_findIn X T.iC) (fun self => bind_fn X self T.tC) (one_size v) ?_
  refine low_init (s := ⟨(hp.push (kdv_tup [v])).push (excO C hp.objs.size), g, dr, tk, os⟩) T (X.keeps k) (hlim.keeps k) hget hnx ?_ fun h' tk' dx ⟨k', hx, dn, dne, hns⟩ => ?_
  · show A.depth + 1 < recursionLimit
    exact hroom
  · have old : ∀ b o, hp.get? b = some o → h'.get? b = some o := fun b o e => k' b o (Nat.ne_of_lt (Nat.lt_succ_of_lt (Heap.lt_size e))) (k b o e)
    have z : hp.objs.size + 1 + 1 ≤ dx := by
      first
        | (simpa only [Heap.size_push] using dn)
        | exact dn
        | (have q := dn; rw [Heap.size_push, Heap.size_push] at q; exact q)
    exact ⟨rfl, hq h' tk' (hp.objs.size + 1) dx ⟨old, Nat.le_succ _, ⟨_, _, hx, rfl, rfl, rfl, rfl⟩, Nat.le_trans (Nat.le_trans (Nat.le_succ _) (Nat.le_succ _)) z, dne, hns⟩⟩
end
end MiE
end PySem
namespace L2
open PySem PySem.Spec PyProof.Rows
theorem relO_low {v : V} {v' : Value} (r : RelV v v') (f : Str) : RelO (List.lookup f [(("value" : Str), v)]) (if f = "value" then some v' else none) := by
  by_cases hw : f = "value"
  · subst hw
    rw [if_pos rfl]
    have q : List.lookup ("value" : Str) [(("value" : Str), v)] = some v := by simp [List.lookup]
    rw [q]
    exact r
  · rw [if_neg hw]
    have qw : (f == ("value" : Str)) = false := by simpa using hw
    have q2 : List.lookup f [(("value" : Str), v)] = none := by simp [List.lookup, qw]
    rw [q2]
    trivial
section
variable {X : Cx} {xn : Str} {C fI : Addr}
/-- Low(e) -/
def tMkLow (C : Addr) (ta : TA) : St → Hp → XK → Prop := fun σ H Q => ta σ H fun vs H1 => ∃ v, vs = [v] ∧ ∀ d, H1 d = none → Q (.ref C) (some d) (upd H1 d (.xd [(("value" : Str), v)]))
theorem pmk_low {a : Expr} {ta : TA} {p pos : Pos} {k : Nat} (T : PySem.MiE.LowTxt X.K X.mg xn C fI) (hr : Room k X.A) (ha : PA X [a] ta) (hg : Gl X xn := by rfl) (hdb : (xn == ("__debug__" : Str)) = false := by decide)
    (he : starEach (a :: []) X.env = (false, eval a X.env) :: starEach [] X.env := by rfl) (hpl : (backTo pos (starEach [] X.env)).any (·.1) = false := by rfl) :
    PMk X (.Call (.Name xn p) [a] [] pos) (tMkLow C ta) := by
  intro pins s σ H Q I h
  refine wpAny_Call_Name_kw (ld_glob I hg T.gC ?_ hdb)
  refine PySem.W.callWith_K (h₀ := X.base) I.ok.mod.kin T.kC (thn (ha.run pos pins s σ H _ I h) fun us s1 hh => ?_) he hpl
  obtain ⟨vs, H1, I1, r1, v, ev, q1⟩ := hh
  subst ev
  refine ⟨I1.kIn, ?_⟩
  cases r1 with
  | cons rv rn =>
    rename_i v' us'
    cases rn
    show wpAny _ _ (call (.ref C) [v']) _ _ _
    have hlim := I1.nolimit
    obtain ⟨hp, g, dr, tk, os⟩ := s1
    refine wpAny_call (PySem.MiE.low_made T I1.kIn hlim (by have := hr.dp; omega) fun h' tk' e d M => ?_)
    show MkP X pins σ Q (.ref e) ⟨h', g, dr, tk', os⟩
    obtain ⟨oe, fv, hoe, hc, hd, hdat, h1⟩ := M.obj
    have hns := M.ns
    obtain ⟨G', g1, g2⟩ := restrict h' fun b => decide (b ≠ e)
    have gk : ∀ b, b ≠ e → G'.get? b = h'.get? b := fun b hb => g1 b (decide_eq_true hb)
    have ge : G'.get? e = none := g2 e (by simp)
    have old : ∀ b o, hp.get? b = some o → G'.get? b = some o := fun b o q => (gk b (Nat.ne_of_lt (Nat.lt_of_lt_of_le (Heap.lt_size q) M.new))).trans (M.keep b o q)
    have ob : ObjOk X.prog X.w (upd H1 d (.xd [(("value" : Str), v)])) G' d (.xd [(("value" : Str), v)]) :=
      ⟨_, hns.at (fun o q => (gk d M.dne).trans q), fun f => relO_low rv f⟩
    have J : Inv X pins σ (upd H1 d (.xd [(("value" : Str), v)])) ⟨G', g, dr, tk', os⟩ := I1.laid (t' := tk') old M.dbig ob
    refine ⟨e, oe, fv, ⟨G', g, dr, tk', os⟩, _, .ref C, some d, rfl, J, fun b o q => ?_, ge, hoe, ⟨hc, hd⟩, hdat, h1, ?_, rfl, I1.bare, raises_own T.exC T.tyC, q1 d (I1.hok.fresh M.dbig)⟩
    · by_cases hb : b = e
      · have q' : G'.get? b = some o := q
        rw [hb, ge] at q'; cases q'
      · exact (gk b hb).symm.trans q
    · rw [upd_ne (Ne.symm M.dne)]
      exact I1.hok.fresh M.new
/-- raise Low(e) -/
def tRaiseLow (C : Addr) (W : WX) (ta : TA) : TS := fun _ σ H => tMkLow C ta σ H fun cls d H' => W cls d σ H'
theorem ps_raiseLow {a : Expr} {ta : TA} {W : WX} {p pos pos2 : Pos} {k : Nat} (hc : X.calm = true) (T : PySem.MiE.LowTxt X.K X.mg xn C fI) (hr : Room k X.A) (tk : Takes X W) (ha : PA X [a] ta) (hg : Gl X xn := by rfl) (hdb : (xn == ("__debug__" : Str)) = false := by decide)
    (he : starEach (a :: []) X.env = (false, eval a X.env) :: starEach [] X.env := by rfl) (hpl : (backTo pos (starEach [] X.env)).any (·.1) = false := by rfl) :
    PS X (.Raise (some (.Call (.Name xn p) [a] [] pos)) none pos2) (tRaiseLow C W ta) := ps_raise hc tk (pmk_low T hr ha hg hdb he hpl)
/-- low.by, low the exception that the suite holds (at a; its class cls, its dict d) -/
def tByLow (C : Addr) (a : Addr) (cls : Value) (d : Option Addr) (te : TE) : TE := fun σ H Q => te σ H fun x H1 => x = .ref a ∧ cls = .ref C ∧ ∃ (dd : Addr) (v : V), d = some dd ∧ H1 dd = some (.xd [(("value" : Str), v)]) ∧ Q v H1
theorem pe_byLow {a : Addr} {oe : Obj} {cls : Value} {d : Option Addr} {pn : List (Addr × Obj)} {e : Expr} {te : TE} {pos : Pos} (T : PySem.MiE.LowTxt X.K X.mg xn C fI) (hz : Zc cls d oe) (hf : ∃ vs, oe.data = .fields vs) (he : PE (X.suite a ((a, oe) :: pn)) e te)
    (hb : attributeBase e "value" X.env (eval e X.env) = eval e X.env := by rfl) :
    PE (X.suite a ((a, oe) :: pn)) (.Attribute e "value" pos) (tByLow C a cls d te) := by
  refine ⟨fun pins s σ H Q I h => ?_⟩
  refine attr_of hb (thn (he.run pins s σ H _ I h) fun u s1 hh => ?_)
  obtain ⟨x, H1, I1, rx, ex, ec, dd, v, ed, ea, q⟩ := hh
  subst ex
  obtain rfl : u = Value.ref a := rx
  subst ec
  subst ed
  obtain ⟨ha, _⟩ := I1.pin (a, oe) (List.mem_append_left _ List.mem_cons_self)
  obtain ⟨vs, hd⟩ := hf
  have hx : ObjOk X.prog X.w H1 s1.heap dd (.xd [(("value" : Str), v)]) := I1.hok dd _ ea
  obtain ⟨mA, hns, hr⟩ := hx
  obtain ⟨od, ho, hl⟩ := lookIn_ns hns
  have l : List.lookup ("value" : Str) [(("value" : Str), v)] = some v := by simp [List.lookup]
  obtain ⟨u, hu, ru⟩ := RelO.some_of (v := v) (o := mA "value") (by rw [← l]; exact hr "value")
  have J : PySem.W.InstAt s1.heap a oe C (some od) := ⟨ha, hz.1, by unfold PySem.W.notCls; rw [hd] <;> rfl, by rw [hz.2]; exact ho⟩
  exact HandSPX.exc_get I1.kIn J T.ga T.gg T.exC (PySem.W.findObj_own T.hdC T.noN rfl (by rw [hl, hu])) (handed_of ru) ⟨v, H1, I1.tok _, ru, q⟩
end
end L2
set_option Elab.async false
set_option linter.all false
set_option maxRecDepth 100000
set_option maxHeartbeats 1000000
/-! defs that may raise: what comes of a call is a worth, or a class (by number) with a value -/
namespace Mi
open PySem PySem.Spec PyProof.Rows L2
abbrev CXe (P : Program) (w : World) : CXT := L2.CX P w
inductive Ro (α : Type) where
  | val (a : α) | exc (c : Nat) (v : D)
abbrev Rx (α : Type) := Option (Ro α × Mem)
def SpX (G : Gm) (n : Nat) (g : List D → Mem → Rx D) : Sp := fun vs H Q E => vs.length = n ∧ ∃ m M ds o M', RDs G H m ds vs ∧ RM G H m M ∧ g ds M = some (o, M') ∧ Fin G m H M' fun m' H' => match o with
  | .val d => ∀ v, RD G H' m' d v → Q v H'
  | .exc c x => ∀ dd w, H' dd = some (.xd [("value", w)]) → RD G H' m' x w → E (.ref (G.fa c)) (some dd) H'
def runX (n : Nat) (ev : Es) : List D → Mem → Rx D := fun ds M => match ev (startD n ds) M with
  | some (.ret d, M1) => some (.val d, M1)
  | some (.next _, M1) => some (.val .non, M1)
  | some (.exc _ c v, M1) => some (.exc c v, M1)
  | _ => none
/-- what does not raise -/
def upX (g : List D → Mem → R D) : List D → Mem → Rx D := fun ds M => match g ds M with
  | some (d, M1) => some (.val d, M1)
  | none => none
/-- where it does not raise -/
def dnX (g : List D → Mem → Rx D) : List D → Mem → R D := fun ds M => match g ds M with
  | some (.val d, M1) => some (d, M1)
  | _ => none
/-- a def keeps its promise wherever no repr is under way; what is raised is told -/
structure FnX (P : Program) (w : World) (K : PySem.W.Frag) (mg : Str → Option Value) (base : Heap) (gd : Bool) (k : Nat) (f : Addr) (fd : FuncData) (ps : List Str) (sp : Sp) : Prop where
  count : ∀ vs H Q E, sp vs H Q E → vs.length = ps.length
  go : ∀ (A : Around) (fr : List Env) (st : Shared) (H : Hp) (ar : Args) (us : List Value) (vs : List V) (Q : VK) (E : XK), Room k A → (gd = true → A.guards = some []) → Env0 P w K mg base A fr st H → BindsTo st fd ar (ps.zip us) → Vals vs us → sp vs H Q E →
    codeAny (model P w) A (.call (.ref f) ar) (CR (CXe P w) fr P w H st Q E) st
section
variable {P : Program} {w : World} {K : PySem.W.Frag} {mg : Str → Option Value} {base : Heap} {f : Addr} {fd : FuncData} {ps N : List Str} {gd : Bool} {k : Nat} {fa : Nat → Addr} {x qual : Str} {pa : Arguments} {bd : List Stmt} {sc : Scope}
theorem fnx_zero {n : Nat} (hn : n = ps.length) : FnX P w K mg base gd k f fd ps (SpX ⟨K, fa⟩ n fun _ _ => none) :=
  ⟨fun vs H Q E h => h.1.trans hn, fun A fr st H ar us vs Q E _ _ _ _ _ h => by obtain ⟨_, m, M, ds, d, M', _, _, e, _⟩ := h; cases e⟩
/-- one that raises nothing -/
theorem fnx_pure {n : Nat} {g : List D → Mem → R D} (F : FnG P w K mg base k f fd ps (SpOf ⟨K, fa⟩ n g)) : FnX P w K mg base true k f fd ps (SpX ⟨K, fa⟩ n (upX g)) := by
  have key : ∀ {vs H Q E}, SpX ⟨K, fa⟩ n (upX g) vs H Q E → ∀ E', SpOf ⟨K, fa⟩ n g vs H Q E' := fun {vs H Q E} h E' => by
    obtain ⟨hl, m, M, ds, o, M', rds, hM, e, fin⟩ := h
    unfold upX at e
    split at e
    · rename_i d M1 q
      cases e
      exact ⟨hl, m, M, ds, d, M', rds, hM, q, fin⟩
    · cases e
  refine ⟨fun vs H Q E h => F.count vs H Q E (key h E), fun A fr st H ar us vs Q E hr hg e0 hb rv h => ?_⟩
  refine codeAny_mono (F.go A fr st H ar us vs Q hr (hg rfl) e0 hb rv (key h _)) fun r s' hq => ?_
  cases r with
  | error z => exact hq.elim
  | ok fl => cases fl <;> exact hq
/-- what asks for no guards does where they are -/
theorem FnX.up {sp : Sp} (F : FnX P w K mg base false k f fd ps sp) : FnX P w K mg base gd k f fd ps sp :=
  ⟨F.count, fun A fr st H ar us vs Q E hr _ e0 hb rv h => F.go A fr st H ar us vs Q E hr (fun z => nomatch z) e0 hb rv h⟩
/-- by its body -/
theorem fnx_body {sp : Sp} (F : FunD K x qual pa bd sc [] [] f fd) (S : FnScope N ps sc) (count : ∀ vs H Q E, sp vs H Q E → vs.length = ps.length)
    (walk : ∀ (cd : Value) (A : Around) (fr : List Env) (st : Shared) (H : Hp) (E : XK), Room k (A.deeper (envOfC qual sc st.heap.objs.size f cd)) → (gd = true → (A.deeper (envOfC qual sc st.heap.objs.size f cd)).guards = some []) →
      ∃ t, PSs (cxOf (CXe P w) P w K mg base N qual sc f cd A fr st H E) bd t ∧ ∀ vs Q, sp vs H Q E → t { nx := fun _ H' => Q .non H', rt := Q } (start N vs) H) : FnX P w K mg base gd (k + 1) f fd ps sp := by
  obtain ⟨oc, od, dV, kV, doc, pm, an, cd, ct, osl, rfl, lk, hcd, _, _⟩ := F.ex
  refine ⟨count, fun A fr st H ar us vs Q E hr hg e0 hb rv hsp => ?_⟩
  refine LamX.run_ofS (N := N) lk hcd S hr e0 hb rv (count _ _ _ _ hsp) fun hr' => ?_
  obtain ⟨t, ht, hq⟩ := walk cd A fr st H E hr' hg
  exact ⟨t, ht, hq vs Q hsp⟩
theorem sp_bodyX {G : Gm} {ev : Es} {np : Nat} {vs : List V} {H : Hp} {Q : VK} {E : XK} (h : SpX G np (runX N.length ev) vs H Q E) : TSw (fun c d _ H' => E c d H') G ev { nx := fun _ H' => Q .non H', rt := Q } (start N vs) H := by
  obtain ⟨_, m, M, ds, d, M', rds, hM, e, fin⟩ := h
  unfold runX at e
  cases q : ev (startD N.length ds) M with
  | none => rw [q] at e; cases e
  | some pr =>
    obtain ⟨o, M1⟩ := pr
    rw [q] at e
    refine ⟨m, M, _, o, M1, rho_start rds, hM, q, fun m1 H1 a b c => ?_⟩
    cases o with
    | ret d1 => cases e; exact fin m1 H1 a b c
    | next ρ1 => cases e; exact fun σ _ => fin m1 H1 a b c _ .non
    | brk ρ1 => cases e
    | cont ρ1 => cases e
    | exc ρ1 cc x => cases e; exact fun σ dd w _ hd rd => fin m1 H1 a b c dd w hd rd
theorem fnx_of {ev : Es} (F : FunD K x qual pa bd sc [] [] f fd) (S : FnScope N ps sc)
    (walk : ∀ (cd : Value) (A : Around) (fr : List Env) (st : Shared) (H : Hp) (E : XK), Room k (A.deeper (envOfC qual sc st.heap.objs.size f cd)) → (gd = true → (A.deeper (envOfC qual sc st.heap.objs.size f cd)).guards = some []) →
      PSs (cxOf (CXe P w) P w K mg base N qual sc f cd A fr st H E) bd (TSw (fun c d _ H' => E c d H') ⟨K, fa⟩ ev)) : FnX P w K mg base gd (k + 1) f fd ps (SpX ⟨K, fa⟩ ps.length (runX N.length ev)) :=
  fnx_body F S (fun vs H Q E h => h.1) fun cd A fr st H E hr hg => ⟨_, walk cd A fr st H E hr hg, fun vs Q h => sp_bodyX h⟩
end
section
variable {X : Cx} {gd : Bool} {k : Nat} {f : Addr} {fd : FuncData} {ps : List Str} {sp : Sp} {x : Str} {p pos : Pos} {e : Expr} {es : List Expr} {t : TA} {W : WX}
/-- the call runs; what it raises goes where the wish W says -/
theorem fnx_run {pins : List (Addr × Obj)} {σ : L2.St} {H : Hp} {st : Shared} {Q : VK} {us : List Value} {vs : List V} (F : FnX X.prog X.w X.K X.mg X.base gd k f fd ps sp) (hr : Room k X.A) (hg : gd = true → X.A.guards = some []) (hb : Binds X.K fd ps []) (tk : Takes X W)
    (I : Inv X pins σ H st) (r : Vals vs us) (h : sp vs H Q (fun c d H' => W c d σ H')) : wpAny (model X.prog X.w) X.A (call (.ref f) us) (EP X pins σ Q) X.xe st := by
  have hl : us.length = ps.length := r.length.symm.trans (F.count _ _ _ _ h)
  have hb' := hb st us I.kIn (by rw [List.append_nil]; exact hl)
  rw [List.append_nil] at hb'
  apply wpAny_call
  refine codeAny_mono (F.go X.A X.stack st H _ us vs Q _ hr hg I.env0 hb' r h) ?_
  intro rs s' hq
  cases rs with
  | error z => exact tk _ _ (XE.of_call I (fun _ _ _ h => h) hq)
  | ok fl =>
    cases fl with
    | ret u => exact I.after hq
    | next => exact hq.elim
    | brk => exact hq.elim
    | cont => exact hq.elim
/-- where nothing is raised -/
theorem fnx_run0 {pins : List (Addr × Obj)} {σ : L2.St} {H : Hp} {st : Shared} {Q : VK} {us : List Value} {vs : List V} (F : FnX X.prog X.w X.K X.mg X.base gd k f fd ps sp) (hr : Room k X.A) (hg : gd = true → X.A.guards = some []) (hb : Binds X.K fd ps [])
    (I : Inv X pins σ H st) (r : Vals vs us) (h : sp vs H Q (fun _ _ _ => False)) : wpAny (model X.prog X.w) X.A (call (.ref f) us) (EP X pins σ Q) X.xe st := by
  have hl : us.length = ps.length := r.length.symm.trans (F.count _ _ _ _ h)
  have hb' := hb st us I.kIn (by rw [List.append_nil]; exact hl)
  rw [List.append_nil] at hb'
  apply wpAny_call
  refine codeAny_mono (F.go X.A X.stack st H _ us vs Q _ hr hg I.env0 hb' r h) ?_
  intro rs s' hq
  cases rs with
  | error z =>
    obtain ⟨_, _, _, _, _, _, _, _, _, _, _, _, q⟩ := hq
    exact q.elim
  | ok fl =>
    cases fl with
    | ret u => exact I.after hq
    | next => exact hq.elim
    | brk => exact hq.elim
    | cont => exact hq.elim
def tCallW (W : WX) (sp : Sp) (t : TA) : TE := fun σ H Q => t σ H fun vs H1 => sp vs H1 Q (fun c d H' => W c d σ H')
theorem pex_call (F : FnX X.prog X.w X.K X.mg X.base gd k f fd ps sp) (hr : Room k X.A) (hgd : gd = true → X.A.guards = some []) (hg : Gl X x) (hm : X.mg x = some (.ref f)) (hk : PySem.W.keepIn X.K (.ref f) = true) (hb : Binds X.K fd ps []) (tk : Takes X W)
    (ha : PA X (e :: es) t) (hdb : (x == ("__debug__" : Str)) = false) (he : starEach (e :: es) X.env = (false, eval e X.env) :: starEach es X.env) (hpl : (backTo pos (starEach es X.env)).any (·.1) = false) :
    PE X (.Call (.Name x p) (e :: es) [] pos) (tCallW W sp t) := by
  constructor
  intro pins st σ H Q I h
  apply wpAny_Call_Name_kw (ld_glob I hg hm ?_ hdb)
  apply PySem.W.callWith_K (h₀ := X.base) I.ok.mod.kin hk (thn (ha.run pos pins st σ H _ I h) ?_) he hpl
  rintro us s1 ⟨vs, H1, I1, r, q⟩
  exact ⟨I1.kIn, fnx_run F hr hgd hb tk I1 r q⟩
theorem pex_call0 (F : FnX X.prog X.w X.K X.mg X.base gd k f fd ps sp) (hr : Room k X.A) (hgd : gd = true → X.A.guards = some []) (hg : Gl X x) (hm : X.mg x = some (.ref f)) (hk : PySem.W.keepIn X.K (.ref f) = true) (hb : Binds X.K fd ps []) (tk : Takes X W)
    (hdb : (x == ("__debug__" : Str)) = false) : PE X (.Call (.Name x p) [] [] pos) (tCallW W sp tNil) := by
  constructor
  intro pins st σ H Q I h
  apply wpAny_Call_Name_kw (ld_glob I hg hm ?_ hdb)
  exact PySem.W.callWith_K0 I.kIn hk (fnx_run (us := []) F hr hgd hb tk I .nil h)
def tCall0 (sp : Sp) (t : TA) : TE := fun σ H Q => t σ H fun vs H1 => sp vs H1 Q (fun _ _ _ => False)
theorem pep_call (F : FnX X.prog X.w X.K X.mg X.base gd k f fd ps sp) (hr : Room k X.A) (hgd : gd = true → X.A.guards = some []) (hg : Gl X x) (hm : X.mg x = some (.ref f)) (hk : PySem.W.keepIn X.K (.ref f) = true) (hb : Binds X.K fd ps [])
    (ha : PA X (e :: es) t) (hdb : (x == ("__debug__" : Str)) = false) (he : starEach (e :: es) X.env = (false, eval e X.env) :: starEach es X.env) (hpl : (backTo pos (starEach es X.env)).any (·.1) = false) :
    PE X (.Call (.Name x p) (e :: es) [] pos) (tCall0 sp t) := by
  constructor
  intro pins st σ H Q I h
  apply wpAny_Call_Name_kw (ld_glob I hg hm ?_ hdb)
  apply PySem.W.callWith_K (h₀ := X.base) I.ok.mod.kin hk (thn (ha.run pos pins st σ H _ I h) ?_) he hpl
  rintro us s1 ⟨vs, H1, I1, r, q⟩
  exact ⟨I1.kIn, fnx_run0 F hr hgd hb I1 r q⟩
theorem pep_call0 (F : FnX X.prog X.w X.K X.mg X.base gd k f fd ps sp) (hr : Room k X.A) (hgd : gd = true → X.A.guards = some []) (hg : Gl X x) (hm : X.mg x = some (.ref f)) (hk : PySem.W.keepIn X.K (.ref f) = true) (hb : Binds X.K fd ps [])
    (hdb : (x == ("__debug__" : Str)) = false) : PE X (.Call (.Name x p) [] [] pos) (tCall0 sp tNil) := by
  constructor
  intro pins st σ H Q I h
  apply wpAny_Call_Name_kw (ld_glob I hg hm ?_ hdb)
  exact PySem.W.callWith_K0 I.kIn hk (fnx_run0 (us := []) F hr hgd hb I .nil h)
end

/-! the table of defs -/
/-- the last arguments may be told by their names, in the def's order -/
def KwTail (K : PySem.W.Frag) (fd : FuncData) (ps : List Str) : Prop := ∀ (s : Shared) (us ws : List Value), K.In s.heap → us.length + ws.length = ps.length → BindsTo s fd ⟨us, (ps.drop us.length).zip ws⟩ (ps.zip (us ++ ws))
abbrev CallX := Nat → List D → Mem → Rx D
structure FnsX (P : Program) (w : World) (K : PySem.W.Frag) (mg : Str → Option Value) (base : Heap) (fa : Nat → Addr) (tab : List (Str × List Str)) (call : CallX) (gd : Bool) (k : Nat) : Prop where
  ok : ∀ (i : Nat) (x : Str) (ps : List Str), tab[i]? = some (x, ps) → PySem.W.keepIn K (.ref (fa i)) = true ∧ ∃ fd, Binds K fd ps [] ∧ KwTail K fd ps ∧ FnX P w K mg base gd k (fa i) fd ps (SpX ⟨K, fa⟩ ps.length (call i))
section
variable {X : Cx} {fa : Nat → Addr} {tab : List (Str × List Str)} {call : CallX} {gd : Bool} {k : Nat} {x : Str} {ps : List Str} {p pos spos : Pos} {e : Expr} {es : List Expr} {evs : EvL} {W : WX}
theorem sp_dn {G : Gm} {n : Nat} {g : List D → Mem → Rx D} {vs : List V} {ds : List D} {H : Hp} {m : List Addr} {M M' : Mem} {d : D} {Q : VK} (hl : vs.length = n) (rds : RDs G H m ds vs) (hM : RM G H m M) (e : dnX g ds M = some (d, M')) (fin : Fin G m H M' fun m' H' => ∀ v, RD G H' m' d v → Q v H') : SpX G n g vs H Q (fun _ _ _ => False) := by
  unfold dnX at e
  split at e
  · rename_i d2 M2 q
    cases e
    exact ⟨hl, m, M, ds, _, _, rds, hM, q, fin⟩
  · cases e
/-- f(..) where nothing is raised -/
theorem l_fnP (i : Nat) (T : FnsX X.prog X.w X.K X.mg X.base fa tab call gd k) (hm : X.mg x = some (.ref (fa i))) (hr : Room k X.A) (hgd : gd = true → X.A.guards = some []) (ha : PA X (e :: es) (TAof (GX X fa) evs)) (hi : tab[i]? = some (x, ps) := by rfl) (hl : ps.length = es.length + 1 := by rfl)
    (hev : ∀ ρ M ds M', evs ρ M = some (ds, M') → ds.length = es.length + 1 := by repeat (first | exact len_nil | apply len_cons)) (hg : Gl X x := by rfl) (hdb : (x == ("__debug__" : Str)) = false := by decide) (he : starEach (e :: es) X.env = (false, eval e X.env) :: starEach es X.env := by rfl) (hpl : (backTo pos (starEach es X.env)).any (·.1) = false := by rfl) :
    PE X (.Call (.Name x p) (e :: es) [] pos) (TEof (GX X fa) (eCall (dnX (call i)) evs)) := by
  obtain ⟨hk, fd, hb, _, F⟩ := T.ok i x ps hi
  refine (pep_call F hr hgd hg hm hk hb ha hdb he hpl).imp fun σ H Q ⟨m, M, ρ, d, M', hρ, hM, e, fin⟩ => ?_
  have hev' := hev ρ M
  unfold eCall at e
  cases q : evs ρ M with
  | none => rw [q] at e; cases e
  | some pr =>
    obtain ⟨ds, M1⟩ := pr
    rw [q] at e
    refine ⟨m, M, ρ, ds, M1, hρ, hM, q, fun m1 H1 a b c vs rds => ?_⟩
    exact sp_dn (by rw [← rds.length, hl]; exact hev' ds M1 q) rds c e (fin.mono a b)
theorem l_fnP0 (i : Nat) (T : FnsX X.prog X.w X.K X.mg X.base fa tab call gd k) (hm : X.mg x = some (.ref (fa i))) (hr : Room k X.A) (hgd : gd = true → X.A.guards = some []) (hi : tab[i]? = some (x, []) := by rfl) (hg : Gl X x := by rfl) (hdb : (x == ("__debug__" : Str)) = false := by decide) :
    PE X (.Call (.Name x p) [] [] pos) (TEof (GX X fa) (eCall (dnX (call i)) eNil)) := by
  obtain ⟨hk, fd, hb, _, F⟩ := T.ok i x [] hi
  refine (pep_call0 F hr hgd hg hm hk hb hdb).imp fun σ H Q ⟨m, M, ρ, d, M', hρ, hM, e, fin⟩ => ?_
  exact sp_dn rfl .nil hM e fin

/-! a call in a statement's place -/
/-- how a call that may raise ends a statement -/
def sCallX (kf : D → Loc → Fl) (g : List D → Mem → Rx D) (evs : EvL) : Es := fun ρ M => bindO (evs ρ M) fun ds M1 => match g ds M1 with
  | some (.val d, M2) => some (kf d ρ, M2)
  | some (.exc c v, M2) => some (.exc ρ c v, M2)
  | none => none
theorem sx_split {G : Gm} {kf : D → Loc → Fl} {g : List D → Mem → Rx D} {D : Ends} {σ : L2.St} {H : Hp} {n : Nat} {Q : VK} (h : TSw W G (sCallX kf g evs) D σ H) (hev : ∀ ρ M ds M', evs ρ M = some (ds, M') → ds.length = n)
    (hk : ∀ d ρ m' H', Rho G H' m' ρ σ → EndsOk W G D (kf d ρ) m' H' → ∀ v, RD G H' m' d v → Q v H') : tCallW W (SpX G n g) (TAof G evs) σ H Q := by
  obtain ⟨m, M, ρ, o, M', hρ, hM, e, fin⟩ := h
  have hev' := hev ρ M
  unfold sCallX at e
  cases q : evs ρ M with
  | none => rw [q] at e; cases e
  | some pr =>
    obtain ⟨ds, M1⟩ := pr
    rw [q] at e
    refine ⟨m, M, ρ, ds, M1, hρ, hM, q, fun m1 H1 a b c vs rds => ?_⟩
    have e' : (match g ds M1 with
      | some (.val d, M2) => some (kf d ρ, M2)
      | some (.exc c v, M2) => some (.exc ρ c v, M2)
      | none => none) = some (o, M') := e
    refine ⟨by rw [← rds.length]; exact hev' ds M1 q, m1, M1, ds, ?_⟩
    cases z : g ds M1 with
    | none => rw [z] at e'; cases e'
    | some pr =>
      obtain ⟨o2, M2⟩ := pr
      rw [z] at e'
      refine ⟨o2, M2, rds, c, rfl, fun m2 H2 a2 b2 c2 => ?_⟩
      cases o2 with
      | val d => cases e'; exact hk d ρ m2 H2 ((hρ.mono a b).mono a2 b2) (fin m2 H2 (a.trans a2) (b.trans b2) c2)
      | exc cc x => cases e'; exact fun dd w hd rd => fin m2 H2 (a.trans a2) (b.trans b2) c2 σ dd w ((hρ.mono a b).mono a2 b2) hd rd
def kSet (i : Nat) : D → Loc → Fl := fun d ρ => .next (ρ.set i (some d))
def kRet : D → Loc → Fl := fun d _ => .ret d
def kDrop : D → Loc → Fl := fun _ ρ => .next ρ
theorem l_setX (i j : Nat) {y : Str} {py : Pos} (T : FnsX X.prog X.w X.K X.mg X.base fa tab call gd k) (tk : Takes X W) (hm : X.mg x = some (.ref (fa j))) (hr : Room k X.A) (hgd : gd = true → X.A.guards = some []) (hN : X.N.Nodup) (ha : PA X (e :: es) (TAof (GX X fa) evs)) (hj : tab[j]? = some (x, ps) := by rfl) (hl : ps.length = es.length + 1 := by rfl)
    (hi : X.N[i]? = some y := by rfl) (hx : L2.Loc X.env.scope y := by first | exact Or.inl rfl | exact Or.inr rfl) (hs : swapsWith (.Call (.Name x p) (e :: es) [] pos) (some (.Name y py)) spos.line X.env = pure false := by rfl) (hf : X.fn y = true ∨ X.env.scope.names.lookup y = some .local := by first | exact .inl rfl | exact .inr rfl)
    (hev : ∀ ρ M ds M', evs ρ M = some (ds, M') → ds.length = es.length + 1 := by repeat (first | exact len_nil | apply len_cons)) (hg : Gl X x := by rfl) (hdb : (x == ("__debug__" : Str)) = false := by decide) (he : starEach (e :: es) X.env = (false, eval e X.env) :: starEach es X.env := by rfl) (hpl : (backTo pos (starEach es X.env)).any (·.1) = false := by rfl) :
    PS X (.Assign [.Name y py] (.Call (.Name x p) (e :: es) [] pos) spos) (TSw W (GX X fa) (sCallX (kSet i) (call j) evs)) := by
  obtain ⟨hk, fd, hb, _, F⟩ := T.ok j x ps hj
  refine (ps_set hN hi hx (pex_call F hr hgd hg hm hk hb tk ha hdb he hpl) hs hf).imp fun D σ H h => ?_
  exact sx_split h (fun ρ M ds M' q => (hev ρ M ds M' q).trans hl.symm) fun d ρ m' H' hρ hE v rd => hE _ (hρ.set i rd)
theorem l_retX (j : Nat) (T : FnsX X.prog X.w X.K X.mg X.base fa tab call gd k) (tk : Takes X W) (hm : X.mg x = some (.ref (fa j))) (hr : Room k X.A) (hgd : gd = true → X.A.guards = some []) (ha : PA X (e :: es) (TAof (GX X fa) evs)) (hj : tab[j]? = some (x, ps) := by rfl) (hl : ps.length = es.length + 1 := by rfl)
    (hev : ∀ ρ M ds M', evs ρ M = some (ds, M') → ds.length = es.length + 1 := by repeat (first | exact len_nil | apply len_cons)) (hg : Gl X x := by rfl) (hdb : (x == ("__debug__" : Str)) = false := by decide) (he : starEach (e :: es) X.env = (false, eval e X.env) :: starEach es X.env := by rfl) (hpl : (backTo pos (starEach es X.env)).any (·.1) = false := by rfl) :
    PS X (.Return (some (.Call (.Name x p) (e :: es) [] pos)) spos) (TSw W (GX X fa) (sCallX kRet (call j) evs)) := by
  obtain ⟨hk, fd, hb, _, F⟩ := T.ok j x ps hj
  refine (ps_ret (pex_call F hr hgd hg hm hk hb tk ha hdb he hpl)).imp fun D σ H h => ?_
  exact sx_split h (fun ρ M ds M' q => (hev ρ M ds M' q).trans hl.symm) fun d ρ m' H' hρ hE v rd => hE v rd
theorem l_exprX (j : Nat) (T : FnsX X.prog X.w X.K X.mg X.base fa tab call gd k) (tk : Takes X W) (hm : X.mg x = some (.ref (fa j))) (hr : Room k X.A) (hgd : gd = true → X.A.guards = some []) (ha : PA X (e :: es) (TAof (GX X fa) evs)) (hj : tab[j]? = some (x, ps) := by rfl) (hl : ps.length = es.length + 1 := by rfl)
    (hs : swapsWith (.Call (.Name x p) (e :: es) [] pos) none spos.line X.env = pure false := by rfl)
    (hev : ∀ ρ M ds M', evs ρ M = some (ds, M') → ds.length = es.length + 1 := by repeat (first | exact len_nil | apply len_cons)) (hg : Gl X x := by rfl) (hdb : (x == ("__debug__" : Str)) = false := by decide) (he : starEach (e :: es) X.env = (false, eval e X.env) :: starEach es X.env := by rfl) (hpl : (backTo pos (starEach es X.env)).any (·.1) = false := by rfl) :
    PS X (.Expr (.Call (.Name x p) (e :: es) [] pos) spos) (TSw W (GX X fa) (sCallX kDrop (call j) evs)) := by
  obtain ⟨hk, fd, hb, _, F⟩ := T.ok j x ps hj
  refine (ps_expr (pex_call F hr hgd hg hm hk hb tk ha hdb he hpl) hs).imp fun D σ H h => ?_
  exact sx_split h (fun ρ M ds M' q => (hev ρ M ds M' q).trans hl.symm) fun d ρ m' H' hρ hE v rd => hE σ hρ

/-! raise C(e) -/
def sRaise (c : Nat) (ev : Ev) : Es := fun ρ M => bindO (ev ρ M) fun d M1 => some (.exc ρ c d, M1)
theorem l_raise (c : Nat) {fI : Addr} {eva : Ev} {rpos : Pos} (L : PySem.MiE.LowTxt X.K X.mg x (fa c) fI) (tk : Takes X W) (hr : Room k X.A) (he : PE X e (TEof (GX X fa) eva)) (hc : X.calm = true := by rfl) (hg : Gl X x := by rfl) (hdb : (x == ("__debug__" : Str)) = false := by decide)
    (hst : starEach [e] X.env = (false, eval e X.env) :: starEach [] X.env := by rfl) (hpl : (backTo pos (starEach [] X.env)).any (·.1) = false := by rfl) :
    PS X (.Raise (some (.Call (.Name x p) [e] [] pos)) none rpos) (TSw W (GX X fa) (sRaise c eva)) := by
  refine (ps_raiseLow hc L hr tk (pa_cons he pa_nil hst) hg hdb hst hpl).imp fun D σ H ⟨m, M, ρ, o, M', hρ, hM, e, fin⟩ => ?_
  refine te_bind hρ hM e fin fun m1 H1 M1 d1 v hρ1 hM1 rd e1 fin1 p1 x1 => ?_
  cases e1
  refine ⟨v, rfl, fun d hd => ?_⟩
  exact fin1 m1 _ (List.prefix_refl _) (Ext.new hd) (hM1.new hd) σ d v (hρ1.mono (List.prefix_refl _) (Ext.new hd)) upd_same (rd.mono (List.prefix_refl _) (Ext.new hd))
end
end Mi
set_option Elab.async false
set_option linter.all false
set_option maxRecDepth 100000
set_option maxHeartbeats 1000000
/-! instances: fields, made ones, methods -/
namespace Mi
open PySem PySem.Spec PyProof.Rows L2
theorem RFs.length {G : Gm} {H : Hp} {m : List Addr} : ∀ {fs : List (Str × D)} {gs : List (Str × V)}, RFs G H m fs gs → fs.length = gs.length
  | _, _, .nil => rfl
  | _, _, .cons _ t => by rw [List.length_cons, List.length_cons, t.length]
theorem RFs.get {G : Gm} {H : Hp} {m : List Addr} {f : Str} : ∀ {fs : List (Str × D)} {gs : List (Str × V)} {d : D}, RFs G H m fs gs → fs.lookup f = some d → ∃ v, gs.lookup f = some v ∧ RD G H m d v
  | _, _, _, .nil, e => by cases e
  | (k, d0) :: _, (_, v0) :: _, d, .cons r t, e => by
    rw [List.lookup_cons] at e
    rw [List.lookup_cons]
    cases h : (f == k) with
    | true => rw [h] at e; cases e; exact ⟨_, rfl, r⟩
    | false => rw [h] at e; exact t.get e
theorem RFs.none {G : Gm} {H : Hp} {m : List Addr} {f : Str} : ∀ {fs : List (Str × D)} {gs : List (Str × V)}, RFs G H m fs gs → fs.lookup f = Option.none → gs.lookup f = Option.none
  | _, _, .nil, _ => rfl
  | (k, d0) :: _, (_, v0) :: _, .cons r t, e => by
    rw [List.lookup_cons] at e
    rw [List.lookup_cons]
    cases h : (f == k) with
    | true => rw [h] at e; cases e
    | false => rw [h] at e; exact t.none e
def putFD (f : Str) (d : D) : List (Str × D) → List (Str × D)
  | [] => [(f, d)]
  | (g, x) :: r => if g = f then (g, d) :: r else (g, x) :: putFD f d r
theorem RFs.put {G : Gm} {H : Hp} {m : List Addr} {f : Str} {d : D} {v : V} (rd : RD G H m d v) : ∀ {fs : List (Str × D)} {gs : List (Str × V)}, RFs G H m fs gs → RFs G H m (putFD f d fs) (putF f v gs)
  | _, _, .nil => .cons rd .nil
  | (k, d0) :: _, (_, v0) :: _, .cons r t => by
    unfold putFD putF
    by_cases h : k = f
    · rw [if_pos h, if_pos h]; exact .cons rd t
    · rw [if_neg h, if_neg h]; exact .cons r (t.put rd)
/-- what is told of classes: which numbers are classes, which names are fields, which number a method has -/
structure CtD where
  cl : Nat → Bool
  fl : Nat → Str → Bool
  me : Nat → Str → Option Nat
structure CtOk (K : PySem.W.Frag) (fa : Nat → Addr) (ct : CtD) : Prop where
  cl : ∀ c, ct.cl c = true → Cls K (fa c)
  fl : ∀ c f, ct.fl c f = true → NoAttr K (fa c) f
  me : ∀ c m i, ct.me c m = some i → Cls K (fa c) ∧ Meth K (fa c) m (fa i)
section
variable {W : WX} {X : Cx} {fa : Nat → Addr} {a e o : Expr} {eva evo eve : Ev} {pos p apos : Pos} {es : List Expr} {evs : EvL} {ct : CtD}
/-! e.f -/
def eFld (ct : CtD) (f : Str) (evo : Ev) : Ev := fun ρ M => bindO (evo ρ M) fun d M1 => match d with
  | .ref n => match M1[n]? with
    | some (.ins c fs) => if (ct.cl c && ct.fl c f) = true then (fs.lookup f).map fun d => (d, M1) else none
    | _ => none
  | _ => none
theorem l_fld {f : Str} (C : CtOk X.K fa ct) (ho : PE X o (TEof (GX X fa) evo)) (hb : attributeBase o f X.env (eval o X.env) = eval o X.env := by rfl) : PE X (.Attribute o f pos) (TEof (GX X fa) (eFld ct f evo)) := by
  refine (pe_fld ho hb).imp fun σ H Q ⟨m, M, ρ, d, M', hρ, hM, e, fin⟩ => ?_
  refine te_bind hρ hM e fin fun m1 H1 M1 d1 v hρ1 hM1 rd e1 fin1 p1 x1 => ?_
  cases rd with
  | @ref n a ha =>
    have e' : (match M1[n]? with
      | some (.ins c fs) => if (ct.cl c && ct.fl c f) = true then (fs.lookup f).map fun d => (d, M1) else none
      | _ => none) = some (d, M') := e1
    split at e'
    · rename_i c fs q
      split at e'
      · rename_i hc
        obtain ⟨h1, h2⟩ := Bool.and_eq_true_iff.mp hc
        cases l : fs.lookup f with
        | none => rw [l] at e'; cases e'
        | some d2 =>
          rw [l] at e'
          cases e'
          obtain ⟨dx, gs, g1, g2⟩ := hM1.at_ _ _ _ ha q
          obtain ⟨w, l2, rw'⟩ := g2.get l
          exact ⟨a, fa c, dx, gs, w, rfl, g1, C.cl c h1, C.fl c f h2, l2, fin1.here hM1 _ rw'⟩
      · cases e'
    · cases e'
  | non => cases e1
  | bl _ => cases e1
  | int _ => cases e1
  | str _ => cases e1
  | tup _ _ => cases e1
  | fn _ => cases e1
/-! o.f = e -/
def sFldS (ct : CtD) (f : Str) (evo eve : Ev) : Es := fun ρ M => bindO (eve ρ M) fun d M1 => bindO (evo ρ M1) fun o M2 => match o with
  | .ref n => match M2[n]? with
    | some (.ins c fs) => if (ct.cl c && ct.fl c f && decide (fs.length < 1000)) = true then some (.next ρ, M2.set n (.ins c (putFD f d fs))) else none
    | _ => none
  | _ => none
theorem l_fldS {f : Str} {ps : Pos} (C : CtOk X.K fa ct) (ho : PE X o (TEof (GX X fa) evo)) (he : PE X e (TEof (GX X fa) eve)) (hs : swapsWith e (some (.Attribute o f ps)) pos.line X.env = pure false := by rfl) : PS X (.Assign [.Attribute o f ps] e pos) (TSw W (GX X fa) (sFldS ct f evo eve)) := by
  refine (ps_fld ho he hs).imp fun D σ H ⟨m, M, ρ, d, M', hρ, hM, e, fin⟩ => ?_
  refine te_bind hρ hM e fin fun m1 H1 M1 d1 v hρ1 hM1 rd1 e1 fin1 p1 x1 => ?_
  refine te_bind hρ1 hM1 e1 fin1 fun m2 H2 M2 d2 w hρ2 hM2 rd2 e2 fin2 p2 x2 => ?_
  cases rd2 with
  | @ref n a ha =>
    have e' : (match M2[n]? with
      | some (.ins c fs) => if (ct.cl c && ct.fl c f && decide (fs.length < 1000)) = true then some (Fl.next ρ, M2.set n (.ins c (putFD f d1 fs))) else none
      | _ => none) = some (d, M') := e2
    split at e'
    · rename_i c fs q
      split at e'
      · rename_i hc
        cases e'
        obtain ⟨h12, h3⟩ := Bool.and_eq_true_iff.mp hc
        obtain ⟨h1, h2⟩ := Bool.and_eq_true_iff.mp h12
        obtain ⟨dx, gs, g1, g2⟩ := hM2.at_ _ _ _ ha q
        have mu : MutL (H2 a) := by rw [g1]; trivial
        have xe : Ext (GX X fa) H2 (upd H2 a (.ins (fa c) dx (putF f v gs))) := Ext.write mu
        refine ⟨a, fa c, dx, gs, rfl, g1, C.cl c h1, C.fl c f h2, by rw [← g2.length]; exact of_decide_eq_true h3, ?_⟩
        refine fin2 m2 _ (List.prefix_refl _) xe (hM2.set ha q rfl rfl ⟨dx, _, upd_same, ?_⟩) σ (hρ2.mono (List.prefix_refl _) xe)
        exact ((g2.put (rd1.mono p2 x2))).mono (List.prefix_refl _) xe
      · cases e'
    · cases e'
  | non => cases e2
  | bl _ => cases e2
  | int _ => cases e2
  | str _ => cases e2
  | tup _ _ => cases e2
  | fn _ => cases e2
end
/-! C(..) -/
section
variable {W : WX} {X : Cx} {fa : Nat → Addr} {tab : List (Str × List Str)} {call : CallX} {gd : Bool} {k : Nat} {x y : Str} {ps : List Str} {p pos : Pos} {e : Expr} {es : List Expr} {evs : EvL}
/-- the class c made by the init i -/
def fMake (c : Nat) (g : List D → Mem → Rx D) : List D → Mem → R D := fun ds M => match g (.ref M.length :: ds) (M ++ [.ins c []]) with
  | some (.val .non, M2) => some (.ref M.length, M2)
  | _ => none
theorem run_makeX {pins : List (Addr × Obj)} {σ : L2.St} {H : Hp} {s : Shared} {Q : VK} {us : List Value} {vs : List V} {C f : Addr} {fd : FuncData} {sp : Sp} (Mk' : Mk X.K C f) (F : FnX X.prog X.w X.K X.mg X.base gd k f fd ps sp) (hr : Room (k + 1) X.A) (hgd : gd = true → X.A.guards = some []) (hb : Binds X.K fd ps [])
    (I : Inv X pins σ H s) (r : Vals vs us)
    (h : ∀ (x dx : Addr), H x = none → H dx = none → dx ≠ x → sp (.ref x :: vs) (upd (upd H dx (.own x)) x (.ins C dx [])) (fun v H2 => v = .non ∧ Q (.ref x) H2) (fun _ _ _ => False)) :
    wpAny (model X.prog X.w) X.A (PySem.call (.ref C) us) (EP X pins σ Q) X.xe s := by
  have hq := h (s.heap.objs.size + 1) s.heap.objs.size (I.hok.fresh (Nat.le_succ _)) (I.hok.fresh (Nat.le_refl _)) (Nat.ne_of_lt (Nat.lt_succ_self _))
  have I2 := Inv.made (C := C) I
  have r2 : Vals (V.ref (s.heap.objs.size + 1) :: vs) (Value.ref (s.heap.objs.size + 1) :: us) := .cons rfl r
  have hl : (Value.ref (s.heap.objs.size + 1) :: us).length = ps.length := by
    have e := r2.length
    rw [F.count _ _ _ _ hq] at e
    exact e.symm
  have hb' := hb _ (Value.ref (s.heap.objs.size + 1) :: us) I2.kIn (by rw [List.append_nil]; exact hl)
  rw [List.append_nil] at hb'
  refine wpAny_call (make_map (f := f) I.kIn Mk'.makes Mk'.init (beq_iff_eq.mp Mk'.fn) (codeAny_mono (F.go _ X.stack _ _ ⟨Value.ref (s.heap.objs.size + 1) :: us, []⟩ (Value.ref (s.heap.objs.size + 1) :: us) _ _ (fun _ _ _ => False) (hr.make C us []) (by exact hgd)
    (I2.env0.make C us []) hb' r2 hq) fun r s' hq' => ?_))
  cases r with
  | error e =>
    obtain ⟨_, _, _, _, _, _, _, _, _, _, _, _, q⟩ := hq'
    exact q.elim
  | ok fl =>
    cases fl with
    | ret u =>
      obtain ⟨v, H', I3, rv, ev, q3⟩ := I2.after hq'
      subst ev
      exact ⟨rv, ⟨V.ref (s.heap.objs.size + 1), H', I3, rfl, q3⟩⟩
    | next => exact False.elim hq'
    | brk => exact False.elim hq'
    | cont => exact False.elim hq'
def tMakeP (C : Addr) (sp : Sp) (t : TA) : TE := fun σ H Q => t σ H fun vs H1 => ∀ (x dx : Addr), H1 x = none → H1 dx = none → dx ≠ x → sp (.ref x :: vs) (upd (upd H1 dx (.own x)) x (.ins C dx [])) (fun v H2 => v = .non ∧ Q (.ref x) H2) (fun _ _ _ => False)
theorem pep_make {C f : Addr} {fd : FuncData} {sp : Sp} {t : TA} (Mk' : Mk X.K C f) (F : FnX X.prog X.w X.K X.mg X.base gd k f fd ps sp) (hr : Room (k + 1) X.A) (hgd : gd = true → X.A.guards = some []) (hg : Gl X x) (hm : X.mg x = some (.ref C)) (hb : Binds X.K fd ps [])
    (ha : PA X (e :: es) t) (hdb : (x == ("__debug__" : Str)) = false) (he : starEach (e :: es) X.env = (false, eval e X.env) :: starEach es X.env) (hpl : (backTo pos (starEach es X.env)).any (·.1) = false) :
    PE X (.Call (.Name x p) (e :: es) [] pos) (tMakeP C sp t) := by
  refine ⟨fun pins s σ H Q I h => ?_⟩
  refine wpAny_Call_Name_kw (ld_glob I hg hm ?_ hdb)
  refine PySem.W.callWith_K (h₀ := X.base) I.ok.mod.kin Mk'.kp (thn (ha.run pos pins s σ H _ I h) fun us s1 ⟨vs, H1, I1, r, q⟩ => ⟨I1.kIn, ?_⟩) he hpl
  exact run_makeX Mk' F hr hgd hb I1 r q
theorem pep_make0 {C f : Addr} {fd : FuncData} {sp : Sp} (Mk' : Mk X.K C f) (F : FnX X.prog X.w X.K X.mg X.base gd k f fd ps sp) (hr : Room (k + 1) X.A) (hgd : gd = true → X.A.guards = some []) (hg : Gl X x) (hm : X.mg x = some (.ref C)) (hb : Binds X.K fd ps [])
    (hdb : (x == ("__debug__" : Str)) = false) : PE X (.Call (.Name x p) [] [] pos) (tMakeP C sp tNil) := by
  refine ⟨fun pins s σ H Q I h => ?_⟩
  refine wpAny_Call_Name_kw (ld_glob I hg hm ?_ hdb)
  exact PySem.W.callWith_K0 I.kIn Mk'.kp (run_makeX (us := []) Mk' F hr hgd hb I .nil h)
theorem make_sp {G : Gm} {c n : Nat} {g : List D → Mem → Rx D} {vs : List V} {ds : List D} {H : Hp} {m : List Addr} {M M' : Mem} {d : D} {Q : VK} (hl : vs.length + 1 = n) (rds : RDs G H m ds vs) (hM : RM G H m M) (e : fMake c g ds M = some (d, M')) (fin : Fin G m H M' fun m' H' => ∀ v, RD G H' m' d v → Q v H') :
    ∀ (x dx : Addr), H x = none → H dx = none → dx ≠ x → SpX G n g (.ref x :: vs) (upd (upd H dx (.own x)) x (.ins (G.fa c) dx [])) (fun v H2 => v = .non ∧ Q (.ref x) H2) (fun _ _ _ => False) := fun x dx hx hdx hne => by
  unfold fMake at e
  split at e
  · rename_i M2 q
    cases e
    have x1 : Ext G H (upd H dx (.own x)) := Ext.new hdx
    have h1 : RM G (upd H dx (.own x)) m M := hM.new hdx
    have hx' : upd H dx (.own x) x = none := by rw [upd_ne (Ne.symm hne)]; exact hx
    have x2 : Ext G (upd H dx (.own x)) (upd (upd H dx (.own x)) x (.ins (G.fa c) dx [])) := Ext.new hx'
    have h2 : RM G (upd (upd H dx (.own x)) x (.ins (G.fa c) dx [])) (m ++ [x]) (M ++ [.ins c []]) := h1.push hx' ⟨dx, [], upd_same, .nil⟩
    have xx := x1.trans x2
    refine ⟨by rw [List.length_cons]; exact hl, m ++ [x], M ++ [.ins c []], .ref M.length :: ds, _, _, .cons (ref_last hM) (rds.mono (List.prefix_append _ _) xx), h2, q, fun m' H' a b c' => ?_⟩
    intro v rv
    cases rv
    refine ⟨rfl, fin m' H' ((List.prefix_append _ _).trans a) (xx.trans b) c' _ (.ref (pre_get a ?_))⟩
    rw [← hM.len, List.getElem?_append_right (Nat.le_refl _), Nat.sub_self]
    rfl
  · cases e
theorem l_make (c i : Nat) (T : FnsX X.prog X.w X.K X.mg X.base fa tab call gd k) (Mk' : Mk X.K (fa c) (fa i)) (hm : X.mg x = some (.ref (fa c))) (hr : Room (k + 1) X.A) (hgd : gd = true → X.A.guards = some []) (ha : PA X (e :: es) (TAof (GX X fa) evs)) (hi : tab[i]? = some (y, ps) := by rfl) (hl : ps.length = es.length + 2 := by rfl)
    (hev : ∀ ρ M ds M', evs ρ M = some (ds, M') → ds.length = es.length + 1 := by repeat (first | exact len_nil | apply len_cons)) (hg : Gl X x := by rfl) (hdb : (x == ("__debug__" : Str)) = false := by decide) (he : starEach (e :: es) X.env = (false, eval e X.env) :: starEach es X.env := by rfl) (hpl : (backTo pos (starEach es X.env)).any (·.1) = false := by rfl) :
    PE X (.Call (.Name x p) (e :: es) [] pos) (TEof (GX X fa) (eCall (fMake c (call i)) evs)) := by
  obtain ⟨hk, fd, hb, _, F⟩ := T.ok i y ps hi
  refine (pep_make Mk' F hr hgd hg hm hb ha hdb he hpl).imp fun σ H Q ⟨m, M, ρ, d, M', hρ, hM, e, fin⟩ => ?_
  have hev' := hev ρ M
  unfold eCall at e
  cases q : evs ρ M with
  | none => rw [q] at e; cases e
  | some pr =>
    obtain ⟨ds, M1⟩ := pr
    rw [q] at e
    refine ⟨m, M, ρ, ds, M1, hρ, hM, q, fun m1 H1 a b c' vs rds => ?_⟩
    exact make_sp (by rw [← rds.length, hev' ds M1 q, hl]) rds c' e (fin.mono a b)
theorem l_make0 (c i : Nat) (T : FnsX X.prog X.w X.K X.mg X.base fa tab call gd k) (Mk' : Mk X.K (fa c) (fa i)) (hm : X.mg x = some (.ref (fa c))) (hr : Room (k + 1) X.A) (hgd : gd = true → X.A.guards = some []) (hi : tab[i]? = some (y, ps) := by rfl) (hl : ps.length = 1 := by rfl)
    (hg : Gl X x := by rfl) (hdb : (x == ("__debug__" : Str)) = false := by decide) : PE X (.Call (.Name x p) [] [] pos) (TEof (GX X fa) (eCall (fMake c (call i)) eNil)) := by
  obtain ⟨hk, fd, hb, _, F⟩ := T.ok i y ps hi
  refine (pep_make0 Mk' F hr hgd hg hm hb hdb).imp fun σ H Q ⟨m, M, ρ, d, M', hρ, hM, e, fin⟩ => ?_
  exact make_sp (by rw [hl]; rfl) .nil hM e fin
end
end Mi
set_option Elab.async false
set_option linter.all false
set_option maxRecDepth 100000
set_option maxHeartbeats 1000000
/-! methods -/
namespace Mi
open PySem PySem.Spec PyProof.Rows L2
/-- the method m of the object o, as the memory M1 has it -/
def gMeth (ct : CtD) (tab : List (Str × List Str)) (m : Str) (call : CallX) (o : D) (M1 : Mem) : List D → Mem → Rx D := fun ds M => match o with
  | .ref n => match M1[n]? with
    | some (.ins c fs) => if (fs.lookup m).isNone = true then match ct.me c m with
      | some i => match tab[i]? with
        | some (_, ps) => if ps.length = ds.length + 1 then call i (.ref n :: ds) M else none
        | none => none
      | none => none
      else none
    | _ => none
  | _ => none
theorem gMeth_inv {ct : CtD} {tab : List (Str × List Str)} {m : Str} {call : CallX} {o : D} {M1 M : Mem} {ds : List D} {r : Ro D × Mem} (e : gMeth ct tab m call o M1 ds M = some r) :
    ∃ n c fs i y ps, o = .ref n ∧ M1[n]? = some (.ins c fs) ∧ fs.lookup m = none ∧ ct.me c m = some i ∧ tab[i]? = some (y, ps) ∧ ps.length = ds.length + 1 ∧ call i (.ref n :: ds) M = some r := by
  unfold gMeth at e
  split at e
  · rename_i n
    split at e
    · rename_i c fs q
      split at e
      · rename_i hl
        split at e
        · rename_i i hi
          split at e
          · rename_i y ps ht
            split at e
            · rename_i hp
              exact ⟨n, c, fs, i, y, ps, rfl, q, Option.isNone_iff_eq_none.mp hl, hi, ht, hp, e⟩
            · cases e
          · cases e
        · cases e
      · cases e
    · cases e
  · cases e
section
variable {W : WX} {X : Cx} {fa : Nat → Addr} {tab : List (Str × List Str)} {call : CallX} {gd : Bool} {k : Nat} {m y : Str} {ps : List Str} {p pos apos spos : Pos} {e o : Expr} {es : List Expr} {eva evo : Ev} {evs : EvL} {ct : CtD} {kws : List Keyword} {ks : List Str}
/-- o.m(..), whatever class o is of -/
def tMethG (gd : Bool) (X : Cx) (W : WX) (k : Nat) (m : Str) (ta : TE) (t : TA) : TE := fun σ H Q => ta σ H fun x H1 => ∃ (a C : Addr) (dx : Addr) (fs : List (Str × V)), x = .ref a ∧ H1 a = some (.ins C dx fs) ∧ fs.lookup m = none ∧ Cls X.K C ∧ ∃ f, Meth X.K C m f ∧
  t σ H1 fun vs H2 => ∃ (fd : FuncData) (ps : List Str) (sp : Sp), FnX X.prog X.w X.K X.mg X.base gd k f fd ps sp ∧ Binds X.K fd ps [] ∧ sp (x :: vs) H2 Q (fun c d H' => W c d σ H')
theorem pex_meth {pl : Sem Bool} {ta : TE} {t : TA} (he : PE X o ta) (hr : Room k X.A) (hgd : gd = true → X.A.guards = some []) (tk : Takes X W) (ha : PA X (e :: es) t)
    (hst : starEach (e :: es) X.env = (false, eval e X.env) :: starEach es X.env := by rfl) (hpl : (backTo pos (starEach es X.env)).any (·.1) = false := by rfl)
    (ht : eval (.Call (.Attribute o m apos) (e :: es) [] pos) X.env = (do
      let ov ← eval o X.env
      standAt apos.atName
      let (f, first) ← holding [ov] (getMethod ov m pl)
      callWith pos f first (backTo pos (starEach (e :: es) X.env)) (backToKw pos (keywordEach [] X.env))) := by rfl) :
    PE X (.Call (.Attribute o m apos) (e :: es) [] pos) (tMethG gd X W k m ta t) := by
  refine ⟨fun pins s σ H Q I h => ?_⟩
  refine PySem.W.methodCall_KW (pl := pl) (thn (he.run pins s σ H _ I h) fun u s1 ⟨x, H1, I1, rx, a, C, dx, fs, ex, ea, l, c, f, hm, q⟩ => ?_) ht
  subst ex
  obtain rfl : u = Value.ref a := rx
  refine getmeth_ok I1 ea c hm l ?_
  refine PySem.W.callWith_K (first := [.ref a]) (h₀ := X.base) I.ok.mod.kin hm.kp (thn (ha.run pos pins s1 σ H1 _ I1 q) fun us s2 ⟨vs, H2, I2, r, q2⟩ => ⟨I2.kIn, ?_⟩) hst hpl
  obtain ⟨fd, ps, sp, F, hb, q3⟩ := q2
  exact fnx_run (us := .ref a :: us) (vs := .ref a :: vs) F hr hgd hb tk I2 (.cons rfl r) q3
theorem pex_meth0 {pl : Sem Bool} {ta : TE} (he : PE X o ta) (hr : Room k X.A) (hgd : gd = true → X.A.guards = some []) (tk : Takes X W)
    (ht : eval (.Call (.Attribute o m apos) [] [] pos) X.env = (do
      let ov ← eval o X.env
      standAt apos.atName
      let (f, first) ← holding [ov] (getMethod ov m pl)
      callWith pos f first (backTo pos (starEach [] X.env)) (backToKw pos (keywordEach [] X.env))) := by rfl) :
    PE X (.Call (.Attribute o m apos) [] [] pos) (tMethG gd X W k m ta tNil) := by
  refine ⟨fun pins s σ H Q I h => ?_⟩
  refine PySem.W.methodCall_KW (pl := pl) (thn (he.run pins s σ H _ I h) fun u s1 ⟨x, H1, I1, rx, a, C, dx, fs, ex, ea, l, c, f, hm, q⟩ => ?_) ht
  subst ex
  obtain rfl : u = Value.ref a := rx
  refine getmeth_ok I1 ea c hm l ?_
  obtain ⟨fd, ps, sp, F, hb, q3⟩ := q
  exact PySem.W.callWith_K0 (first := [.ref a]) I1.kIn hm.kp (fnx_run (us := [.ref a]) (vs := [.ref a]) F hr hgd hb tk I1 (.cons rfl .nil) q3)
theorem takesF {X : Cx} : Takes X (fun _ _ _ _ => False) := fun _ _ x => by
  obtain ⟨_, _, _, _, _, _, _, _, _, _, _, _, _, _, _, _, z⟩ := x
  exact z.elim
/-- the reading of o.m(..), by data -/
theorem meth_split {D' : Mem → Prop} {Q : VK} {σ : L2.St} {H : Hp} {m0 : List Addr} {M M1 M2 : Mem} {ρ : Loc} {od : D} {ds : List D} {r : Ro D × Mem} (T : FnsX X.prog X.w X.K X.mg X.base fa tab call gd k) (C : CtOk X.K fa ct) (hρ : Rho (GX X fa) H m0 ρ σ) (hM : RM (GX X fa) H m0 M)
    (e1 : evo ρ M = some (od, M1)) (e2 : evs ρ M1 = some (ds, M2)) (e3 : gMeth ct tab m call od M1 ds M2 = some r)
    (fin : Fin (GX X fa) m0 H r.2 fun m' H' => Rho (GX X fa) H' m' ρ σ → match r.1 with
      | .val d => ∀ v, RD (GX X fa) H' m' d v → Q v H'
      | .exc c x => ∀ dd w, H' dd = some (.xd [("value", w)]) → RD (GX X fa) H' m' x w → W (.ref (fa c)) (some dd) σ H') : tMethG gd X W k m (TEof (GX X fa) evo) (TAof (GX X fa) evs) σ H Q := by
  obtain ⟨n, c, fs, i, y, ps, rfl, q1, q2, q3, q4, q5, q6⟩ := gMeth_inv e3
  refine ⟨m0, M, ρ, .ref n, M1, hρ, hM, e1, fun m1 H1 a1 b1 c1 v rv => ?_⟩
  cases rv with
  | @ref _ a ha =>
    obtain ⟨dx, gs, g1, g2⟩ := c1.at_ _ _ _ ha q1
    obtain ⟨hc, hm⟩ := C.me c m i q3
    refine ⟨a, fa c, dx, gs, rfl, g1, g2.none q2, hc, fa i, hm, ?_⟩
    refine ⟨m1, M1, ρ, ds, M2, hρ.mono a1 b1, c1, e2, fun m2 H2 a2 b2 c2 vs rds => ?_⟩
    obtain ⟨hk, fd, hb, _, F⟩ := T.ok i y ps q4
    refine ⟨fd, ps, _, F, hb, by rw [List.length_cons, ← rds.length]; exact q5.symm, m2, M2, .ref n :: ds, r.1, r.2, .cons (.ref (pre_get a2 ha)) rds, c2, q6, fun m3 H3 a3 b3 c3 => ?_⟩
    have f := fin m3 H3 ((a1.trans a2).trans a3) ((b1.trans b2).trans b3) c3 (((hρ.mono a1 b1).mono a2 b2).mono a3 b3)
    cases h : r.1 with
    | val d => rw [h] at f; exact f
    | exc cc x => rw [h] at f; exact f
/-- as a worth, where nothing is raised -/
def eMeth (ct : CtD) (tab : List (Str × List Str)) (m : Str) (call : CallX) (evo : Ev) (evs : EvL) : Ev := fun ρ M => bindO (evo ρ M) fun o M1 => bindO (evs ρ M1) fun ds M2 => dnX (gMeth ct tab m call o M1) ds M2
theorem eMeth_imp {σ : L2.St} {H : Hp} {Q : VK} (T : FnsX X.prog X.w X.K X.mg X.base fa tab call gd k) (C : CtOk X.K fa ct) (h : TEof (GX X fa) (eMeth ct tab m call evo evs) σ H Q) : tMethG gd X (fun _ _ _ _ => False) k m (TEof (GX X fa) evo) (TAof (GX X fa) evs) σ H Q := by
  obtain ⟨m0, M, ρ, d, M', hρ, hM, e, fin⟩ := h
  unfold eMeth at e
  cases q : evo ρ M with
  | none => rw [q] at e; cases e
  | some pr =>
    obtain ⟨od, M1⟩ := pr
    rw [q] at e
    have e' : bindO (evs ρ M1) (fun ds M2 => dnX (gMeth ct tab m call od M1) ds M2) = some (d, M') := e
    cases q2 : evs ρ M1 with
    | none => rw [q2] at e'; cases e'
    | some pr =>
      obtain ⟨ds, M2⟩ := pr
      rw [q2] at e'
      have e2 : dnX (gMeth ct tab m call od M1) ds M2 = some (d, M') := e'
      unfold dnX at e2
      split at e2
      · rename_i d2 M3 q3
        cases e2
        exact meth_split (D' := fun _ => True) T C hρ hM q q2 q3 fun m' H' a b c _ => fin m' H' a b c
      · cases e2
theorem l_meth {pl : Sem Bool} (T : FnsX X.prog X.w X.K X.mg X.base fa tab call gd k) (C : CtOk X.K fa ct) (hr : Room k X.A) (hgd : gd = true → X.A.guards = some []) (ho : PE X o (TEof (GX X fa) evo)) (ha : PA X (e :: es) (TAof (GX X fa) evs))
    (hst : starEach (e :: es) X.env = (false, eval e X.env) :: starEach es X.env := by rfl) (hpl : (backTo pos (starEach es X.env)).any (·.1) = false := by rfl)
    (ht : eval (.Call (.Attribute o m apos) (e :: es) [] pos) X.env = (do
      let ov ← eval o X.env
      standAt apos.atName
      let (f, first) ← holding [ov] (getMethod ov m pl)
      callWith pos f first (backTo pos (starEach (e :: es) X.env)) (backToKw pos (keywordEach [] X.env))) := by rfl) :
    PE X (.Call (.Attribute o m apos) (e :: es) [] pos) (TEof (GX X fa) (eMeth ct tab m call evo evs)) :=
  (pex_meth ho hr hgd takesF ha hst hpl ht).imp fun _ _ _ h => eMeth_imp T C h
theorem l_meth0 {pl : Sem Bool} (T : FnsX X.prog X.w X.K X.mg X.base fa tab call gd k) (C : CtOk X.K fa ct) (hr : Room k X.A) (hgd : gd = true → X.A.guards = some []) (ho : PE X o (TEof (GX X fa) evo))
    (ht : eval (.Call (.Attribute o m apos) [] [] pos) X.env = (do
      let ov ← eval o X.env
      standAt apos.atName
      let (f, first) ← holding [ov] (getMethod ov m pl)
      callWith pos f first (backTo pos (starEach [] X.env)) (backToKw pos (keywordEach [] X.env))) := by rfl) :
    PE X (.Call (.Attribute o m apos) [] [] pos) (TEof (GX X fa) (eMeth ct tab m call evo eNil)) := by
  refine (pex_meth0 ho hr hgd takesF ht).imp fun σ H Q h => ?_
  obtain ⟨m0, M, ρ, d, M', hρ, hM, e, fin⟩ := eMeth_imp T C h
  refine ⟨m0, M, ρ, d, M', hρ, hM, e, fun m' H' a b c v rv => ?_⟩
  obtain ⟨a, C, dx, fs, e1, e2, e3, e4, f, e5, h6⟩ := fin m' H' a b c v rv
  obtain ⟨m2, M2, ρ2, ds, M3, hρ2, hM2, e6, fin2⟩ := h6
  cases e6
  exact ⟨a, C, dx, fs, e1, e2, e3, e4, f, e5, fin2.here hM2 [] .nil⟩
end
end Mi
set_option Elab.async false
set_option linter.all false
set_option maxRecDepth 100000
set_option maxHeartbeats 2000000
/-! try: .. except C as n: y = n, where the caught object is tracked behind it -/
namespace Mi
open PySem PySem.Spec PyProof.Rows L2
theorem xkO_ok {P : Program} {w : World} {H : Hp} {h : Heap} {a : Addr} {cls : Value} {d : Option Addr} {oe : Obj} {vs : Array Value} (e : h.get? a = some oe) (z : Zc cls d oe) (dd : oe.data = .fields vs) : ObjOk P w H h a (XkO cls d a) :=
  ⟨⟨oe, vs, e, z, dd⟩, ⟨oe, e⟩, fun _ _ ⟨o, v, q, r⟩ k => ⟨o, v, k o q, r⟩⟩
/-- an object that stands and is not told of is told of from now on -/
theorem inv_track {X : Cx} {pins : List (Addr × Obj)} {σ : L2.St} {H : Hp} {s : Shared} {a : Addr} {o : HO} (I : Inv X pins σ H s) (hn : H a = none) (h0 : X.s_0.heap.get? a = none) (hp : ∀ p ∈ X.pn ++ pins, p.1 ≠ a) (hL : a ≠ X.env.locals)
    (hc : ∀ x c, X.env.cells.lookup x = some c → c ≠ a) (ok : ObjOk X.prog X.w (upd H a o) s.heap a o) : Inv X pins σ (upd H a o) s := by
  have ne : ∀ {b : Addr} {u : HO}, H b = some u → b ≠ a := fun {b u} q z => by rw [z, hn] at q; cases q
  refine ⟨I.ok, I.os, I.bare, ⟨I.base.keep, I.base.slot, fun b u e n hx => ?_, I.base.there, fun b xs e => ?_, fun b u v e => ?_, fun b ps e => ?_⟩, I.loc, I.cell, ?_, fun x c e => ?_, fun p hm => ?_, fun b u q => ?_, I.len⟩
  · rw [upd_ne (fun z => by rw [z, h0] at e; cases e)]
    exact I.base.free b u e n hx
  · have q := I.base.tups b xs e
    rw [upd_ne (ne q)]
    exact q
  · have q := I.base.frzs b u v e
    rw [upd_ne (ne q)]
    exact q
  · obtain ⟨more, q⟩ := I.base.tbls b ps e
    exact ⟨more, by rw [upd_ne (ne q)]; exact q⟩
  · rw [upd_ne (Ne.symm hL)]
    exact I.free
  · rw [upd_ne (hc x c e)]
    exact I.freeC x c e
  · obtain ⟨e1, e2, e3⟩ := I.pin p hm
    exact ⟨e1, by rw [upd_ne (hp p hm)]; exact e2, e3⟩
  · by_cases hb : b = a
    · subst hb
      rw [upd_same] at q
      cases q
      exact ok
    · rw [upd_ne hb] at q
      exact (I.hok b u q).stay (fun _ _ _ z => z) (fun c z => by rw [upd_ne (ne z)]; exact z) fun c xs z => by rw [upd_ne (ne z)]; exact z
section
variable {X : Cx} {pins : List (Addr × Obj)} {σ : L2.St} {H : Hp} {sI : Shared} {B : Heap} {a : Addr}
/-- what is known of the address of an exception that landed in X's frame -/
structure Fresh (X : Cx) (pins : List (Addr × Obj)) (a : Addr) : Prop where
  no0 : X.s_0.heap.get? a = none
  pin : ∀ p ∈ X.pn ++ pins, p.1 ≠ a
  loc : a ≠ X.env.locals
  frs : a ∉ X.fs
theorem fresh_of (hex : X.ex = []) (hs : X.stack = X.env :: X.outer) (hf : X.env.frame = some X.env.locals) (J : Inv X pins σ H sI) (nb : ∀ b o, sI.heap.get? b = some o → b ∉ frs X.stack → B.get? b = some o) (bn : B.get? a = none) (out : a ∉ frs X.stack) : Fresh X pins a := by
  have stk : ∀ b, b ∈ frs X.stack → b = X.env.locals ∨ b ∈ X.fs := fun b hb => by
    rw [hs] at hb
    obtain ⟨e, he, q⟩ := List.mem_filterMap.mp hb
    cases he with
    | head => rw [hf] at q; exact .inl (Option.some.inj q).symm
    | tail _ he => exact .inr (List.mem_filterMap.mpr ⟨e, he, q⟩)
  have inFs : ∀ b, b ∈ X.fs → b ∈ frs X.stack := fun b hb => by
    obtain ⟨e, he, q⟩ := List.mem_filterMap.mp hb
    rw [hs]
    exact List.mem_filterMap.mpr ⟨e, List.mem_cons_of_mem _ he, q⟩
  have other : ∀ b o, sI.heap.get? b = some o → b ∉ frs X.stack → b ≠ a := fun b o e hb z => by
    have y := nb b o e hb
    rw [z, bn] at y
    cases y
  constructor
  · cases e : X.s_0.heap.get? a with
    | none => rfl
    | some o =>
      obtain ⟨o', e'⟩ := J.base.there a o e (by rw [hex]; exact fun z => nomatch z)
      exact absurd rfl (other a o' e' out)
  · intro p hp
    obtain ⟨e1, _, e3, e4, _⟩ := J.pin p hp
    exact other p.1 p.2 e1 fun hm => (stk _ hm).elim e3 e4
  · intro z
    refine out ?_
    rw [hs]
    exact List.mem_filterMap.mpr ⟨X.env, List.mem_cons_self, by rw [hf, z]⟩
  · exact fun hm => out (inFs a hm)
end
/-- what the clause 'except c as n: y = n' wishes (n in slot i, y in slot j) -/
def wKeep (K : PySem.W.Frag) (c : Value) (i j : Nat) (Wout : WX) (D : Ends) : WX := fun cls d σ H =>
  ∃ b, PySem.W.exmOne K cls c = some b ∧ (b = true → i < σ.length ∧ ∀ a, H a = none → D.nx (((σ.set i (some (.ref a))).set j (some (.ref a))).set i none) (upd H a (XkO cls d a))) ∧ (b = false → Wout cls d σ H)
section
variable {X : Cx} {x n y : Str} {c : Value} {i j : Nat} {body : List Stmt} {np yp vp sp pos pos' : Pos} {tb : WX → TS} {Wout : WX}
abbrev clauseK (x n y : Str) (np yp vp sp pos' : Pos) : ExceptHandler := .ExceptHandler (some (.Name x np)) (some n) [.Assign [.Name y yp] (.Name n vp) sp] pos'
/-- an exception of the body, at the clause -/
theorem keep_catch (hex : X.ex = []) (hs : X.stack = X.env :: X.outer) (hf : X.env.frame = some X.env.locals) (hN : X.N.Nodup) (hi : X.N[i]? = some n) (hj : X.N[j]? = some y) (hln : X.env.kindOf n = some .local) (hly : X.env.kindOf y = some .local) (hc : Names X x c) (tk : Takes X Wout)
    (hsw : ∀ (a : Addr) (oe : Obj) (pn : List (Addr × Obj)), swapsWith (.Name n vp) (some (.Name y yp)) sp.line (X.suite a ((a, oe) :: pn)).env = pure false)
    (hd : (n == ("__debug__" : Str)) = false) (hcd : (n == ("__classdict__" : Str)) = false)
    {pins : List (Addr × Obj)} {D : Ends} {xe : Value → Shared → Prop} (ok : X.Ok) (u : Value) (s' : Shared) (air : XE (X.tr (X.pn ++ pins) xe) (wKeep X.K c i j Wout D) u s') :
    wpAny (model X.prog X.w) X.A (noteFrame u X.env) (fun _ s₂ => wpAny (model X.prog X.w) X.A (setFlight u none) (fun _ s₃ => wpAny (model X.prog X.w) X.A (handleBy u X.env [clauseK x n y np yp vp sp pos']) (SP X pins D) X.xe s₃) X.xe s₂) X.xe s' := by
  obtain ⟨a, B, sI, pins', σ', H', cls, d, rfl, Jt, nb, up, sky, na, os, ag, b, hb, hyes, hno⟩ := air
  have J : Inv X pins σ' H' sI := Jt.ofTry ok
  have fr : X.A.frames = some (X.env :: X.outer) := by rw [ok.frames, hs]
  have sky2 : Sky B (X.env :: X.outer) a (Zc cls d) X.env.locals s'.heap := by rw [← hs]; exact sky
  refine Sky.land Zc.steady fr hf sky2 fun h3 fly3 up3 => ?_
  -- on the ground
  obtain ⟨oe3, vs3, at3, z3, f3⟩ := fly3.there
  have out : a ∉ frs X.stack := fun hm => by
    rw [hs] at hm
    obtain ⟨_, o', e', nf⟩ := fly3.2.2.1.mem hm
    rw [at3] at e'
    cases e'
    exact nf _ f3
  have F : Fresh X pins a := fresh_of hex hs hf J nb fly3.2.1 out
  have ground : ∀ {h : Heap}, HandSPX.FlyingZ B (X.env :: X.outer) a (Zc cls d) h → s'.heap.UpToSlots h → Inv X pins σ' H' { s' with heap := h } := fun fl u => J.landed nb fl.1 (up.trans u) os ag
  have S3 := (ground fly3 up3).suite at3 f3 na F.loc F.frs
  -- the test
  refine wpAny_handleBy_cons (codeAny_handlers_test ?_) (by intro q; cases q)
  have LT : PySem.W.Looks (model X.prog X.w) h3 (typeOf (.ref a)) cls := fun A Q E s k q => wpAny_typeOf_ref (k _ _ at3) (by rw [z3.1]; exact q)
  have named : ∀ {Q : Value → Shared → Prop} {E : Value → Shared → Prop}, Q c { s' with heap := h3 } → wpAny (model X.prog X.w) (X.A.mark (some (.ref a))) (eval (.Name x np) X.env) Q E { s' with heap := h3 } := fun q => by
    obtain ⟨g1, g2, g3⟩ := hc
    rcases g3 with g3 | ⟨g3, g4, g5⟩
    · exact ld_glob (X := X.suite a ((a, oe3) :: (X.pn ++ pins))) S3 g1 g3 q g2
    · exact ld_blt (X := X.suite a ((a, oe3) :: (X.pn ++ pins))) S3 g1 g3 g4 q g5 g2
  refine named ((PySem.W.exm_one (M := model X.prog X.w) (ground fly3 up3).kIn LT hb).here ?_)
  cases b with
  | false =>
    show wpAny _ X.A (handleBy (.ref a) X.env []) _ _ _
    refine wpAny_handleBy_nil ?_
    obtain ⟨_, _, _, oe, vs, T, _, _, at_, _, fd, h1, _⟩ := id fly3
    unfold PySem.passOn
    refine wpAny_bind (wpAny_field at_ fd h1 ?_)
    rw [if_neg (show ¬ ((Value.ref T == Value.none) = true) from by simp)]
    have on : wpAny (model X.prog X.w) X.A (setFlight (.ref a) X.env.frame) (fun _ s4 => wpAny (model X.prog X.w) X.A (throw (.ref a) : Sem Flow) (SP X pins D) X.xe s4) X.xe { s' with heap := h3 } := by
      rw [hf]
      refine HandSPX.setFlight_upZ fly3 fun h4 held up4 => wpAny_throw (tk _ _ ?_)
      exact ⟨a, B, sI, pins, σ', H', cls, d, rfl, J, nb, (up.trans up3).trans up4, .inr (.inr (by rw [hs]; exact held)), na, os, ag, hno rfl⟩
    first
      | exact wpAny_bind (wpAny_pure (wpAny_bind on))
      | exact wpAny_bind on
  | true =>
    obtain ⟨hlt, hq⟩ := hyes rfl
    refine codeAny_handlers_suite_as (HandSPX.lands_againZ fly3 fun h4 fly4 up4 => ?_)
    obtain ⟨oe4, vs4, at4, z4, f4⟩ := fly4.there
    have S4 := (ground fly4 (up3.trans up4)).suite at4 f4 na F.loc F.frs
    refine store_ok (X := X.suite a ((a, oe4) :: (X.pn ++ pins))) (v := .ref a) S4 hN hi (.inl hln) rfl (fun s5 S5 => ?_) (.inr hln)
    -- y = n
    have asg : PSs (X.suite a ((a, oe4) :: (X.pn ++ pins))) [.Assign [.Name y yp] (.Name n vp) sp] (fun D σ H => ∃ v, σ[i]? = some (some v) ∧ D.nx (σ.set j (some v)) H) :=
      pss_one ((ps_set (X := X.suite a ((a, oe4) :: (X.pn ++ pins))) (i := j) hN hj (.inl hly) (pe_var (i := i) hi (.inl hln) hd hcd) (hsw a oe4 _) (.inr hly)).imp fun D σ H h => h)
    refine wpAny_mono (asg.run [] s5 _ H' { nx := fun σ H => σ = (σ'.set i (some (.ref a))).set j (some (.ref a)) ∧ H = H', rt := fun _ _ => False, bk := fun _ _ => False, ct := fun _ _ => False } S5 ⟨.ref a, by rw [List.getElem?_set_self hlt], rfl, rfl⟩) (fun f s6 hsp => ?_) (fun _ _ z => False.elim z)
    cases f with
    | ret v => obtain ⟨_, _, _, _, _, q⟩ := hsp; exact q.elim
    | brk => obtain ⟨_, _, _, q⟩ := hsp; exact q.elim
    | cont => obtain ⟨_, _, _, q⟩ := hsp; exact q.elim
    | next =>
      obtain ⟨σ6, H6, S6, e1, e2⟩ := hsp
      subst e1 e2
      obtain ⟨at6, na6, _⟩ := S6.pin (a, oe4) (List.mem_append_left _ List.mem_cons_self)
      have cells : ∀ x c, X.env.cells.lookup x = some c → c ≠ a := fun x c e z => by
        obtain ⟨v, o, ho, hv⟩ := S6.cell x c e
        rw [z] at ho
        cases ho.symm.trans at6
        rw [f4] at hv
        cases hv
      exact gone_ok (inv_track (S6.unsuite ok) na6 F.no0 F.pin F.loc cells (xkO_ok at6 z4 f4)) hN hi hln fun s7 J7 => ⟨_, _, J7, hq a na6⟩
theorem ps_keep (hex : X.ex = []) (hs : X.stack = X.env :: X.outer) (hf : X.env.frame = some X.env.locals) (hN : X.N.Nodup) (hi : X.N[i]? = some n) (hj : X.N[j]? = some y) (hln : X.env.kindOf n = some .local) (hly : X.env.kindOf y = some .local) (hc : Names X x c) (tk : Takes X Wout)
    (hb : ∀ (W : WX) (pn : List (Addr × Obj)) (xe : Value → Shared → Prop), Takes (X.tr pn xe) W → PassesOwn (model X.prog X.w) X.A X.env xe → PSs (X.tr pn xe) body (tb W))
    (hsw : ∀ (a : Addr) (oe : Obj) (pn : List (Addr × Obj)), swapsWith (.Name n vp) (some (.Name y yp)) sp.line (X.suite a ((a, oe) :: pn)).env = pure false)
    (hd : (n == ("__debug__" : Str)) = false) (hcd : (n == ("__classdict__" : Str)) = false) : PS X (.Try body [clauseK x n y np yp vp sp pos'] [] [] pos) (fun D σ H => tb (wKeep X.K c i j Wout D) D σ H) := by
  refine ⟨fun pins s σ H D I h => wpAny_Try_except ?_⟩
  have run := (hb (wKeep X.K c i j Wout D) (X.pn ++ pins) _ (fun u s' air => keep_catch (np := np) (pos' := pos') (D := D) hex hs hf hN hi hj hln hly hc tk hsw hd hcd I.ok u s' air) PassesOwn.looking).run [] s σ H D (I.toTry _) h
  refine wpAny_mono run (fun f s1 q => ?_) fun _ _ q => q
  cases f with
  | next => obtain ⟨σ', H', J, q⟩ := q; exact wpAny_execs_nil ⟨σ', H', J.ofTry I.ok, q⟩
  | ret v => obtain ⟨w, σ', H', J, r, q⟩ := q; exact ⟨w, σ', H', J.ofTry I.ok, r, q⟩
  | brk => obtain ⟨σ', H', J, q⟩ := q; exact ⟨σ', H', J.ofTry I.ok, q⟩
  | cont => obtain ⟨σ', H', J, q⟩ := q; exact ⟨σ', H', J.ofTry I.ok, q⟩
end
end Mi
set_option Elab.async false
set_option linter.all false
set_option maxRecDepth 100000
set_option maxHeartbeats 1000000
namespace Mi
open PySem PySem.Spec PyProof.Rows L2
/-- try: b / except C as n (slot i): y (slot j) = n; ecl: whether C takes a class -/
def sTryK (i j : Nat) (ecl : Nat → Option Bool) (b : Es) : Es := fun ρ M => match b ρ M with
  | some (.exc ρ1 c v, M1) => match ecl c with
    | some true => if i < ρ1.length then some (.next (wipeD ((ρ1.set i (some (.ref M1.length))).set j (some (.ref M1.length))) [i]), M1 ++ [.xo c v]) else none
    | some false => some (.exc ρ1 c v, M1)
    | none => none
  | r => r
section
variable {W : WX} {X : Cx} {fa : Nat → Addr} {x n y : Str} {i j : Nat} {body : List Stmt} {np yp vp sp pos pos' : Pos} {bd : Es} {ecl : Nat → Option Bool} {C : Addr}
theorem l_tryKeep (hex : X.ex = []) (hs : X.stack = X.env :: X.outer) (hf : X.env.frame = some X.env.locals) (hN : X.N.Nodup) (hi : X.N[i]? = some n) (hj : X.N[j]? = some y) (hln : X.env.kindOf n = some .local) (hly : X.env.kindOf y = some .local) (hc : Names X x (.ref C)) (tk : Takes X W)
    (hE : ∀ c b, ecl c = some b → PySem.W.exmOne X.K (.ref (fa c)) (.ref C) = some b)
    (hb : ∀ (W' : WX) (pn : List (Addr × Obj)) (xe : Value → Shared → Prop), Takes (X.tr pn xe) W' → PassesOwn (model X.prog X.w) X.A X.env xe → PSs (X.tr pn xe) body (TSw W' (GX X fa) bd))
    (hsw : ∀ (a : Addr) (oe : Obj) (pn : List (Addr × Obj)), swapsWith (.Name n vp) (some (.Name y yp)) sp.line (X.suite a ((a, oe) :: pn)).env = pure false)
    (hd : (n == ("__debug__" : Str)) = false := by decide) (hcd : (n == ("__classdict__" : Str)) = false := by decide) :
    PS X (.Try body [.ExceptHandler (some (.Name x np)) (some n) [.Assign [.Name y yp] (.Name n vp) sp] pos'] [] [] pos) (TSw W (GX X fa) (sTryK i j ecl bd)) := by
  refine (ps_keep (tb := fun W' => TSw W' (GX X fa) bd) (Wout := W) hex hs hf hN hi hj hln hly hc tk hb hsw hd hcd).imp fun D σ H ⟨m, M, ρ, o, M', hρ, hM, e, fin⟩ => ?_
  · unfold sTryK at e
    cases q : bd ρ M with
    | none => rw [q] at e; cases e
    | some pr =>
      obtain ⟨o1, M1⟩ := pr
      rw [q] at e
      refine ⟨m, M, ρ, o1, M1, hρ, hM, q, ?_⟩
      cases o1 with
      | next ρ1 => cases e; exact fin
      | ret d1 => cases e; exact fin
      | brk ρ1 => cases e; exact fin
      | cont ρ1 => cases e; exact fin
      | exc ρ1 c v =>
        intro m1 H1 a1 b1 c1 σ1 dd w hρ1 hd1 rd1
        have e' : (match ecl c with
          | some true => if i < ρ1.length then some (Fl.next (wipeD ((ρ1.set i (some (.ref M1.length))).set j (some (.ref M1.length))) [i]), M1 ++ [.xo c v]) else none
          | some false => some (Fl.exc ρ1 c v, M1)
          | none => none) = some (o, M') := e
        cases ec : ecl c with
        | none => rw [ec] at e'; cases e'
        | some b =>
          rw [ec] at e'
          refine ⟨b, hE c b ec, fun hb1 => ?_, fun hb1 => ?_⟩
          · subst hb1
            have e2 : (if i < ρ1.length then some (Fl.next (wipeD ((ρ1.set i (some (.ref M1.length))).set j (some (.ref M1.length))) [i]), M1 ++ [MO.xo c v]) else none) = some (o, M') := e'
            split at e2
            · rename_i hlt
              cases e2
              refine ⟨by rw [hρ1.len]; exact hlt, fun a na => ?_⟩
              have xe : Ext (GX X fa) H1 (upd H1 a (XkO (.ref (fa c)) (some dd) a)) := Ext.new na
              have dne : dd ≠ a := fun z => by rw [z, na] at hd1; cases hd1
              have rl : RD (GX X fa) (upd H1 a (XkO (.ref (fa c)) (some dd) a)) (m1 ++ [a]) (.ref M1.length) (.ref a) := ref_last c1
              have hM2 : RM (GX X fa) (upd H1 a (XkO (.ref (fa c)) (some dd) a)) (m1 ++ [a]) (M1 ++ [.xo c v]) := c1.push na ⟨dd, w, upd_same, by rw [upd_ne dne]; exact hd1, rd1.mono (List.prefix_append _ _) xe⟩
              have hρ2 := (((hρ1.mono (List.prefix_append m1 [a]) xe).set i rl).set j rl).wipe [i]
              exact fin (m1 ++ [a]) _ (a1.trans (List.prefix_append _ _)) (b1.trans xe) hM2 _ hρ2
            · cases e2
          · subst hb1
            have e2 : some (Fl.exc ρ1 c v, M1) = some (o, M') := e'
            cases e2
            exact fin m1 H1 a1 b1 c1 σ1 dd w hρ1 hd1 rd1
end
end Mi
set_option Elab.async false
set_option linter.all false
set_option maxRecDepth 100000
set_option maxHeartbeats 1000000
/-! isinstance(x, C) of own classes; the value of a kept exception -/
namespace Mi
open PySem PySem.Spec PyProof.Rows L2
/-- what an own exception class must say -/
structure XkC (K : PySem.W.Frag) (C : Addr) : Prop where
  e : L2.ExcC K C
  noV : PySem.W.findIn K (.ref C) "value" = some none
/-- what an own class must say for isinstance of its instances -/
structure InC (K : PySem.W.Frag) (C : Addr) : Prop where
  cl : Cls K C
  ha : PySem.W.findIn K (.ref C) "__class__" = some (some (.builtin "object.__class__"))
  hn : PySem.W.specialIn K (.builtin "object.__class__") "__get__" = some (some (.builtin "getset_descriptor.__get__"))
  ht : PySem.W.takesIn K (.builtin "object.__class__") = some true
  hm : PySem.W.mroIn K C (.type "object") = some true
inductive TyC (K : PySem.W.Frag) (H : Hp) : V → Value → Prop where
  | base {x : V} {t : Value} (h : TyX K H x t) : TyC K H x t
  | ex {a C dd : Addr} {fs : List (Str × V)} (h1 : H a = some (XkO (.ref C) (some dd) a)) (h2 : H dd = some (.xd fs)) (h3 : XkC K C) : TyC K H (.ref a) (.ref C)
def rIsC (K : PySem.W.Frag) : List V → Hp → VK → Prop := fun xs H Q => ∃ (x : V) (C : Addr) (t : Value) (b : Bool), xs = [x, .ref C] ∧ TyC K H x t ∧ PySem.W.kitOne K t (.ref C) = some b ∧ Q (.bl b) H
section
variable {X : Cx}
theorem xk_at {pins : List (Addr × Obj)} {σ : L2.St} {H : Hp} {s : Shared} {a C dd : Addr} {fs : List (Str × V)} (I : Inv X pins σ H s) (h1 : H a = some (XkO (.ref C) (some dd) a)) (h2 : H dd = some (.xd fs)) :
    ∃ (oe od : Obj), PySem.W.InstAt s.heap a oe C (some od) ∧ ∃ mA : Str → Option Value, (∀ name, PySem.W.lookIn name od = some (mA name)) ∧ ∀ f, RelO (fs.lookup f) (mA f) := by
  obtain ⟨⟨oe, vs, ho, hz, hd⟩, _, _⟩ := (show ObjOk X.prog X.w H s.heap a (XkO (.ref C) (some dd) a) from I.hok a _ h1)
  obtain ⟨mA, hns, hr⟩ := (show ObjOk X.prog X.w H s.heap dd (.xd fs) from I.hok dd _ h2)
  obtain ⟨od, hod, hl⟩ := lookIn_ns hns
  exact ⟨oe, od, ⟨ho, hz.1, by unfold PySem.W.notCls; rw [hd] <;> rfl, by rw [hz.2]; exact hod⟩, mA, hl, hr⟩
theorem call_isC : CallR X (.builtin "isinstance") (rIsC X.K) := by
  intro pins s σ H xs us Q I r h
  obtain ⟨x, C, t, b, rfl, ty, e, q⟩ := h
  obtain ⟨u1, u2, rfl, r1, r2⟩ := vals2 r
  obtain rfl : u2 = Value.ref C := r2
  cases ty with
  | base ty =>
    obtain ⟨P, Z, p, hx⟩ := kit_of I r1 ty
    exact PySem.W.kia_one Z I.kIn p e hx fun tk => ⟨.bl b, H, I.tok tk, rfl, q⟩
  | @ex a D dd fs h1 h2 h3 =>
    obtain rfl : u1 = Value.ref a := r1
    obtain ⟨oe, od, J, _⟩ := xk_at I h1 h2
    have hcl : (PySem.W.clsIn X.K D).isSome = true := by
      obtain ⟨cd, hc, _⟩ := PySem.W.any_some h3.e.hd
      rw [hc]
      rfl
    exact PySem.W.kia_one (PySem.W.kitx_exc hcl h3.e.hg h3.e.hk h3.e.hs h3.e.ha h3.e.hn h3.e.ht h3.e.hm) I.kIn J e (fun z => nomatch z) fun tk => ⟨.bl b, H, I.tok tk, rfl, q⟩
/-- e.value, e kept -/
def tXv (K : PySem.W.Frag) (te : TE) : TE := fun σ H Q => te σ H fun x H1 => ∃ (a C dd : Addr) (v : V), x = .ref a ∧ H1 a = some (XkO (.ref C) (some dd) a) ∧ H1 dd = some (.xd [("value", v)]) ∧ XkC K C ∧ Q v H1
theorem pe_xv {e : Expr} {te : TE} {pos : Pos} (he : PE X e te) (hb : attributeBase e "value" X.env (eval e X.env) = eval e X.env) : PE X (.Attribute e "value" pos) (tXv X.K te) := by
  refine ⟨fun pins s σ H Q I h => ?_⟩
  refine attr_of hb (thn (he.run pins s σ H _ I h) fun u s1 ⟨x, H1, I1, rx, a, C, dd, v, ex, e1, e2, T, q⟩ => ?_)
  subst ex
  obtain rfl : u = Value.ref a := rx
  obtain ⟨oe, od, J, mA, hl, hr⟩ := xk_at I1 e1 e2
  have l : List.lookup ("value" : Str) [(("value" : Str), v)] = some v := by simp [List.lookup]
  obtain ⟨u, hu, ru⟩ := RelO.some_of (v := v) (o := mA "value") (by rw [← l]; exact hr "value")
  exact HandSPX.exc_get I1.kIn J T.e.hg T.e.hk T.e.hs (PySem.W.findObj_own T.e.hd T.noV rfl (by rw [hl, hu])) (handed_of ru) ⟨v, H1, I1.tok _, ru, q⟩
end
section
variable {X : Cx} {fa : Nat → Addr} {a e o : Expr} {eva evo : Ev} {pos p p2 : Pos} {ct : CtD} {xc : Nat → Bool}
/-- e.value of a kept exception -/
def eXv (xc : Nat → Bool) (evo : Ev) : Ev := fun ρ M => bindO (evo ρ M) fun d M1 => match d with
  | .ref n => match M1[n]? with
    | some (.xo c v) => if xc c = true then some (v, M1) else none
    | _ => none
  | _ => none
theorem l_xv (hx : ∀ c, xc c = true → XkC X.K (fa c)) (ho : PE X o (TEof (GX X fa) evo)) (hb : attributeBase o "value" X.env (eval o X.env) = eval o X.env := by rfl) : PE X (.Attribute o "value" pos) (TEof (GX X fa) (eXv xc evo)) := by
  refine (pe_xv ho hb).imp fun σ H Q ⟨m, M, ρ, d, M', hρ, hM, e, fin⟩ => ?_
  refine te_bind hρ hM e fin fun m1 H1 M1 d1 v hρ1 hM1 rd e1 fin1 p1 x1 => ?_
  cases rd with
  | @ref n a ha =>
    have e' : (match M1[n]? with
      | some (.xo c v) => if xc c = true then some (v, M1) else none
      | _ => none) = some (d, M') := e1
    split at e'
    · rename_i c v q
      split at e'
      · rename_i hc
        cases e'
        obtain ⟨dd, w, g1, g2, g3⟩ := hM1.at_ _ _ _ ha q
        exact ⟨a, fa c, dd, w, rfl, g1, g2, hx c hc, fin1.here hM1 _ g3⟩
      · cases e'
    · cases e'
  | non => cases e1
  | bl _ => cases e1
  | int _ => cases e1
  | str _ => cases e1
  | tup _ _ => cases e1
  | fn _ => cases e1
/-- of which class -/
def tyC (M : Mem) : D → Option (Nat ⊕ String)
  | .ref n => match M[n]? with
    | some (.ins c _) => some (.inl c)
    | some (.xo c _) => some (.inl c)
    | _ => (tyOf M (.ref n)).map .inr
  | d => (tyOf M d).map .inr
def tyV (fa : Nat → Addr) : Nat ⊕ String → Value
  | .inl c => .ref (fa c)
  | .inr s => .type s
theorem tyC_rel {G : Gm} {H : Hp} {m : List Addr} {M : Mem} {d : D} {v : V} {t : Nat ⊕ String} (hM : RM G H m M) (r : RD G H m d v) (e : tyC M d = some t) (hi : ∀ c, t = .inl c → ct.cl c = true → InC G.K (G.fa c)) (hx : ∀ c, t = .inl c → xc c = true → XkC G.K (G.fa c)) (hk : ∀ c, t = .inl c → (∀ n fs, d = .ref n → M[n]? = some (.ins c fs) → ct.cl c = true) ∧ ∀ n w, d = .ref n → M[n]? = some (.xo c w) → xc c = true) : TyC G.K H v (tyV G.fa t) := by
  have base : ∀ {d : D} {v : V}, RD G H m d v → ∀ n, tyOf M d = some n → TyC G.K H v (.type n) := fun r n e => .base (tyOf_rel hM r e).1
  cases r with
  | @ref n a ha =>
    have e' : (match M[n]? with
      | some (.ins c _) => some (.inl c)
      | some (.xo c _) => some (.inl c)
      | _ => (tyOf M (.ref n)).map .inr) = some t := e
    split at e'
    · rename_i c fs q
      cases e'
      obtain ⟨dx, gs, g1, _⟩ := hM.at_ _ _ _ ha q
      have J := hi c rfl ((hk c rfl).1 n fs rfl q)
      exact .base (.base (.ins g1 J.cl J.ha J.hn J.ht J.hm))
    · rename_i c w q
      cases e'
      obtain ⟨dd, v, g1, g2, _⟩ := hM.at_ _ _ _ ha q
      exact .ex g1 g2 (hx c rfl ((hk c rfl).2 n w rfl q))
    · obtain ⟨n', h1, rfl⟩ := Option.map_eq_some_iff.mp e'
      exact base (.ref ha) n' h1
  | non => obtain ⟨n', h1, rfl⟩ := Option.map_eq_some_iff.mp (show (tyOf M .non).map Sum.inr = some t from e); exact base .non n' h1
  | bl b => obtain ⟨n', h1, rfl⟩ := Option.map_eq_some_iff.mp (show (tyOf M (.bl b)).map Sum.inr = some t from e); exact base (.bl b) n' h1
  | int b => obtain ⟨n', h1, rfl⟩ := Option.map_eq_some_iff.mp (show (tyOf M (.int b)).map Sum.inr = some t from e); exact base (.int b) n' h1
  | str b => obtain ⟨n', h1, rfl⟩ := Option.map_eq_some_iff.mp (show (tyOf M (.str b)).map Sum.inr = some t from e); exact base (.str b) n' h1
  | tup h1 h2 => obtain ⟨n', h3, rfl⟩ := Option.map_eq_some_iff.mp (show (tyOf M (.tup _)).map Sum.inr = some t from e); exact base (.tup h1 h2) n' h3
  | fn i => obtain ⟨n', h1, rfl⟩ := Option.map_eq_some_iff.mp (show (tyOf M (.fn i)).map Sum.inr = some t from e); cases h1
def okC (ct : CtD) (xc : Nat → Bool) (M : Mem) : D → Bool
  | .ref n => match M[n]? with
    | some (.ins c _) => ct.cl c
    | some (.xo c _) => xc c
    | _ => true
  | _ => true
/-- isinstance(x, C), C the class c2 -/
def eIsC (ct : CtD) (xc : Nat → Bool) (tb : Nat ⊕ String → Option Bool) (ev : Ev) : Ev := fun ρ M => bindO (ev ρ M) fun d M1 => match tyC M1 d with
  | some t => if okC ct xc M1 d = true then (tb t).map fun b => (.bl b, M1) else none
  | none => none
theorem l_isC (c2 : Nat) {x : Str} {tb : Nat ⊕ String → Option Bool} (hi : ∀ c, ct.cl c = true → InC X.K (fa c)) (hx : ∀ c, xc c = true → XkC X.K (fa c)) (ht : ∀ t b, tb t = some b → PySem.W.kitOne X.K (tyV fa t) (.ref (fa c2)) = some b)
    (hm : X.mg x = some (.ref (fa c2))) (hk : PySem.W.keepIn X.K (.ref (fa c2)) = true) (hmi : X.mg "isinstance" = none) (ha : PE X a (TEof (GX X fa) eva)) (hg : Gl X "isinstance" := by rfl) (hg2 : Gl X x := by rfl) (hd : (x == ("__debug__" : Str)) = false := by decide)
    (s1 : starEach [a, .Name x p2] X.env = (false, eval a X.env) :: starEach [.Name x p2] X.env := by rfl) (s2 : starEach [.Name x p2] X.env = (false, eval (.Name x p2) X.env) :: starEach [] X.env := by rfl) (hpl : (backTo pos (starEach [.Name x p2] X.env)).any (·.1) = false := by rfl) :
    PE X (.Call (.Name "isinstance" p) [a, .Name x p2] [] pos) (TEof (GX X fa) (eIsC ct xc tb eva)) := by
  refine (pe_callB call_isC hg hmi boot_isinstance (pa_cons ha (pa_cons (pe_glob (v := V.ref (fa c2)) hg2 hm rfl hd) pa_nil s2) s1) (by decide) (by decide) s1 hpl).imp fun σ H Q ⟨m, M, ρ, d, M', hρ, hM, e, fin⟩ => ?_
  refine te_bind hρ hM e fin fun m1 H1 M1 d1 v hρ1 hM1 rd e1 fin1 p1 x1 => ?_
  cases q : tyC M1 d1 with
  | none => rw [q] at e1; cases e1
  | some t =>
    rw [q] at e1
    simp only at e1
    split at e1
    · rename_i hc
      obtain ⟨b, h1, h2⟩ := Option.map_eq_some_iff.mp e1
      cases h2
      refine ⟨v, fa c2, tyV fa t, b, rfl, tyC_rel (ct := ct) (xc := xc) hM1 rd q (fun c _ => hi c) (fun c _ => hx c) (fun c _ => ⟨fun n fs e1 e2 => ?_, fun n w e1 e2 => ?_⟩), ht t b h1, fin1.here hM1 _ (.bl b)⟩
      · subst e1; unfold okC at hc; simp only [e2] at hc; exact hc
      · subst e1; unfold okC at hc; simp only [e2] at hc; exact hc
    · cases e1
end
end Mi
set_option Elab.async false
set_option linter.all false
set_option maxRecDepth 100000
set_option maxHeartbeats 1000000
/-! lambdas without parameters: their bodies (one call), and the def that calls what it is handed -/
namespace Mi
open PySem PySem.Spec PyProof.Rows L2
/-- what a lambda's body comes to, or raises, by the maker's slots -/
abbrev Evx := L2.St → Prop
def TLof (G : Gm) (bl : Loc → Mem → Rx D) (E : XK) : TE := fun σ H Q => ∃ m M ρ o M', Rho G H m ρ σ ∧ RM G H m M ∧ bl ρ M = some (o, M') ∧ Fin G m H M' fun m' H' => match o with
  | .val d => ∀ v, RD G H' m' d v → Q v H'
  | .exc c x => ∀ dd w, H' dd = some (.xd [("value", w)]) → RD G H' m' x w → E (.ref (G.fa c)) (some dd) H'
/-- how a call ends -/
def XOk (G : Gm) (Q : VK) (E : XK) (r : Ro D) (m' : List Addr) (H' : Hp) : Prop := match r with
  | .val d => ∀ v, RD G H' m' d v → Q v H'
  | .exc c x => ∀ dd w, H' dd = some (.xd [("value", w)]) → RD G H' m' x w → E (.ref (G.fa c)) (some dd) H'
section
variable {X : Cx} {fa : Nat → Addr} {tab : List (Str × List Str)} {call : CallX} {k : Nat} {x m : Str} {ps : List Str} {p pos apos : Pos} {e o : Expr} {es : List Expr} {eva evo : Ev} {evs ekw : EvL} {ct : CtD} {kws : List Keyword} {ks : List Str} {E : XK} {t : TA} {nm : Option Str} {kpos : Pos}
theorem PK.imp {t' : TA} (h : PK X kws t) (i : ∀ σ H Q, t' σ H Q → t σ H Q) : PK X kws t' := ⟨fun pos pins s σ H Q I q => h.run pos pins s σ H Q I (i σ H Q q)⟩
theorem l_knil : PK X [] (TAof (GX X fa) eNil) := PK.imp pk_nil fun σ H Q ⟨m, M, ρ, d, M', hρ, hM, e, fin⟩ => by cases e; exact fin.here hM _ .nil
theorem l_kcons (ha : PE X e (TEof (GX X fa) eva)) (hr : PK X kws (TAof (GX X fa) ekw)) : PK X (⟨nm, e, kpos⟩ :: kws) (TAof (GX X fa) (eCons eva ekw)) := by
  refine PK.imp (pk_cons ha hr) fun σ H Q ⟨m, M, ρ, d, M', hρ, hM, e, fin⟩ => ?_
  refine te_bind hρ hM e fin fun m1 H1 M1 d1 v hρ1 hM1 rd e1 fin1 p1 x1 => ?_
  refine ta_bind hρ1 hM1 e1 fin1 fun m2 H2 M2 d2 vs hρ2 hM2 rds e2 fin2 p2 x2 => ?_
  cases e2
  exact fin2.here hM2 _ (.cons (rd.mono p2 x2) rds)
/-- the callee runs, its last arguments told by names -/
theorem fnx_runK {W : WX} {fd : FuncData} {f : Addr} {sp : Sp} {gd : Bool} {pins : List (Addr × Obj)} {σ : L2.St} {H : Hp} {st : Shared} {Q : VK} {us ws : List Value} {vs zs : List V} (F : FnX X.prog X.w X.K X.mg X.base gd k f fd ps sp) (hr : Room k X.A) (hg : gd = true → X.A.guards = some []) (hb : KwTail X.K fd ps) (tk : Takes X W)
    (I : Inv X pins σ H st) (r : Vals vs us) (rz : Vals zs ws) (hks : ks = ps.drop us.length) (h : sp (vs ++ zs) H Q (fun c d H' => W c d σ H')) : wpAny (model X.prog X.w) X.A (PySem.call (.ref f) us (ks.zip ws)) (EP X pins σ Q) X.xe st := by
  have r2 := r.append rz
  have hl : us.length + ws.length = ps.length := by rw [← List.length_append, ← r2.length]; exact F.count _ _ _ _ h
  have hb' := hb st us ws I.kIn hl
  rw [← hks] at hb'
  apply wpAny_call
  refine codeAny_mono (F.go X.A X.stack st H _ (us ++ ws) (vs ++ zs) Q _ hr hg I.env0 hb' r2 h) ?_
  intro rs s' hq
  cases rs with
  | error z => exact tk _ _ (XE.of_call I (fun _ _ _ h => h) hq)
  | ok fl =>
    cases fl with
    | ret u => exact I.after hq
    | next => exact hq.elim
    | brk => exact hq.elim
    | cont => exact hq.elim
/-- f(k = v, ..), all by names, as a lambda's body -/
def bCallK (g : List D → Mem → Rx D) (ekw : EvL) : Loc → Mem → Rx D := fun ρ M => match ekw ρ M with
  | some (ds, M1) => g ds M1
  | none => none
theorem l_lamCall (i : Nat) (T : FnsX X.prog X.w X.K X.mg X.base fa tab call false k) (tk : Takes X (fun c d _ H => E c d H)) (hm : X.mg x = some (.ref (fa i))) (hr : Room k X.A) (ha : PA X (e :: es) (TAof (GX X fa) evs)) (hi : tab[i]? = some (x, ps) := by rfl) (hl : ps.length = es.length + 1 := by rfl)
    (hev : ∀ ρ M ds M', evs ρ M = some (ds, M') → ds.length = es.length + 1 := by repeat (first | exact len_nil | apply len_cons)) (hg : Gl X x := by rfl) (hdb : (x == ("__debug__" : Str)) = false := by decide) (he : starEach (e :: es) X.env = (false, eval e X.env) :: starEach es X.env := by rfl) (hpl : (backTo pos (starEach es X.env)).any (·.1) = false := by rfl) :
    PE X (.Call (.Name x p) (e :: es) [] pos) (TLof (GX X fa) (bCallK (call i) evs) E) := by
  obtain ⟨hk, fd, hb, _, F⟩ := T.ok i x ps hi
  refine (pex_call F hr (fun z => nomatch z) hg hm hk hb tk ha hdb he hpl).imp fun σ H Q ⟨m, M, ρ, o, M', hρ, hM, e, fin⟩ => ?_
  have hev' := hev ρ M
  unfold bCallK at e
  cases q : evs ρ M with
  | none => rw [q] at e; cases e
  | some pr =>
    obtain ⟨ds, M1⟩ := pr
    rw [q] at e
    refine ⟨m, M, ρ, ds, M1, hρ, hM, q, fun m1 H1 a b c vs rds => ?_⟩
    exact ⟨by rw [← rds.length, hl]; exact hev' ds M1 q, m1, M1, ds, o, M', rds, c, e, fin.mono a b⟩
theorem l_lamCallK (i : Nat) (T : FnsX X.prog X.w X.K X.mg X.base fa tab call false k) (tk : Takes X (fun c d _ H => E c d H)) (hm : X.mg x = some (.ref (fa i))) (hr : Room k X.A) (hkw : PK X kws (TAof (GX X fa) ekw)) (hi : tab[i]? = some (x, ps) := by rfl)
    (hks : (backToKw pos (keywordEach kws X.env)).filterMap (·.1) = ps := by rfl) (hall : (backToKw pos (keywordEach kws X.env)).all (·.1.isSome) = true := by rfl)
    (hev : ∀ ρ M ds M', ekw ρ M = some (ds, M') → ds.length = ps.length := by repeat (first | exact len_nil | apply len_cons)) (hg : Gl X x := by rfl) (hdb : (x == ("__debug__" : Str)) = false := by decide)
    (hpl : ((backTo pos (starEach [] X.env)).any (·.1) || (backToKw pos (keywordEach kws X.env)).any (·.1.isNone)) = false := by rfl) :
    PE X (.Call (.Name x p) [] kws pos) (TLof (GX X fa) (bCallK (call i) ekw) E) := by
  obtain ⟨hk, fd, _, hb, F⟩ := T.ok i x ps hi
  refine ⟨fun pins s σ H Q I h => ?_⟩
  obtain ⟨m, M, ρ, o, M', hρ, hM, e, fin⟩ := h
  have hev' := hev ρ M
  unfold bCallK at e
  cases q : ekw ρ M with
  | none => rw [q] at e; cases e
  | some pr =>
    obtain ⟨ds, M1⟩ := pr
    rw [q] at e
    refine wpAny_Call_Name_kw (ld_glob I hg hm ?_ hdb)
    refine PySem.W.callWith_KW0 (h₀ := X.base) I.ok.mod.kin hk hall ?_ hpl
    have red : TAof (GX X fa) ekw σ H (fun zs H2 => SpX (GX X fa) ps.length (call i) zs H2 Q (fun c d H' => E c d H')) :=
      ⟨m, M, ρ, ds, M1, hρ, hM, q, fun m1 H1 a b c vs rds => ⟨by rw [← rds.length]; exact hev' ds M1 q, m1, M1, ds, o, M', rds, c, e, fin.mono a b⟩⟩
    refine thn (hkw.run pos pins s σ H _ I red) fun ws s2 ⟨zs, H2, I2, rz, q2⟩ => ⟨I2.kIn, ?_⟩
    rw [hks]
    exact fnx_runK (us := []) (vs := []) F hr (fun z => nomatch z) hb tk I2 .nil rz rfl q2
/-- o.m(k = v, ..), all by names, as a lambda's body -/
def bMethK (ct : CtD) (tab : List (Str × List Str)) (m : Str) (call : CallX) (ks : List Str) (evo : Ev) (ekw : EvL) : Loc → Mem → Rx D := fun ρ M => match evo ρ M with
  | some (o, M1) => match ekw ρ M1 with
    | some (ds, M2) => match o with
      | .ref n => match M1[n]? with
        | some (.ins c fs) => if (fs.lookup m).isNone = true then match ct.me c m with
          | some i => match tab[i]? with
            | some (_, ps) => if ps.length = ds.length + 1 ∧ ps.drop 1 = ks then call i (.ref n :: ds) M2 else none
            | none => none
          | none => none
          else none
        | _ => none
      | _ => none
    | none => none
  | none => none
theorem l_lamMethK {pl : Sem Bool} (T : FnsX X.prog X.w X.K X.mg X.base fa tab call false k) (C : CtOk X.K fa ct) (tk : Takes X (fun c d _ H => E c d H)) (hr : Room k X.A) (ho : PE X o (TEof (GX X fa) evo)) (hkw : PK X kws (TAof (GX X fa) ekw))
    (hks : (backToKw pos (keywordEach kws X.env)).filterMap (·.1) = ks := by rfl) (hall : (backToKw pos (keywordEach kws X.env)).all (·.1.isSome) = true := by rfl)
    (hpl : ((backTo pos (starEach [] X.env)).any (·.1) || (backToKw pos (keywordEach kws X.env)).any (·.1.isNone)) = false := by rfl)
    (ht : eval (.Call (.Attribute o m apos) [] kws pos) X.env = (do
      let ov ← eval o X.env
      standAt apos.atName
      let (f, first) ← holding [ov] (getMethod ov m pl)
      callWith pos f first (backTo pos (starEach [] X.env)) (backToKw pos (keywordEach kws X.env))) := by rfl) :
    PE X (.Call (.Attribute o m apos) [] kws pos) (TLof (GX X fa) (bMethK ct tab m call ks evo ekw) E) := by
  refine ⟨fun pins s σ H Q I h => ?_⟩
  obtain ⟨m0, M, ρ, r, M', hρ, hM, e, fin⟩ := h
  unfold bMethK at e
  split at e
  · rename_i od M1 q1
    split at e
    · rename_i ds M2 q2
      split at e
      · rename_i n
        split at e
        · rename_i c fs q3
          split at e
          · rename_i hl
            split at e
            · rename_i i q4
              split at e
              · rename_i y ps q5
                split at e
                · rename_i hp
                  obtain ⟨hp1, hp2⟩ := hp
                  obtain ⟨hc, hm⟩ := C.me c m i q4
                  obtain ⟨hk, fd, _, hb, F⟩ := T.ok i y ps q5
                  have red : TEof (GX X fa) evo σ H (fun v H1 => ∃ m1, RM (GX X fa) H1 m1 M1 ∧ RD (GX X fa) H1 m1 (.ref n) v ∧ Rho (GX X fa) H1 m1 ρ σ ∧ Fin (GX X fa) m1 H1 M' (XOk (GX X fa) Q E r)) :=
                    ⟨m0, M, ρ, .ref n, M1, hρ, hM, q1, fun m1 H1 a b c v rv => ⟨m1, c, rv, hρ.mono a b, fin.mono a b⟩⟩
                  refine PySem.W.methodCall_KW (pl := pl) (thn (ho.run pins s σ H _ I red) fun u s1 hh => ?_) ht
                  obtain ⟨v, H1, I1, rx, m1, hM1, rv, hρ1, fin1⟩ := hh
                  cases rv with
                  | @ref _ a ha =>
                    obtain rfl : u = Value.ref a := rx
                    obtain ⟨dx, gs, g1, g2⟩ := hM1.at_ _ _ _ ha q3
                    refine getmeth_ok I1 g1 hc hm (g2.none (Option.isNone_iff_eq_none.mp hl)) ?_
                    refine PySem.W.callWith_KW0 (first := [.ref a]) (h₀ := X.base) I.ok.mod.kin hm.kp hall ?_ hpl
                    have red2 : TAof (GX X fa) ekw σ H1 (fun zs H2 => SpX (GX X fa) ps.length (call i) (.ref a :: zs) H2 Q (fun c d H' => E c d H')) :=
                      ⟨m1, M1, ρ, ds, M2, hρ1, hM1, q2, fun m2 H2 a2 b2 c2 vs rds => ⟨by rw [List.length_cons, ← rds.length]; exact hp1.symm, m2, M2, .ref n :: ds, r, M', .cons (.ref (pre_get a2 ha)) rds, c2, e, fin1.mono a2 b2⟩⟩
                    refine thn (hkw.run pos pins s1 σ H1 _ I1 red2) fun ws s2 ⟨zs, H2, I2, rz, q6⟩ => ⟨I2.kIn, ?_⟩
                    rw [hks]
                    exact fnx_runK (us := [.ref a]) (vs := [.ref a]) F hr (fun z => nomatch z) hb tk I2 (.cons rfl .nil) rz hp2.symm q6
                · cases e
              · cases e
            · cases e
          · cases e
        · cases e
      · cases e
    · cases e
  · cases e
end
end Mi
set_option Elab.async false
set_option linter.all false
set_option maxRecDepth 100000
set_option maxHeartbeats 2000000
/-! a lambda handed to a def that calls it within a try and keeps the error -/
namespace Mi
open PySem PySem.Spec PyProof.Rows L2 LamX
section
variable {X : Cx} {pins : List (Addr × Obj)} {σ : L2.St} {H : Hp} {s : Shared}
/-- the handed lambda, called in the def Z that was entered at s -/
theorem pe_hand {CXg : CXT} {Eg : XK} {Ng : List Str} {qg : Str} {sg : Scope} {g f c' : Addr} {cdg pm ctv : Value} {params : Arguments} {body : Expr} {scope : Scope} {k i : Nat} {a : Str} {pn : List (Addr × Obj)} {xe : Value → Shared → Prop} {W : WX} {tb : XK → TE} {p1 p2 : Pos}
    (I : Inv X pins σ H s) (L : LamS X.env.scope scope) (hf : s.heap.get? f = some (PySem.W.kla_obj "<lambda>" (X.env.qual ++ "<lambda>") params body scope (cloFrom X.env.cells scope.names []) pm c' ctv)) (hfn : H f = none) (hfr : f ∉ frs X.stack)
    (hbind : bindArgs (PySem.W.kla_fn "<lambda>" (X.env.qual ++ "<lambda>") params body scope (cloFrom X.env.cells scope.names []) pm (.ref c') ctv) ⟨[], []⟩ = pure [])
    (tk : Takes ((cxOf CXg X.prog X.w X.K X.mg X.base Ng qg sg g cdg X.A X.stack s H Eg).tr pn xe) W) (hr : Room (k + 1) (X.A.deeper (envOfC qg sg s.heap.objs.size g cdg)))
    (hbody : ∀ (A : Around) (outer : List Env) (s : Shared) (H : Hp) (E : XK), Room k (A.deeper (lamEnv X scope s.heap.objs.size f c')) → PE (lamCx X A outer s H E scope f c') body (tb E))
    (hN : Ng[i]? = some a) (hv : Vis sg a) (hd : (a == ("__debug__" : Str)) = false) (hcd : (a == ("__classdict__" : Str)) = false) :
    PE ((cxOf CXg X.prog X.w X.K X.mg X.base Ng qg sg g cdg X.A X.stack s H Eg).tr pn xe) (.Call (.Name a p1) [] [] p2)
      (fun σZ HZ Q => σZ[i]? = some (some (.ref f)) ∧ HZ c' = some (CodeO c' (X.env.qual ++ "<lambda>")) ∧ tb (fun c d H' => W c d σZ H') σ HZ Q) := by
  constructor
  rintro pinsZ sZ σZ HZ Q IZ ⟨at_, code, red⟩
  have name := (pe_var (pos := p1) (i := i) hN hv hd hcd).run pinsZ sZ σZ HZ (fun v H1 => v = .ref f ∧ H1 = HZ) IZ ⟨.ref f, at_, rfl, rfl⟩
  refine wpAny_Call_Name_kw (thn name ?_)
  rintro u s1 ⟨v, H1, I1, rv, rfl, rfl⟩
  obtain rfl : u = Value.ref f := rv
  have obj : s1.heap.get? f = some (PySem.W.kla_obj "<lambda>" (X.env.qual ++ "<lambda>") params body scope (cloFrom X.env.cells scope.names []) pm c' ctv) := I1.base.keep f _ hf hfn hfr (fun z => nomatch (show f ∈ ([] : List Addr) from z))
  refine PySem.W.callWith_F0 ⟨_, _, _, _, obj⟩ (wpAny_call ?_)
  have go : codeAny (model X.prog X.w) (X.A.deeper (envOfC qg sg s.heap.objs.size g cdg)) (.call (.ref f) ⟨[], []⟩) (CR (L2.CX X.prog X.w) (envOfC qg sg s.heap.objs.size g cdg :: X.stack) X.prog X.w H1 s1 Q (fun c d H' => W c d σZ H')) s1 := by
    obtain ⟨⟨oc, vs, t, o1, o2, o3⟩, _, _⟩ := I1.hok c' _ code
    refine PySem.W.kla_callFunE hr.depth obj rfl L.co L.gen rfl ⟨c', oc, vs, t, rfl, o1, o2, o3⟩ ?_
    rw [hbind]
    refine wpAny_pure (wpAny_newFunctionEnv (fun y hy => (L.own y hy).2) (fun y hy => by cases hy) (fun h₁ ns sb => ⟨I1.nolimit.fresh _ sb, ?_⟩) L.kind)
    have kp : ∀ b o, s1.heap.get? b = some o → h₁.get? b = some o := fun b o e => sb.extBut b o (Nat.ne_of_lt (Heap.lt_size e)) (Heap.get?_push_of_some _ e)
    have J := lam_start2 (E := fun c d H' => W c d σZ H') (f := f) (c' := c') (tk := s1.toks + ([] : List (Str × Value)).length) I L I1.env0 hr.hd I1.base ns kp
    refine PySem.W.kla_codeExpr (wpAny_mono ((hbody _ _ s1 H1 _ (hr.deeper _)).run [] _ _ H1 Q J red) ?_ fun e s' q => q)
    rintro v s' ⟨w', H', J', rv', q⟩
    exact ⟨w', H', J'.os, J'.bare, J'.base, J'.hok, rv', q⟩
  refine codeAny_mono go fun r s' hq => ?_
  match r, hq with
  | .error e, hq => exact tk _ _ (XE.of_call I1 (fun _ _ _ h => h) hq)
  | .ok (.ret u), hq => exact I1.after hq
  | .ok .next, hq => exact hq.elim
  | .ok .brk, hq => exact hq.elim
  | .ok .cont, hq => exact hq.elim
end
/-- the tables that the memory tells of -/
def tabsIn (M : Mem) : List (Nat × Str) := M.filterMap fun o => match o with
  | .tab i q => some (i, q)
  | _ => none
theorem tabsIn_mem {M : Mem} {i : Nat} {q : Str} : (i, q) ∈ tabsIn M ↔ ∃ n : Nat, M[n]? = some (.tab i q) := by
  unfold tabsIn
  rw [List.mem_filterMap]
  constructor
  · rintro ⟨o, ho, e⟩
    obtain ⟨n, hn⟩ := List.mem_iff_getElem?.mp ho
    cases o <;> cases e
    exact ⟨n, hn⟩
  · rintro ⟨n, hn⟩
    exact ⟨_, List.mem_of_getElem? hn, rfl⟩
section
variable {G : Gm} {H H1 : Hp} {m : List Addr} {M : Mem}
def tabT (G : Gm) (M : Mem) : List (Addr × Str) := (tabsIn M).map fun p => (G.fa p.1, p.2)
theorem RM.tabsT (h : RM G H m M) : LamX.Tabs (tabT G M) H := fun p hp => by
  obtain ⟨⟨i, q⟩, h1, rfl⟩ := List.mem_map.mp hp
  obtain ⟨n, hn⟩ := tabsIn_mem.mp h1
  obtain ⟨a, _, e, t⟩ := h.addr hn
  subst e
  exact t
theorem RM.tabsU (h : RM G H m M) {i : Nat} {q : Str} (hq : (i, q) ∈ tabsIn M) : ∀ p ∈ tabT G M, p.1 = G.fa i → p.2 = q := fun p hp e => by
  obtain ⟨⟨j, r⟩, h1, rfl⟩ := List.mem_map.mp hp
  obtain ⟨n, hn⟩ := tabsIn_mem.mp h1
  obtain ⟨n', hn'⟩ := tabsIn_mem.mp hq
  obtain ⟨a, ha, e1, _⟩ := h.addr hn
  obtain ⟨a', ha', e1', _⟩ := h.addr hn'
  have ea : a = a' := by rw [e1, e1']; exact e
  subst ea
  have := h.nd n n' a _ _ ha ha' hn hn' rfl rfl
  subst this
  rw [hn] at hn'
  cases hn'
  rfl
theorem ExtN.ext (e : ExtN H H1) : Ext G H H1 where
  t := fun a xs q => by
    rcases q with (q | ⟨o, q⟩) | q
    · exact .inl (.inl (e _ _ q (fun _ z => by cases z)))
    · exact .inl (.inr ⟨o, e _ _ q (fun _ z => by cases z)⟩)
    · exact .inr q
  z := fun a ob u q => e _ _ q (fun _ z => by cases z)
  e := fun a φ q => e _ _ q (fun _ z => by cases z)
  x := fun a fs q => e _ _ q (fun _ z => by cases z)
theorem RM.tabsN (h : RM G H m M) (e : ExtN H H1) (t : LamX.Tabs (tabT G M) H1) : RM G H1 m M := by
  refine ⟨h.len, h.nd, fun n a o e1 e2 => ?_⟩
  have old := h.at_ n a o e1 e2
  have x : Ext G H H1 := ExtN.ext e
  cases o with
  | tab i q =>
    obtain ⟨rfl, _⟩ := old
    exact ⟨rfl, t _ (List.mem_map.mpr ⟨(i, q), tabsIn_mem.mpr ⟨n, e2⟩, rfl⟩)⟩
  | flst xs =>
    refine RO.stay_f old (List.prefix_refl _) x fun ob u q => ?_
    rw [q]
    exact x.z _ _ _ q
  | lst xs => obtain ⟨vs, q, r⟩ := old; exact ⟨vs, e _ _ q (fun _ z => by cases z), r.mono (List.prefix_refl _) x⟩
  | dK xs => obtain ⟨vs, q, r⟩ := old; exact ⟨vs, e _ _ q (fun _ z => by cases z), r.mono (List.prefix_refl _) x⟩
  | fdK xs => obtain ⟨ob, vs, q, r⟩ := old; exact ⟨ob, vs, e _ _ q (fun _ z => by cases z), r.mono (List.prefix_refl _) x⟩
  | ins c fs => obtain ⟨dx, gs, q, r⟩ := old; exact ⟨dx, gs, e _ _ q (fun _ z => by cases z), r.mono (List.prefix_refl _) x⟩
  | xo c v => obtain ⟨d, w, q1, q2, r⟩ := old; exact ⟨d, w, x.e _ _ q1, x.x _ _ q2, r.mono (List.prefix_refl _) x⟩
end
/-- caught, back = (None, None); try: back = call() except C as error: caught = error; return (caught, back) -/
abbrev heardB (xC : Str) (p1 p2 p3 p4 p5 p6 p7 p8 p9 p10 p11 p12 p13 p14 p15 p16 p17 p18 p19 p20 p21 : Pos) (j1 j2 k1 k2 k3 : Nat) : List Stmt :=
  [.Assign [.Tuple [.Name "caught" p1, .Name "back" p2] k1 p3] (.Tuple [.Constant .none j1 p4, .Constant .none j2 p5] k2 p6) p7,
   .Try [.Assign [.Name "back" p8] (.Call (.Name "call" p9) [] [] p10) p11] [clauseK xC "error" "caught" p12 p13 p14 p15 p16] [] [] p17,
   .Return (some (.Tuple [.Name "caught" p18, .Name "back" p19] k3 p20)) p21]
theorem TLof.imp {G : Gm} {bl : Loc → Mem → Rx D} {E E' : XK} {σ : L2.St} {H : Hp} {Q Q' : VK} (h : TLof G bl E σ H Q) (hE : ∀ c d H, E c d H → E' c d H) (hQ : ∀ v H, Q v H → Q' v H) : TLof G bl E' σ H Q' := by
  obtain ⟨m, M, ρ, o, M', hρ, hM, e, fin⟩ := h
  refine ⟨m, M, ρ, o, M', hρ, hM, e, fun m' H' a b c => ?_⟩
  have f := fin m' H' a b c
  cases o with
  | val d => exact fun v rd => hQ _ _ (f v rd)
  | exc cc x => exact fun dd w hd rd => hE _ _ _ (f dd w hd rd)
theorem TLof.grow {G : Gm} {bl : Loc → Mem → Rx D} {E : XK} {σ : L2.St} {H : Hp} {Q : VK} {p : Addr} {o : HO} (hp : H p = none) (h : TLof G bl E σ H Q) : TLof G bl E σ (upd H p o) Q := by
  obtain ⟨m, M, ρ, o, M', hρ, hM, e, fin⟩ := h
  exact ⟨m, M, ρ, o, M', hρ.mono (List.prefix_refl _) (Ext.new hp), hM.new hp, e, fin.mono (List.prefix_refl _) (Ext.new hp)⟩
abbrev heardN : List Str := ["call", "caught", "back", "error"]
def heardS : Scope := { kind := .function, names := [(PySem.Str.ofString "call", .local), (PySem.Str.ofString "caught", .local), (PySem.Str.ofString "back", .local), (PySem.Str.ofString "error", .local), (PySem.Str.ofString "MillError", .globalImplicit)], isGenerator := false, isCoroutine := false, more := [] }
theorem heard_nd : heardN.Nodup := by decide +kernel
/-- what the def that hears makes of what its lambda comes to -/
def EWh (K : PySem.W.Frag) (C : Addr) (Eg : XK) (Q : VK) : XK := fun cls d H' => ∃ b, PySem.W.exmOne K cls (.ref C) = some b ∧ (b = true → ∀ a : Addr, H' a = none → ∀ t : Addr, upd H' a (XkO cls d a) t = none → Q (.ref t) (upd (upd H' a (XkO cls d a)) t (.tup [.ref a, .non]))) ∧ (b = false → Eg cls d H')
def QVh (Q : VK) : VK := fun v H' => ∀ t : Addr, H' t = none → Q (.ref t) (upd H' t (.tup [.non, v]))
section
variable {X : Cx} {pins : List (Addr × Obj)} {σ : L2.St} {H : Hp} {s : Shared} {fa : Nat → Addr}
theorem heard_walk {g f c' C : Addr} {cdg pm ctv : Value} {params : Arguments} {body : Expr} {scope : Scope} {k : Nat} {Eg : XK} {bl : Loc → Mem → Rx D} {p1 p2 p3 p4 p5 p6 p7 p8 p9 p10 p11 p12 p13 p14 p15 p16 p17 p18 p19 p20 p21 : Pos} {j1 j2 k1 k2 k3 : Nat}
    (I : Inv X pins σ H s) (L : LamS X.env.scope scope) (hf : s.heap.get? f = some (PySem.W.kla_obj "<lambda>" (X.env.qual ++ "<lambda>") params body scope (cloFrom X.env.cells scope.names []) pm c' ctv)) (hfn : H f = none) (hfr : f ∉ frs X.stack)
    (hbind : bindArgs (PySem.W.kla_fn "<lambda>" (X.env.qual ++ "<lambda>") params body scope (cloFrom X.env.cells scope.names []) pm (.ref c') ctv) ⟨[], []⟩ = pure [])
    (hr : Room (k + 1) (X.A.deeper (envOfC "_law_heard" heardS s.heap.objs.size g cdg))) (hme : X.mg "MillError" = some (.ref C))
    (hbody : ∀ (A : Around) (outer : List Env) (s : Shared) (H : Hp) (E : XK), Room k (A.deeper (lamEnv X scope s.heap.objs.size f c')) → PE (lamCx X A outer s H E scope f c') body (TLof (GX X fa) bl E))
    (hw : ∀ n : Nat, swappedStores [.Tuple [.Name "caught" p1, .Name "back" p2] k1 p3] (.Tuple [.Constant .none j1 p4, .Constant .none j2 p5] k2 p6) (envOfC "_law_heard" heardS n g cdg) = pure none)
    (hs : ∀ n : Nat, swapsWithSole [.Tuple [.Name "caught" p1, .Name "back" p2] k1 p3] (.Tuple [.Constant .none j1 p4, .Constant .none j2 p5] k2 p6) p7.line (envOfC "_law_heard" heardS n g cdg) = pure false)
    (hs2 : ∀ n : Nat, swapsWith (.Call (.Name "call" p9) [] [] p10) (some (.Name "back" p8)) p11.line (envOfC "_law_heard" heardS n g cdg) = pure false)
    (hs3 : ∀ n : Nat, swapsWith (.Name "error" p14) (some (.Name "caught" p13)) p15.line (envOfC "_law_heard" heardS n g cdg) = pure false)
    {Q : VK} (code : H c' = some (CodeO c' (X.env.qual ++ "<lambda>"))) (red : TLof (GX X fa) bl (EWh X.K C Eg Q) σ H (QVh Q)) :
    ∃ t, PSs (cxOf (CXe X.prog X.w) X.prog X.w X.K X.mg X.base heardN "_law_heard" heardS g cdg X.A X.stack s H Eg) (heardB "MillError" p1 p2 p3 p4 p5 p6 p7 p8 p9 p10 p11 p12 p13 p14 p15 p16 p17 p18 p19 p20 p21 j1 j2 k1 k2 k3) t ∧ t { nx := fun _ H' => Q .non H', rt := Q } (start heardN [.ref f]) H := by
  refine ⟨_, pss_cons (ps_asg (pe_tup (pa_cons pe_non (pa_cons pe_non pa_nil))) (pg_tup rfl (pgs_cons (pg_name (i := 1) heard_nd rfl (.inl rfl)) (pgs_cons (pg_name (i := 2) heard_nd rfl (.inl rfl)) pgs_nil))) (hs _) (hw _))
    (pss_cons (ps_keep (i := 3) (j := 1) (c := .ref C)
        (tb := fun W D σZ HZ => σZ[0]? = some (some (.ref f)) ∧ HZ c' = some (CodeO c' (X.env.qual ++ "<lambda>")) ∧ TLof (GX X fa) bl (fun c d H' => W c d σZ H') σ HZ (fun v H' => D.nx (σZ.set 2 (some v)) H'))
        rfl rfl rfl heard_nd rfl rfl rfl rfl ⟨rfl, by decide, .inl hme⟩ (takes_of rfl rfl rfl rfl) (fun W pn xe tk _ => ?_) (fun a oe pn => hs3 _) (by decide) (by decide))
      (pss_one (ps_ret (pe_tup (pa_cons (pe_var (i := 1) rfl (.inl rfl) (by decide) (by decide)) (pa_cons (pe_var (i := 2) rfl (.inl rfl) (by decide) (by decide)) pa_nil)))))), ?_⟩
  · refine pss_one ((ps_set (i := 2) heard_nd rfl (.inl rfl) (pe_hand (i := 0) I L hf hfn hfr hbind tk hr hbody rfl (.inl rfl) (by decide) (by decide)) (hs2 _) (.inr rfl)).imp fun D σZ HZ h => h)
  · have s2 : (2 : Nat) ≤ sizeLine := by rw [sizeLine_eq]; decide
    refine ⟨s2, fun p hp => ⟨p, [.non, .non], rfl, SqT.of upd_same, rfl, .non, [.non], rfl, .non, [], rfl, rfl, rfl, (upd_ne fun z => by rw [z, hp] at code; cases code).trans code, TLof.imp (TLof.grow hp red) (fun cls d H' h => ?_) fun v H' h => ?_⟩⟩
    · obtain ⟨b, hb, hy, hn⟩ := h
      exact ⟨b, hb, fun q => ⟨by show (3 : Nat) < 4; decide, fun a na => ⟨_, rfl, _, rfl, s2, fun t ht => hy q a na t ht⟩⟩, hn⟩
    · exact ⟨_, rfl, _, rfl, s2, fun t ht => h t ht⟩
/-- _law_heard(lambda: body): the memory tells of the table it of lambdas called q; ecl: whether MillError takes a class -/
def eHeard (it : Nat) (q : Str) (ecl : Nat → Option Bool) (bl : Loc → Mem → Rx D) : Ev := fun ρ M => if (tabsIn M).contains (it, q) = true then match bl ρ M with
  | some (.val d, M2) => some (.tup [.non, d], M2)
  | some (.exc c v, M2) => if ecl c = some true then some (.tup [.ref M2.length, .non], M2 ++ [.xo c v]) else none
  | none => none
  else none
theorem l_heard (it : Nat) {g C : Addr} {k : Nat} {bg : List Stmt} {pg : Arguments} {fd : FuncData} {params : Arguments} {body : Expr} {scope : Scope} {bl : Loc → Mem → Rx D} {ecl : Nat → Option Bool} {cc : Addr} {p lpos pos : Pos}
    (F : FunD X.K "_law_heard" "_law_heard" pg bg heardS [] [] g fd) (hb : Binds X.K fd ["call"] []) (hm : X.mg "_law_heard" = some (.ref g)) (hme : X.mg "MillError" = some (.ref C))
    (hE : ∀ c b, ecl c = some b → PySem.W.exmOne X.K (.ref (fa c)) (.ref C) = some b)
    {p1 p2 p3 p4 p5 p6 p7 p8 p9 p10 p11 p12 p13 p14 p15 p16 p17 p18 p19 p20 p21 : Pos} {j1 j2 k1 k2 k3 : Nat} (hbg : bg = heardB "MillError" p1 p2 p3 p4 p5 p6 p7 p8 p9 p10 p11 p12 p13 p14 p15 p16 p17 p18 p19 p20 p21 j1 j2 k1 k2 k3)
    (hw : ∀ (n : Nat) (cdg : Value), swappedStores [.Tuple [.Name "caught" p1, .Name "back" p2] k1 p3] (.Tuple [.Constant .none j1 p4, .Constant .none j2 p5] k2 p6) (envOfC "_law_heard" heardS n g cdg) = pure none)
    (hs : ∀ (n : Nat) (cdg : Value), swapsWithSole [.Tuple [.Name "caught" p1, .Name "back" p2] k1 p3] (.Tuple [.Constant .none j1 p4, .Constant .none j2 p5] k2 p6) p7.line (envOfC "_law_heard" heardS n g cdg) = pure false)
    (hs2 : ∀ (n : Nat) (cdg : Value), swapsWith (.Call (.Name "call" p9) [] [] p10) (some (.Name "back" p8)) p11.line (envOfC "_law_heard" heardS n g cdg) = pure false)
    (hs3 : ∀ (n : Nat) (cdg : Value), swapsWith (.Name "error" p14) (some (.Name "caught" p13)) p15.line (envOfC "_law_heard" heardS n g cdg) = pure false)
    (TB : TabB X.base X.mg cc (fa it)) (hcode : X.env.code = .ref cc) (hr : Room (k + 2) X.A) (L : LamS X.env.scope scope) (hdef : defaultsOf params X.env = ([], []))
    (hbind : ∀ (q : Str) (cl : List (Str × Addr)) (pm cv ctv : Value), bindArgs (PySem.W.kla_fn "<lambda>" q params body scope cl pm cv ctv) ⟨[], []⟩ = pure [])
    (hbody : ∀ (A : Around) (outer : List Env) (s : Shared) (H : Hp) (E : XK) (f c' : Addr), Room k (A.deeper (lamEnv X scope s.heap.objs.size f c')) → PE (lamCx X A outer s H E scope f c') body (TLof (GX X fa) bl E))
    (hg : Gl X "_law_heard" := by rfl) :
    PE X (.Call (.Name "_law_heard" p) [.Lambda params body scope lpos] [] pos) (TEof (GX X fa) (eHeard it (X.env.qual ++ "<lambda>") ecl bl)) := by
  subst hbg
  refine ⟨fun pins s σ H Q I h => ?_⟩
  obtain ⟨m, M, ρ, d, M', hρ, hM, e, fin⟩ := h
  unfold eHeard at e
  split at e
  · rename_i hin
    have hin' : (it, X.env.qual ++ "<lambda>") ∈ tabsIn M := List.contains_iff_mem.mp hin
    have hP : (fa it, X.env.qual ++ "<lambda>") ∈ tabT (GX X fa) M := List.mem_map.mpr ⟨_, hin', rfl⟩
    obtain ⟨oc, od, dV, kV, doc, pm, an, cd, ct, osl, rfl, lk, hcd, _, _⟩ := F.ex
    refine wpAny_Call_Name_kw (ld_glob I hg hm ?_ (by decide))
    refine PySem.W.callWith_K (h₀ := X.base) I.ok.mod.kin F.kp ?_ (by rfl) (by rfl)
    show wpAny _ _ (spliced ((false, eval (.Lambda params body scope lpos) X.env) :: backTo pos (starEach [] X.env))) _ _ s
    refine Calls.spliced_cons (lam_make2 I TB hcode hP (hM.tabsU hin') hM.tabsT hdef (L.has I.ok) fun f c' pm' ctv H1 s' I1 eN T1 hf hfn hfr hco => ?_)
    refine Calls.spliced_nil ⟨I1.kIn, ?_⟩
    have x1 : Ext (GX X fa) H H1 := ExtN.ext eN
    have hM1 : RM (GX X fa) H1 m M := hM.tabsN eN T1
    have hρ1 := hρ.mono (List.prefix_refl _) x1
    have red : TLof (GX X fa) bl (EWh X.K C (fun _ _ _ => False) Q) σ H1 (QVh Q) := by
      cases q : bl ρ M with
      | none => rw [q] at e; cases e
      | some pr =>
        obtain ⟨o, M2⟩ := pr
        rw [q] at e
        refine ⟨m, M, ρ, o, M2, hρ1, hM1, q, fun m2 H2 a2 b2 c2 => ?_⟩
        cases o with
        | val d2 =>
          cases e
          intro v rv t ht
          have xt : Ext (GX X fa) H2 (upd H2 t (.tup [.non, v])) := Ext.new ht
          exact fin m2 _ a2 ((x1.trans b2).trans xt) (c2.new ht) _ (.tup (SqT.of upd_same) (.cons .non (.cons (rv.mono (List.prefix_refl _) xt) .nil)))
        | exc c v =>
          have e2 : (if ecl c = some true then some (D.tup [.ref M2.length, .non], M2 ++ [MO.xo c v]) else none) = some (d, M') := e
          split at e2
          · rename_i ec
            cases e2
            intro dd w hd rd
            refine ⟨true, hE c true ec, fun _ a na t ht => ?_, fun z => (by cases z)⟩
            have dne : dd ≠ a := fun z => by rw [z, na] at hd; cases hd
            have xa : Ext (GX X fa) H2 (upd H2 a (XkO (.ref (fa c)) (some dd) a)) := Ext.new na
            have hMa : RM (GX X fa) (upd H2 a (XkO (.ref (fa c)) (some dd) a)) (m2 ++ [a]) (M2 ++ [.xo c v]) := c2.push na ⟨dd, w, upd_same, by rw [upd_ne dne]; exact hd, rd.mono (List.prefix_append _ _) xa⟩
            have xt : Ext (GX X fa) (upd H2 a (XkO (.ref (fa c)) (some dd) a)) (upd (upd H2 a (XkO (.ref (fa c)) (some dd) a)) t (.tup [.ref a, .non])) := Ext.new ht
            exact fin (m2 ++ [a]) _ (a2.trans (List.prefix_append _ _)) (((x1.trans b2).trans xa).trans xt) (hMa.new ht) _ (.tup (SqT.of upd_same) (.cons (ref_last c2) (.cons .non .nil)))
          · cases e2
    refine wpAny_call (codeAny_mono (run_ofS (CX := CXe X.prog X.w) (E := fun _ _ _ => False) (Q := Q) (N := heardN) (ps := ["call"]) (us := [.ref f]) (vs := [.ref f]) lk hcd ⟨rfl, rfl, rfl, heard_nd, rfl, by decide +kernel, by decide +kernel⟩ hr I1.env0 (hb s' [.ref f] I1.kIn rfl) (.cons rfl .nil) rfl fun hr' => ?_) fun r s2 hq => ?_)
    · exact heard_walk I1 L hf hfn hfr (hbind _ _ _ _ _) hr' hme (fun A outer s H E hr2 => hbody A outer s H E f c' hr2) (fun n => hw n cd) (fun n => hs n cd) (fun n => hs2 n cd) (fun n => hs3 n cd) hco red
    · match r, hq with
      | .error e, hq =>
        obtain ⟨_, _, _, _, _, _, _, _, _, _, _, _, q⟩ := hq
        exact q.elim
      | .ok (.ret u), hq => exact I1.after hq
      | .ok .next, hq => exact hq.elim
      | .ok .brk, hq => exact hq.elim
      | .ok .cont, hq => exact hq.elim
  · cases e
end
end Mi
set_option Elab.async false
set_option linter.all false
set_option maxRecDepth 100000
set_option maxHeartbeats 1000000
/-! == and != of instances of own classes with an own __eq__ -/
namespace Mi
open PySem PySem.Spec PyProof.Rows L2
/-- a class over object alone, with an own __eq__ (f), without __ne__ -/
def neIn (K : PySem.W.Frag) (C f : Addr) : Bool := match K.lookup C with
  | some ⟨.type "type", _, .cls cd, sl⟩ => (match cd.mro, sl.toList with
    | [.ref C', .type "object"], [_, _, _, _, some (.builtin _), _] => C' == C && !cd.hasDel && PySem.W.nsOkIn K cd.ns && PySem.W.nsIn K cd.ns "__eq__" == some (some (.ref f)) && PySem.W.nsIn K cd.ns "__ne__" == some none
    | _, _ => false)
  | _ => false
theorem ns_some_of {K : PySem.W.Frag} {h : Heap} {N : Addr} {mg : Str → Option Value} {n : Str} {v : Value} (X : K.In h) (G : h.Ns N mg) (e : PySem.W.nsIn K N n = some (some v)) : mg n = some v := by
  obtain ⟨o, es, ep, ho, hd, _, hf⟩ := G
  unfold PySem.W.nsIn at e
  split at e
  · rename_i c d es' n' sl q
    have z := X _ _ q
    rw [ho] at z
    cases z
    cases hd
    split at e
    · rename_i en hen
      rw [← hf]
      unfold nsFind findBy
      rw [← Array.find?_toList, hen]
      cases e
      rfl
    · split at e <;> cases e
  · cases e
section
variable {X : Cx}
theorem own_eq_no_ne {K : PySem.W.Frag} {h : Heap} {x C f : Addr} {o of : Obj} (kin : K.In h) (e : neIn K C f = true) (ho : h.get? x = some o) (hc : o.cls = .ref C) (hf : h.get? f = some of) (hfc : of.cls = .type "function") : h.OwnEqNoNe x C f "object" [.type "object"] := by
  unfold neIn at e
  split at e
  · rename_i dd cd sl lk
    split at e
    · rename_i C' k0 k1 k2 k3 n k5 hm hs
      simp only [Bool.and_eq_true, beq_iff_eq, Bool.not_eq_true'] at e
      obtain ⟨⟨⟨⟨rfl, hdel⟩, hok⟩, heq⟩, hne⟩ := e
      obtain ⟨nm, bs, mro, ns, qn, hd, sn, sub, ab, col, del⟩ := cd
      dsimp only at hm hdel hok heq hne
      subst hm hdel
      have hsl : sl = #[k0, k1, k2, k3, some (.builtin n), k5] := by
        obtain ⟨l⟩ := sl
        simp only at hs
        rw [hs]
      subst hsl
      have G := Heap.Ns.of_isNs (PySem.W.isNs_of_in kin hok)
      exact ⟨o, of, nm, qn, ns, bs, hd, sn, sub, ab, col, dd, k0, k1, k2, k3, k5, n, _, _, ho, hc, kin _ _ lk, G, ns_some_of kin G heq, hf, hfc, F.cmp_object.mro, F.cmp_object.eq.lookup, PySem.W.ns_none_of kin G hne⟩
    · cases e
  · cases e
variable {gd : Bool} {k : Nat}
/-- x == y by x's own __eq__, whose answer is a bool -/
def rEqO (gd : Bool) (X : Cx) (k : Nat) : R2 := fun x y H Q => ∃ (a C dx f : Addr) (fs : List (Str × V)) (t : Value) (fd : FuncData) (ps : List Str) (sp : Sp), x = .ref a ∧ H a = some (.ins C dx fs) ∧ TyX X.K H y t ∧ PySem.W.notFirst X.K C t = true ∧
  PySem.W.findIn X.K (.ref C) "__eq__" = some (some (.ref f)) ∧ PySem.W.isFn X.K (.ref f) = true ∧ FnX X.prog X.w X.K X.mg X.base gd k f fd ps sp ∧ Binds X.K fd ps [] ∧ sp [x, y] H (fun v H' => ∃ b, v = .bl b ∧ Q (.bl b) H') (fun _ _ _ => False)
theorem op_eqO (hr : Room k X.A) (hgd : gd = true → X.A.guards = some []) : OpR X (compareOp .Eq) (rEqO gd X k) := by
  intro pins s σ H x y v u Q I rx ry hq
  obtain ⟨a, C, dx, f, fs, t, fd, ps, sp, rfl, ea, ty, hn, h1, h2, F, hb, q⟩ := hq
  obtain rfl : v = Value.ref a := rx
  obtain ⟨mA, O, _⟩ := ins_get I.hok ea
  obtain ⟨od, J, _⟩ := O.look
  obtain ⟨P, Z, pz, _⟩ := kit_of I ry ty
  obtain ⟨m, hF⟩ := I.fr
  have lk : PySem.W.Looks (model X.prog X.w) s.heap (typeOf u) t := Z.ty _ _ I.kIn pz
  refine PySem.W.cmp_K (op := .Eq) hr.units0 hF I.ok.mod.kin J lk hn h1 h2 ?_
  refine wpAny_mono (fnx_run0 (us := [.ref a, u]) (vs := [.ref a, y]) F hr hgd hb I (.cons rfl (.cons ry .nil)) q) (fun r s' z => ?_) fun _ _ z => z
  obtain ⟨w, H', I', rw', b, rfl, q2⟩ := z
  obtain rfl : r = Value.bool b := rw'
  exact ⟨.bl b, H', I', rfl, q2⟩
/-- x != y of two instances of one class, by x's own __eq__ -/
def rNeO (gd : Bool) (X : Cx) (k : Nat) : R2 := fun x y H Q => ∃ (a b C dx dy f : Addr) (fs gs : List (Str × V)) (fd : FuncData) (ps : List Str) (sp : Sp), x = .ref a ∧ y = .ref b ∧ H a = some (.ins C dx fs) ∧ H b = some (.ins C dy gs) ∧ neIn X.K C f = true ∧
  PySem.W.isFn X.K (.ref f) = true ∧ (∃ of, X.K.lookup f = some of ∧ of.cls = .type "function") ∧ FnX X.prog X.w X.K X.mg X.base gd k f fd ps sp ∧ Binds X.K fd ps [] ∧ sp [x, y] H (fun v H' => ∃ b, v = .bl b ∧ Q (.bl (!b)) H') (fun _ _ _ => False)
theorem fnx_run1 {f : Addr} {fd : FuncData} {ps : List Str} {sp : Sp} {pins : List (Addr × Obj)} {σ : L2.St} {H : Hp} {st : Shared} {Q : VK} {us : List Value} {vs : List V} (F : FnX X.prog X.w X.K X.mg X.base gd k f fd ps sp) (hr : Room (k + 1) X.A) (hg : gd = true → X.A.guards = some []) (hb : Binds X.K fd ps [])
    (I : Inv X pins σ H st) (r : Vals vs us) (h : sp vs H Q (fun _ _ _ => False)) : wpAny (model X.prog X.w) X.A.in1 (PySem.call (.ref f) us) (EP X pins σ Q) X.xe st := by
  have hl : us.length = ps.length := r.length.symm.trans (F.count _ _ _ _ h)
  have hb' := hb st us I.kIn (by rw [List.append_nil]; exact hl)
  rw [List.append_nil] at hb'
  refine wpAny_call (codeAny_mono (F.go X.A.in1 X.stack st H _ us vs Q _ hr.in1 hg I.env0.in1 hb' r h) fun rs s' hq => ?_)
  match rs, hq with
  | .error z, hq =>
    obtain ⟨_, _, _, _, _, _, _, _, _, _, _, _, q⟩ := hq
    exact q.elim
  | .ok (.ret u), hq => exact I.after hq
  | .ok .next, hq => exact hq.elim
  | .ok .brk, hq => exact hq.elim
  | .ok .cont, hq => exact hq.elim
theorem op_neO (hr : Room (k + 1) X.A) (hgd : gd = true → X.A.guards = some []) : OpR X (compareOp .NotEq) (rNeO gd X k) := by
  intro pins s σ H x y v u Q I rx ry hq
  obtain ⟨a, b, C, dx, dy, f, fs, gs, fd, ps, sp, rfl, rfl, ea, eb, hn, h2, ⟨of, lf, cf⟩, F, hb, q⟩ := hq
  obtain rfl : v = Value.ref a := rx
  obtain rfl : u = Value.ref b := ry
  obtain ⟨mA, O, _⟩ := ins_get I.hok ea
  obtain ⟨od, J, _⟩ := O.look
  obtain ⟨mB, O', _⟩ := ins_get I.hok eb
  obtain ⟨od', J', _⟩ := O'.look
  have own := own_eq_no_ne I.kIn hn J.at_ J.cls (I.kIn _ _ lf) cf
  have run := fnx_run1 (us := [.ref a, .ref b]) (vs := [.ref a, .ref b]) F hr hgd hb I (.cons rfl (.cons rfl .nil)) q
  obtain ⟨hp, g, d, t, os⟩ := s
  refine compareOp_ne_ownEq PySem.F.cmp_object own J'.at_ J'.cls (by have := hr.un; omega) (wpAny_mono run (fun r s' z => ?_) fun _ _ z => z)
  obtain ⟨w, H', I', rw', b', rfl, q2⟩ := z
  obtain rfl : r = Value.bool b' := rw'
  exact ⟨b', rfl, .bl (!b'), H', I', rfl, q2⟩
end
/-! by data -/
section
variable {X : Cx} {fa : Nat → Addr} {tab : List (Str × List Str)} {call : CallX} {gd : Bool} {k : Nat} {ct : CtD} {nf : Nat → String ⊕ Nat → Bool} {ne : Nat → Bool}
/-- of which class: a built-in one, or an own one (an instance) -/
def tyE (M : Mem) : D → Option (String ⊕ Nat)
  | .ref n => match M[n]? with
    | some (.ins c _) => some (.inr c)
    | _ => (tyOf M (.ref n)).map .inl
  | d => (tyOf M d).map .inl
def tyVE (fa : Nat → Addr) : String ⊕ Nat → Value
  | .inl s => .type s
  | .inr c => .ref (fa c)
theorem tyE_rel {G : Gm} {H : Hp} {m : List Addr} {M : Mem} {d : D} {v : V} {t : String ⊕ Nat} (hM : RM G H m M) (r : RD G H m d v) (e : tyE M d = some t) (hi : ∀ c, t = .inr c → InC G.K (G.fa c)) : TyX G.K H v (tyVE G.fa t) := by
  have base : ∀ {d : D} {v : V}, RD G H m d v → (tyOf M d).map Sum.inl = some t → TyX G.K H v (tyVE G.fa t) := fun r e => by
    obtain ⟨n, h1, rfl⟩ := Option.map_eq_some_iff.mp e
    exact (tyOf_rel hM r h1).1
  cases r with
  | @ref n a ha =>
    have e' : (match M[n]? with
      | some (.ins c _) => some (.inr c)
      | _ => (tyOf M (.ref n)).map .inl) = some t := e
    split at e'
    · rename_i c fs q
      cases e'
      obtain ⟨dx, gs, g1, _⟩ := hM.at_ _ _ _ ha q
      have J := hi c rfl
      exact .base (.ins g1 J.cl J.ha J.hn J.ht J.hm)
    · exact base (.ref ha) e'
  | non => exact base .non e
  | bl b => exact base (.bl b) e
  | int b => exact base (.int b) e
  | str b => exact base (.str b) e
  | tup h1 h2 => exact base (.tup h1 h2) e
  | fn i => exact base (.fn i) e
/-- what classes with an own __eq__ must say; nf: of which x of class c is asked first; ne: != is asked of __eq__ -/
structure EqT (K : PySem.W.Frag) (fa : Nat → Addr) (ct : CtD) (nf : Nat → String ⊕ Nat → Bool) (ne : Nat → Bool) : Prop where
  me : ∀ c i, ct.me c "__eq__" = some i → PySem.W.findIn K (.ref (fa c)) "__eq__" = some (some (.ref (fa i))) ∧ PySem.W.isFn K (.ref (fa i)) = true
  nf : ∀ c t, nf c t = true → PySem.W.notFirst K (fa c) (tyVE fa t) = true ∧ ∀ c', t = .inr c' → InC K (fa c')
  ne : ∀ c i, ne c = true → ct.me c "__eq__" = some i → neIn K (fa c) (fa i) = true ∧ ∃ of, K.lookup (fa i) = some of ∧ of.cls = .type "function"
/-- the own __eq__ of x, asked of y -/
def oEqO (ct : CtD) (tab : List (Str × List Str)) (call : CallX) (nf : Nat → String ⊕ Nat → Bool) : D → D → Mem → R D := fun x y M => match x with
  | .ref n => match M[n]? with
    | some (.ins c _) => match ct.me c "__eq__" with
      | some i => match tab[i]? with
        | some (_, ps) => match tyE M y with
          | some t => if (nf c t && decide (ps.length = 2)) = true then match call i [x, y] M with
            | some (.val (.bl b), M2) => some (.bl b, M2)
            | _ => none
            else none
          | none => none
        | none => none
      | none => none
    | _ => none
  | _ => none
theorem os_eqO (T : FnsX X.prog X.w X.K X.mg X.base fa tab call gd k) (E : EqT X.K fa ct nf ne) : OpS (GX X fa) (oEqO ct tab call nf) (rEqO gd X k) := by
  intro m H M x y dx dy d M' Q hM rx ry e fin
  unfold oEqO at e
  split at e
  · rename_i n
    split at e
    · rename_i c fs q1
      split at e
      · rename_i i q2
        split at e
        · rename_i w ps q3
          split at e
          · rename_i t q4
            split at e
            · rename_i hc
              obtain ⟨h1, h2⟩ := Bool.and_eq_true_iff.mp hc
              split at e
              · rename_i b M2 q5
                cases e
                obtain ⟨hk, fd, hb, _, F⟩ := T.ok i w ps q3
                obtain ⟨e1, e2⟩ := E.me c i q2
                obtain ⟨e3, e4⟩ := E.nf c t h1
                have ty := tyE_rel hM ry q4 e4
                cases rx with
                | @ref _ a ha =>
                  obtain ⟨dx, gs, g1, _⟩ := hM.at_ _ _ _ ha q1
                  refine ⟨a, fa c, dx, fa i, gs, tyVE fa t, fd, ps, _, rfl, g1, ty, e3, e1, e2, F, hb, (of_decide_eq_true h2).symm, m, M, _, _, _, .cons (.ref ha) (.cons ry .nil), hM, q5, fun m' H' a1 b1 c1 => ?_⟩
                  intro v rv
                  cases rv
                  exact ⟨b, rfl, fin m' H' a1 b1 c1 _ (.bl b)⟩
              · cases e
            · cases e
          · cases e
        · cases e
      · cases e
    · cases e
  · cases e
/-- x != y of two instances of one class -/
def oNeO (ct : CtD) (tab : List (Str × List Str)) (call : CallX) (ne : Nat → Bool) : D → D → Mem → R D := fun x y M => match x, y with
  | .ref n, .ref n' => match M[n]?, M[n']? with
    | some (.ins c _), some (.ins c' _) => match ct.me c "__eq__" with
      | some i => match tab[i]? with
        | some (_, ps) => if (ne c && decide (c = c') && decide (ps.length = 2)) = true then match call i [x, y] M with
          | some (.val (.bl b), M2) => some (.bl (!b), M2)
          | _ => none
          else none
        | none => none
      | none => none
    | _, _ => none
  | _, _ => none
theorem os_neO (T : FnsX X.prog X.w X.K X.mg X.base fa tab call gd k) (E : EqT X.K fa ct nf ne) : OpS (GX X fa) (oNeO ct tab call ne) (rNeO gd X k) := by
  intro m H M x y dx dy d M' Q hM rx ry e fin
  unfold oNeO at e
  split at e
  · rename_i n n'
    split at e
    · rename_i c fs c' fs' q1 q1'
      split at e
      · rename_i i q2
        split at e
        · rename_i w ps q3
          split at e
          · rename_i hc
            obtain ⟨h12, h3⟩ := Bool.and_eq_true_iff.mp hc
            obtain ⟨h1, h2⟩ := Bool.and_eq_true_iff.mp h12
            have hcc : c = c' := of_decide_eq_true h2
            subst hcc
            split at e
            · rename_i b M2 q5
              cases e
              obtain ⟨hk, fd, hb, _, F⟩ := T.ok i w ps q3
              obtain ⟨e1, e2⟩ := E.me c i q2
              obtain ⟨e3, e4⟩ := E.ne c i h1 q2
              cases rx with
              | @ref _ a ha =>
                cases ry with
                | @ref _ a' ha' =>
                  obtain ⟨dx, gs, g1, _⟩ := hM.at_ _ _ _ ha q1
                  obtain ⟨dy, gs', g1', _⟩ := hM.at_ _ _ _ ha' q1'
                  refine ⟨a, a', fa c, dx, dy, fa i, gs, gs', fd, ps, _, rfl, rfl, g1, g1', e3, e2, e4, F, hb, (of_decide_eq_true h3).symm, m, M, _, _, _, .cons (.ref ha) (.cons (.ref ha') .nil), hM, q5, fun m' H' a1 b1 c1 => ?_⟩
                  intro v rv
                  cases rv
                  exact ⟨b, rfl, fin m' H' a1 b1 c1 _ (.bl _)⟩
            · cases e
          · cases e
        · cases e
      · cases e
    · cases e
  · cases e
end
end Mi
set_option Elab.async false
set_option linter.all false
set_option maxRecDepth 100000
set_option maxHeartbeats 2000000
/-! a law's end over data, where some defs make lambdas: the memory begins with the script and the empty tables -/
namespace Mi
open PySem PySem.Spec PyProof.Rows L2 LamX
def mem0 (ns : List Int) (tl : List (Nat × Str)) : Mem := .flst (ns.map .int) :: tl.map fun p => .tab p.1 p.2
theorem law_hereT {P : Program} {w : World} {K : PySem.W.Frag} {mg mb : Str → Option Value} {k : Nat} {f a : Addr} {fd : FuncData} {x : Str} {g : List D → Mem → Rx D} {fa : Nat → Addr} {st : Shared} {vs : List Value} {ns : List Int} {tl : List (Nat × Str)} {cc : Nat → Addr}
    (KX : K.In st.heap) (hns : st.heap.Ns mainGlobals mg) (hb : st.heap.Ns builtinsNs mb) (hbb : ∀ y : Str, y ≠ "__name__" → mb y = bootBuiltins y) (hlim : st.heap.NoLimit) (hg : st.gens = #[])
    (hT : ∀ p ∈ tl, st.heap.get? (fa p.1) = some { cls := .none, data := .fields #[] }) (nT : ∀ p ∈ tl, K.lookup (fa p.1) = none) (C : ∀ p ∈ tl, PySem.W.CodeHd st.heap (cc p.1) (fa p.1)) (nd : (tl.map fun p => fa p.1).Nodup)
    (hbm : ∃ (bm : Addr) (ob : Obj), mg "__builtins__" = some (.ref bm) ∧ bm ≠ builtinsNs ∧ st.heap.get? bm = some ob ∧ ob.cls = .type "module" ∧ ob.dict = some builtinsNs ∧ ob.data = .plain)
    (ha : st.heap.get? a = some { cls := .type "list", data := .seq vs.toArray }) (hi : IntsAre vs ns) (hl : ns.length ≤ sizeLine) (hr : Room k callerA)
    (F : ∀ base : Heap, K.In base → base.Ns mainGlobals mg → (∀ p ∈ tl, TabB base mg (cc p.1) (fa p.1)) → FnX P w K mg base true k f fd [x] (SpX ⟨K, fa⟩ 1 g)) (hbind : ∀ (s : Shared) (u : Value), BindsTo s fd ⟨[u], []⟩ [(x, u)])
    (true_ : ∃ M', g [.ref 0] (mem0 ns tl) = some (.val (.bl true), M')) :
    codeAny (model P w) callerA (.call (.ref f) ⟨[.ref a], []⟩) (fun r s' => r = .ok (.ret (.bool true)) ∧ OldK st.heap s'.heap ∧ s'.os = st.os ∧ AllBare s'.gens) st := by
  have rv := vals_ints hi
  have cnt := hi.length
  obtain ⟨M', hM'⟩ := true_
  have rds : ∀ (H : Hp) (m : List Addr), RDs ⟨K, fa⟩ H m (ns.map Mi.D.int) (ns.map V.int) := by
    intro H m
    clear hi cnt rv hM' hl
    induction ns with
    | nil => exact .nil
    | cons n ns ih => exact .cons (.int n) ih
  -- which addresses are tables
  let Ps := tl.map fun p => fa p.1
  have isT : ∀ b, b ∈ Ps → st.heap.get? b = some { cls := .none, data := .fields #[] } := fun b hb => by
    obtain ⟨p, hp, e⟩ := List.mem_map.mp hb
    rw [← e]
    exact hT p hp
  have aT : a ∉ Ps := fun z => by
    have q := isT a z
    rw [ha] at q
    cases (congrArg Obj.data (Option.some.inj q) : Data.seq vs.toArray _ = Data.fields #[])
  have main : ∀ H : Hp, (∀ b, H b ≠ none → (b = a ∧ ∃ o, H b = some (.frz o (.lst (ns.map V.int)))) ∨ (b ∈ Ps ∧ H b = some (.tbl #[]))) → (H a ≠ none → K.lookup a = none) → (∀ b ∈ Ps, H b = some (.tbl #[])) → RO ⟨K, fa⟩ H (a :: Ps) a (.flst (ns.map .int)) → HOk P w H st.heap →
      codeAny (model P w) callerA (.call (.ref f) ⟨[.ref a], []⟩) (fun r s' => r = .ok (.ret (.bool true)) ∧ OldK st.heap s'.heap ∧ s'.os = st.os ∧ AllBare s'.gens) st := by
    intro H only hK hH ro hok
    have free : ∀ {b : Addr} {o : Obj}, st.heap.get? b = some o → (∀ its n, o.data ≠ .seq its n) → o.data ≠ .fields #[] → H b = none := by
      intro b o e h1 h2
      cases q : H b with
      | none => rfl
      | some u =>
        rcases only b (by rw [q]; simp) with ⟨z, _⟩ | ⟨z, _⟩
        · rw [z, ha] at e
          cases e
          exact (h1 _ _ rfl).elim
        · rw [isT b z] at e
          cases e
          exact (h2 rfl).elim
    have notdict : ∀ {b : Addr} {o : Obj} {es : Array DictEntry} {ep : Nat}, st.heap.get? b = some o → o.data = .dict es ep → H b = none := fun e d => free e (fun _ _ z => by rw [d] at z; cases z) fun z => by rw [d] at z; cases z
    have carry : ∀ {b : Addr} {m : Str → Option Value}, st.heap.Ns b m → (hidT st.heap H).Ns b m := by
      intro b m hb'
      obtain ⟨o, es, ep, e, d, r⟩ := hb'
      exact ⟨o, es, ep, hidT_get e (notdict e d), d, r⟩
    have kin : K.In (hidT st.heap H) := by
      intro b o e
      refine hidT_get (KX b o e) ?_
      cases q : H b with
      | none => rfl
      | some u =>
        rcases only b (by rw [q]; simp) with ⟨z, _⟩ | ⟨z, _⟩
        · rw [z] at e q
          rw [hK (by rw [q]; simp)] at e
          cases e
        · obtain ⟨p, hp, ep⟩ := List.mem_map.mp z
          rw [← ep, nT p hp] at e
          cases e
    obtain ⟨mc, c1, c2⟩ := hlim
    have md : Mod K mg (hidT st.heap H) := ⟨kin, carry hns, ⟨mb, carry hb, hbb⟩, ⟨mc, carry c1, c2⟩⟩
    have TB : ∀ p ∈ tl, TabB (hidT st.heap H) mg (cc p.1) (fa p.1) := fun p hp => by
      have tp := hT p hp
      refine ⟨?_, ?_, fun z => ?_⟩
      · obtain ⟨o, us, file, tf, flags, tg, inF, text, tt, e1, r1, r2, r3, rest⟩ := C p hp
        refine ⟨o, us, file, tf, flags, tg, inF, text, tt, hidT_get e1 (free e1 (fun _ _ z => by rw [r2] at z; cases z) fun z => ?_), r1, r2, r3, rest⟩
        rw [r2] at z
        cases z
        simp at r3
      · obtain ⟨bm, ob, b1, b2, b3, b4, b5, b6⟩ := hbm
        have ng : bm ≠ mainGlobals := fun q => by
          obtain ⟨o, es, ep, e, hd, _⟩ := hns
          rw [q, e] at b3
          cases b3
          rw [hd] at b6
          cases b6
        have np : bm ≠ fa p.1 := fun q => by
          rw [q, tp] at b3
          cases b3
          cases b6
        exact ⟨bm, ob, b1, b2, ng, np, hidT_get b3 (free b3 (fun _ _ z => by rw [b6] at z; cases z) fun z => by rw [b6] at z; cases z), b4, b5, b6⟩
      · obtain ⟨o, es, ep, e, hd, _⟩ := hns
        rw [z, tp] at e
        cases e
        cases hd
    have e0 : Env0 P w K mg (hidT st.heap H) callerA [] st H := by
      refine ⟨rfl, md, fun b o e => of_hidT e, Nat.le_of_eq (hidT_size _ _), trivial, ?_, hok, .of_eq hg⟩
      intro b hb'
      cases hb'
    have atP : ∀ (n : Nat) (b : Addr) (o : MO), Ps[n]? = some b → (tl.map fun p => MO.tab p.1 p.2)[n]? = some o → ∃ p ∈ tl, b = fa p.1 ∧ o = .tab p.1 p.2 := fun n b o e1 e2 => by
      rw [List.getElem?_map, Option.map_eq_some_iff] at e1 e2
      obtain ⟨p, h1, rfl⟩ := e1
      obtain ⟨p', h2, rfl⟩ := e2
      rw [h1] at h2
      cases h2
      exact ⟨p, List.mem_of_getElem? h1, rfl, rfl⟩
    have rm : RM ⟨K, fa⟩ H (a :: Ps) (mem0 ns tl) := by
      refine ⟨by simp [mem0, Ps], ?_, ?_⟩
      · intro i j b o u e1 e2 f1 f2 m1 m2
        match i, j, e1, e2, f1, f2 with
        | 0, _, _, _, f1, _ => cases f1; cases m1
        | _, 0, _, _, _, f2 => cases f2; cases m2
        | i + 1, j + 1, e1, e2, _, _ =>
          have e1' : Ps[i]? = some b := e1
          have e2' : Ps[j]? = some b := e2
          have hi' := (List.getElem?_eq_some_iff.mp e1')
          have hj' := (List.getElem?_eq_some_iff.mp e2')
          have : i = j := (List.getElem_inj nd).mp (hi'.2.trans hj'.2.symm)
          rw [this]
      · intro n b o e1 e2
        match n, e1, e2 with
        | 0, e1, e2 => cases e1; cases e2; exact ro
        | n + 1, e1, e2 =>
          obtain ⟨p, hp, rfl, rfl⟩ := atP n b o e1 e2
          exact ⟨rfl, TabS.nil (hH _ (List.mem_map.mpr ⟨p, hp, rfl⟩))⟩
    have sp : SpX ⟨K, fa⟩ 1 g [V.ref a] H (fun v _ => v = .bl true) E0 := ⟨rfl, a :: Ps, _, [.ref 0], .val (.bl true), M', .cons (.ref rfl) .nil, rm, hM', fun m' H' _ _ _ v rd => by cases rd; rfl⟩
    refine codeAny_mono ((F _ kin (carry hns) TB).go callerA [] st H ⟨[.ref a], []⟩ [.ref a] [.ref a] _ _ hr (fun _ => rfl) e0 (hbind st (.ref a)) (.cons rfl .nil) sp) ?_
    intro r s' h
    match r, h with
    | .error e, h =>
      obtain ⟨_, _, _, _, _, _, _, _, _, _, _, _, q⟩ := h
      exact q.elim
    | .ok .next, h => exact h.elim
    | .ok .brk, h => exact h.elim
    | .ok .cont, h => exact h.elim
    | .ok (.ret u), h =>
      obtain ⟨v, H', os, bare, un, hok', r', q⟩ := h
      cases (show v = .bl true from q)
      cases (show u = Value.bool true from r')
      -- all but the tables stay; these grow
      have same : ∀ b o, b ∉ Ps → st.heap.get? b = some o → s'.heap.get? b = some o := fun b o nb e => by
        cases q : H b with
        | none => exact un.keep b o e q List.not_mem_nil List.not_mem_nil
        | some u =>
          rcases only b (by rw [q]; simp) with ⟨_, ob, z⟩ | ⟨z, _⟩
          · have o1 := (hok b _ z).1
            have o2 := (hok' b _ (un.frzs b ob _ z)).1
            rw [e] at o1
            cases o1
            exact o2
          · exact absurd z nb
      have tables : ∀ b ∈ Ps, (∃ more : Array Value, s'.heap.get? b = some { cls := .none, data := .fields more }) ∧ ∃ p ∈ tl, b = fa p.1 := fun b hb => by
        obtain ⟨more, z⟩ := un.tbls b #[] (hH b hb)
        obtain ⟨p, hp, e⟩ := List.mem_map.mp hb
        exact ⟨⟨_, hok' b _ z⟩, p, hp, e.symm⟩
      have stay : OldK st.heap s'.heap := by
        constructor
        · intro b o e
          by_cases hb : b ∈ Ps
          · obtain ⟨⟨more, hm⟩, p, hp, rfl⟩ := tables b hb
            rw [hT p hp] at e
            cases e
            refine .inr (.inl ⟨((C p hp).tab (hT p hp)).isCodeTable, rfl, #[], more, rfl, ?_⟩)
            rw [Array.empty_append]
            exact hm
          · exact .inl (same b o hb e)
        · intro b o e
          by_cases hb : b ∈ Ps
          · obtain ⟨⟨more, hm⟩, _⟩ := tables b hb
            exact ⟨_, hm⟩
          · exact ⟨o, same b o hb e⟩
      exact ⟨rfl, stay, os, bare⟩
  -- the heap that is told of: the tables, and the script unless the written part has it
  cases hk : K.lookup a with
  | some o =>
    have e := KX a o hk
    rw [ha] at e
    cases e
    have tbl : ∀ b, b ∈ Ps → (if b ∈ Ps then some (HO.tbl #[]) else none) = some (.tbl #[]) := fun b hb => if_pos hb
    refine main (fun b => if b ∈ Ps then some (.tbl #[]) else none) (fun b z => ?_) (fun z => absurd (if_neg aT) z) tbl ⟨ns.map V.int, .inr ⟨_, vs.toArray, _, hk, rfl, rfl, rfl, by rw [List.size_toArray, cnt]; exact hl, by simpa using rv⟩, rds _ _⟩ (fun b u z => ?_)
    · by_cases hb' : b ∈ Ps
      · exact .inr ⟨hb', if_pos hb'⟩
      · exact absurd (if_neg hb') z
    · by_cases hb' : b ∈ Ps
      · have z' := (tbl b hb').symm.trans z
        cases z'
        exact isT b hb'
      · cases (if_neg hb').symm.trans z
  | none =>
    have at_a : (if a = a then some (HO.frz { cls := .type "list", data := .seq vs.toArray } (.lst (ns.map V.int))) else if a ∈ Ps then some (.tbl #[]) else none) = some (.frz { cls := .type "list", data := .seq vs.toArray } (.lst (ns.map V.int))) := if_pos rfl
    have at_t : ∀ b, b ∈ Ps → (if b = a then some (HO.frz { cls := .type "list", data := .seq vs.toArray } (.lst (ns.map V.int))) else if b ∈ Ps then some (.tbl #[]) else none) = some (.tbl #[]) := fun b hb => by
      rw [if_neg (fun z => aT (by rw [← z]; exact hb)), if_pos hb]
    have at_n : ∀ b, b ≠ a → b ∉ Ps → (if b = a then some (HO.frz { cls := .type "list", data := .seq vs.toArray } (.lst (ns.map V.int))) else if b ∈ Ps then some (.tbl #[]) else none) = none := fun b h1 h2 => by
      rw [if_neg h1, if_neg h2]
    refine main (fun b => if b = a then some (.frz { cls := .type "list", data := .seq vs.toArray } (.lst (ns.map V.int))) else if b ∈ Ps then some (.tbl #[]) else none) (fun b z => ?_) (fun _ => hk) at_t ⟨ns.map V.int, .inl ⟨_, at_a⟩, rds _ _⟩ (fun b u z => ?_)
    · by_cases h1 : b = a
      · subst h1
        exact .inl ⟨rfl, _, at_a⟩
      · by_cases h2 : b ∈ Ps
        · exact .inr ⟨h2, at_t b h2⟩
        · exact absurd (at_n b h1 h2) z
    · by_cases h1 : b = a
      · subst h1
        cases at_a.symm.trans z
        exact ⟨ha, by rw [List.length_map]; exact hl, vs, _, rv, ha⟩
      · by_cases h2 : b ∈ Ps
        · cases (at_t b h2).symm.trans z
          exact isT b h2
        · cases (at_n b h1 h2).symm.trans z
/-- the end of a law's row -/
theorem walk_dataT {l : PySem.W.OpenLaw} {n k : Nat} {q : Program} {loose : List Str} {XP : (Str → Option Value) → Heap → Prop} {YP : World → Heap → Prop} {d : DefRec} {x : Str} {g : List D → Mem → Rx D} {tl : List (Nat × Str)}
    (hn : l.most = some n) (hn2 : n ≤ sizeLine) (hdf : d.params.defaults = []) (hr : Room k callerA)
    (F : ∀ (w : World) (mg : Str → Option Value) (f : Addr) (h : Heap), YP w h → h.Ns mainGlobals mg → mg d.name = some (.ref f) →
      ∃ (K : PySem.W.Frag) (fd : FuncData) (fa cc : Nat → Addr), K.In h ∧ (∀ (s : Shared) (u : Value), BindsTo s fd ⟨[u], []⟩ [(x, u)]) ∧
        (∀ p ∈ tl, h.get? (fa p.1) = some { cls := .none, data := .fields #[] }) ∧ (∀ p ∈ tl, K.lookup (fa p.1) = none) ∧ (∀ p ∈ tl, PySem.W.CodeHd h (cc p.1) (fa p.1)) ∧ (tl.map fun p => fa p.1).Nodup ∧
        ∀ base : Heap, K.In base → base.Ns mainGlobals mg → (∀ p ∈ tl, TabB base mg (cc p.1) (fa p.1)) → FnX l.prog w K mg base true k f fd [x] (SpX ⟨K, fa⟩ 1 g))
    (true_ : ∀ ns : List Int, ns.length ≤ n → ∃ M', g [.ref 0] (mem0 ns tl) = some (.val (.bl true), M')) :
    PySem.W.WalkO q loose XP YP l.row.toRowW d [] (fun f vs => PySem.call f vs) := by
  apply Att.attach_call hn hdf
  intro w s₀ s₁ mg mb f o pm cd doc a vs ns G Y ho hd hcd hmg hobj hints hlen hg
  obtain ⟨K, fd, fa, cc, KX, hb, h1, h2, h3, h4, hF⟩ := F w mg f _ Y G.T.g hmg
  exact law_hereT KX G.T.g G.T.b G.T.builtins G.T.nolimit hg h1 h2 h3 h4 G.T.bmain hobj hints (Nat.le_trans hlen hn2) hr hF hb (true_ ns hlen)
end Mi
set_option Elab.async false
set_option linter.all false
set_option maxRecDepth 100000
set_option maxHeartbeats 2000000
/-! a def by its body, where the body asks for its own code object (it makes lambdas) -/
namespace Mi
open PySem PySem.Spec PyProof.Rows L2
section
variable {P : Program} {w : World} {K : PySem.W.Frag} {mg : Str → Option Value} {base : Heap} {f : Addr} {fd : FuncData} {ps N : List Str} {gd : Bool} {k : Nat} {fa : Nat → Addr} {x qual : Str} {pa : Arguments} {bd : List Stmt} {sc : Scope}
theorem fnx_ofC {ev : Es} (F : FunD K x qual pa bd sc [] [] f fd) (S : FnScope N ps sc)
    (walk : ∀ (cd : Value) (A : Around) (fr : List Env) (st : Shared) (H : Hp) (E : XK), fd.code = cd → Room k (A.deeper (envOfC qual sc st.heap.objs.size f cd)) → (gd = true → (A.deeper (envOfC qual sc st.heap.objs.size f cd)).guards = some []) →
      PSs (cxOf (CXe P w) P w K mg base N qual sc f cd A fr st H E) bd (TSw (fun c d _ H' => E c d H') ⟨K, fa⟩ ev)) : FnX P w K mg base gd (k + 1) f fd ps (SpX ⟨K, fa⟩ ps.length (runX N.length ev)) := by
  obtain ⟨oc, od, dV, kV, doc, pm, an, cd, ct, osl, rfl, lk, hcd, _, _⟩ := F.ex
  refine ⟨fun vs H Q E h => h.1, fun A fr st H ar us vs Q E hr hg e0 hb rv hsp => ?_⟩
  refine LamX.run_ofS (N := N) lk hcd S hr e0 hb rv hsp.1 fun hr' => ?_
  exact ⟨_, walk cd A fr st H E rfl hr' hg, sp_bodyX hsp⟩
end
/-- every parameter is written; the last ones may be told by their names -/
theorem FunD_kwt {K : PySem.W.Frag} {x qual : Str} {pa : Arguments} {bd : List Stmt} {sc : Scope} {f : Addr} {fd : FuncData} {ps : List Str} (F : FunD K x qual pa bd sc [] [] f fd)
    (h : ∀ (kV doc pm : Value) (an : Option Addr) (cdv ct : Value) (vs : List Value), vs.length = ps.length → ∀ n, n ≤ ps.length → bindArgs (PySem.W.fnOf x qual pa bd sc .none kV doc pm an cdv ct) ⟨vs.take n, (ps.drop n).zip (vs.drop n)⟩ = pure (ps.zip vs)) : KwTail K fd ps := by
  obtain ⟨oc, od, dV, kV, doc, pm, an, cdv, ct, osl, rfl, lk, hcd, hD, hK⟩ := F.ex
  rcases hD with ⟨_, rfl⟩ | ⟨e, _⟩
  · intro s us ws _ hl
    have z := h kV doc pm an cdv ct (us ++ ws) (by rw [List.length_append]; exact hl) us.length (by omega)
    rw [List.take_left, List.drop_left] at z
    exact .of_eq z
  · exact absurd rfl e
/-- the suite of a class -/
def clsBody : Stmt → List Stmt
  | .ClassDef _ _ _ b _ _ _ _ _ _ _ => b
  | _ => []
def subDef (s : Stmt) (j : Nat) : Stmt := (clsBody s).getD j (.Pass ⟨0, 0, 0, 0⟩)
end Mi
set_option Elab.async false
set_option linter.all false
set_option maxRecDepth 100000
set_option maxHeartbeats 2000000
/-! what the head checks of classes, by Bools -/
namespace Mi
open PySem PySem.Spec PyProof.Rows L2
def lowC (K : PySem.W.Frag) (C : Addr) : Bool := match K.lookup C with
  | some ⟨.type "type", _, .cls cd, sl⟩ => match cd.mro, sl with
    | .ref C' :: bm, ⟨[_, _, _, _, some (.builtin n), _]⟩ => C' == C && (n == "ValueError.__new__" && (!cd.hasDel && (cd.hasDict && PySem.HandSPX.refsVE bm)))
    | _, _ => false
  | _ => false
theorem lowC_ok {K : PySem.W.Frag} {C : Addr} (h : lowC K C = true) : ∃ nm q N bs bm sn sub ab col dd k0 k1 k2 k3 k5, K.lookup C = some (excClassObj nm q C N bs bm true sn sub ab col dd k0 k1 k2 k3 k5 "ValueError.__new__") ∧ PySem.HandSPX.refsVE bm = true := by
  unfold lowC at h
  split at h
  · rename_i d cd sl e
    split at h
    · rename_i C' bm k0 k1 k2 k3 n k5 em
      rw [Bool.and_eq_true, Bool.and_eq_true, Bool.and_eq_true, Bool.and_eq_true, beq_iff_eq, beq_iff_eq, Bool.not_eq_true'] at h
      obtain ⟨h1, h2, h3, h4, h5⟩ := h
      cases cd
      simp only at em h3 h4
      subst em h1 h2 h3 h4
      exact ⟨_, _, _, _, bm, _, _, _, _, _, _, _, _, _, _, e, h5⟩
    · cases h
  · cases h
def kwB (K : PySem.W.Frag) (fI : Addr) : Bool := match K.lookup fI with
  | some ⟨_, _, .func fd, _⟩ => decide (fd.kwdefaults = .none)
  | _ => false
def lowB (K : PySem.W.Frag) (C fI : Addr) : Bool := lowC K C && (decide (PySem.W.findIn K (.ref C) "__setattr__" = some (some (.builtin "object.__setattr__"))) && (decide (PySem.W.findIn K (.ref C) "__getattribute__" = some (some (.builtin "BaseException.__getattribute__"))) && (decide (PySem.W.findIn K (.ref C) "__getattr__" = some none) && (decide (PySem.W.findIn K (.ref C) "value" = some none) && (decide (PySem.W.findIn K (.ref C) "__init__" = some (some (.ref fI))) && (decide (PySem.W.typeIn K (.ref fI) = some (.type "function")) && (PySem.W.keepIn K (.ref C) && (decide (PySem.W.subIn K (.ref C) (.type "BaseException") = some true) && (decide (PySem.W.typeIn K (.ref C) = some (.type "type")) && (PySem.W.hasDictIn K C && decide (PySem.W.exmOne K (.ref C) (.ref C) = some true)))))))))))
theorem low_ok {K : PySem.W.Frag} {mg : Str → Option Value} {xn : Str} {C fI : Addr} {fd : FuncData} {p1 p2 q1 q2 q3 q4 : Pos} (hg : mg xn = some (.ref C)) (F : FunD K "__init__" "MillError.__init__" (PySem.MiE.iA p1 p2) (PySem.MiE.iB q1 q2 q3 q4) PySem.MiE.iS [] [] fI fd) (h : lowB K C fI = true) (hk : kwB K fI = true) : PySem.MiE.LowTxt K mg xn C fI := by
  simp only [lowB, Bool.and_eq_true, decide_eq_true_eq] at h
  obtain ⟨h1, h2, h3, h4, h5, h6, h7, h8, h9, h10, h11, h12⟩ := h
  obtain ⟨oc, od, dV, kV, doc, pm, an, cd, ct, osl, rfl, lk, hcd, hD, hK⟩ := F.ex
  have hd : dV = .none := by
    rcases hD with ⟨_, z⟩ | ⟨z, _⟩
    · exact z
    · exact absurd rfl z
  have hk : kV = .none := by
    unfold kwB at hk
    rw [lk] at hk
    exact of_decide_eq_true hk
  subst hd hk
  exact ⟨hg, lowC_ok h1, h2, h3, h4, h5, h6, h7, h8, h9, h10, h11, h12, _, _, _, _, _, _, _, _, _, _, _, _, _, _, lk, hcd⟩
def tyB (K : PySem.W.Frag) (C : Addr) : Bool := decide (PySem.W.findIn K (.ref C) "__class__" = some (some (.builtin "object.__class__"))) && (decide (PySem.W.specialIn K (.builtin "object.__class__") "__get__" = some (some (.builtin "getset_descriptor.__get__"))) && (decide (PySem.W.takesIn K (.builtin "object.__class__") = some true) && decide (PySem.W.mroIn K C (.type "object") = some true)))
theorem inC_ok {K : PySem.W.Frag} {C : Addr} (c : Cls K C) (h : tyB K C = true) : InC K C := by
  simp only [tyB, Bool.and_eq_true, decide_eq_true_eq] at h
  obtain ⟨h1, h2, h3, h4⟩ := h
  exact ⟨c, h1, h2, h3, h4⟩
def xkB (K : PySem.W.Frag) (C : Addr) : Bool := tyB K C && (decide (PySem.W.findIn K (.ref C) "__getattribute__" = some (some (.builtin "BaseException.__getattribute__"))) && (decide (PySem.W.findIn K (.ref C) "__getattr__" = some none) && (decide (PySem.W.findIn K (.ref C) "value" = some none) && (decide (PySem.W.subIn K (.ref C) (.type "BaseException") = some true) && PySem.W.hasDictIn K C))))
theorem xk_ok {K : PySem.W.Frag} {C : Addr} (h : xkB K C = true) : XkC K C := by
  simp only [xkB, tyB, Bool.and_eq_true, decide_eq_true_eq] at h
  obtain ⟨⟨h1, h2, h3, h4⟩, h5, h6, h7, h8, h9⟩ := h
  exact ⟨⟨h5, h6, h8, h9, h1, h2, h3, h4⟩, h7⟩
/-- built-in classes of plain data -/
def plainT : List String := ["int", "str", "bool", "NoneType", "tuple", "list"]
def kitB (K : PySem.W.Frag) (C : Addr) : Bool := plainT.all fun s => decide (PySem.W.kitOne K (.type s) (.ref C) = some false)
theorem kit_ok {K : PySem.W.Frag} {C : Addr} (h : kitB K C = true) {s : String} (hs : plainT.contains s = true) : PySem.W.kitOne K (.type s) (.ref C) = some false := of_decide_eq_true (List.all_eq_true.mp h s (List.contains_iff_mem.mp hs))
def nfB (K : PySem.W.Frag) (C : Addr) : Bool := PySem.W.notFirst K C (.ref C) && plainT.all fun s => PySem.W.notFirst K C (.type s)
theorem nf_ok {K : PySem.W.Frag} {C : Addr} (h : nfB K C = true) {s : String} (hs : plainT.contains s = true) : PySem.W.notFirst K C (.type s) = true := List.all_eq_true.mp (He.ba h).2 s (List.contains_iff_mem.mp hs)
def neB (K : PySem.W.Frag) (C f : Addr) : Bool := neIn K C f && (K.lookup f).any fun o => o.cls == .type "function"
theorem ne_ok {K : PySem.W.Frag} {C f : Addr} (h : neB K C f = true) : neIn K C f = true ∧ ∃ of, K.lookup f = some of ∧ of.cls = .type "function" := by
  obtain ⟨h1, h2⟩ := He.ba h
  refine ⟨h1, ?_⟩
  cases q : K.lookup f with
  | none => rw [q] at h2; cases h2
  | some o => rw [q] at h2; exact ⟨o, rfl, beq_iff_eq.mp h2⟩
theorem all_at {l : List Bool} (h : l.all id = true) (i : Nat) {b : Bool} (e : l[i]? = some b) : b = true := List.all_eq_true.mp h b (List.mem_of_getElem? e)
end Mi
set_option Elab.async false
set_option linter.all false
set_option maxRecDepth 100000
set_option maxHeartbeats 2000000
/-! the laws' own drawing, a pot of three ints or more -/
namespace Mi
open PySem PySem.Spec PyProof.Rows L2
def PotR (M : Mem) (p : Nat) (k : Nat) : Prop := ∃ (a b c : Int) (r : List D), M[p]? = some (.lst (.int a :: .int b :: .int c :: r)) ∧ 0 ≤ b ∧ b < 2305843009213693921 ∧ 0 ≤ c ∧ c ≤ k
theorem PotR.keep {M M' : Mem} {p k : Nat} {ps : List Nat} (h : PotR M p k) (x : Kp ps M M') (hp : p ∉ ps) : PotR M' p k := let ⟨a, b, c, r, e, q⟩ := h; ⟨a, b, c, r, x.get e hp, q⟩
theorem PotR.lt {M : Mem} {p k : Nat} (h : PotR M p k) : p < M.length := let ⟨_, _, _, _, e, _⟩ := h; lt_of_get e
theorem PotR.up {M : Mem} {p k k' : Nat} (h : PotR M p k) (hk : k ≤ k') : PotR M p k' := let ⟨a, b, c, r, e, r1, r2, r3, r4⟩ := h; ⟨a, b, c, r, e, r1, r2, r3, by omega⟩
theorem ixr0 {n : Nat} : ixN (n + 1) 0 = some 0 := by unfold ixN; simp
theorem ixr2 {n : Nat} : ixN (n + 1 + 1 + 1) 2 = some 2 := by unfold ixN; simp; omega
theorem ixr1 {n : Nat} : ixN (n + 1 + 1) 1 = some 1 := by unfold ixN; simp; omega
theorem atr0 {a : D} {r : List D} : atD (a :: r) 0 = some a := by unfold atD; rw [List.length_cons, ixr0]; rfl
theorem atr1 {a b : D} {r : List D} : atD (a :: b :: r) 1 = some b := by unfold atD; rw [List.length_cons, List.length_cons, ixr1]; rfl
theorem atr2 {a b c : D} {r : List D} : atD (a :: b :: c :: r) 2 = some c := by unfold atD; rw [List.length_cons, List.length_cons, List.length_cons, ixr2]; rfl
theorem dn_run {n : Nat} {ev : Es} {ds : List D} {M : Mem} {Q : D → Mem → Prop} (h : Ok (runB n ev ds M) Q) : Ok (dnX (runX n ev) ds M) Q := by
  obtain ⟨d, M', e, q⟩ := h
  refine ⟨d, M', ?_, q⟩
  unfold runB at e
  unfold dnX runX
  cases z : ev (startD n ds) M with
  | none => rw [z] at e; cases e
  | some p =>
    rw [z] at e
    obtain ⟨o, M1⟩ := p
    cases o with
    | ret d1 => cases e; rfl
    | next ρ => cases e; rfl
    | _ => cases e
theorem takeR_spec {A B C E u : Int} {M : Mem} {p k : Nat} (hA : 0 ≤ A ∧ A ≤ 1000000) (hB : 0 ≤ B ∧ B ≤ 1000000) (hC : 0 < C ∧ C ≤ 1000000) (hE : 0 ≤ E ∧ E ≤ 1000000) (h : PotR M p k) (hk : k < 1000000000) (hu : 0 < u) (hu2 : u < 18446744073709551616) :
    Ok (runB 5 (takeBody A B C E) [.ref p, .int u] M) fun d M' => ∃ r : Int, d = .int r ∧ 0 ≤ r ∧ r < u ∧ PotR M' p (k + 1) ∧ Kp [p] M M' := by
  obtain ⟨a, b, c, r, e, b1, b2, c1, c2⟩ := h
  have l0 := lstAt_of e
  have hu3 : u.natAbs.log2 < 9000 := log_lt (by have : u.natAbs < 2 ^ 64 := by omega
                                                exact Nat.lt_of_lt_of_le this (Nat.pow_le_pow_right (by decide) (by decide))) (by decide)
  unfold runB takeBody
  by_cases ha : 0 < a
  · simp [startD, sSeq, sIf, bOf, eBin, oGt, oI0, oIx, eVar, eC, sSet, eCall, eCons, eNil, fInt, oMod, oI, sSub, oDiv, cDiv, sRet, setL, l0, e, atr0, ha, hu, hu3, ixr0, ixr2, List.set]
    exact ⟨Int.emod_nonneg _ (by omega), Int.emod_lt_of_pos _ hu, ⟨_, b, c, r, set_self e, b1, b2, c1, by omega⟩, Kp.set (by simp)⟩
  · have e1 := set_self (o := .lst (.int a :: .int b :: .int (c + 1) :: r)) e
    have l1 : lstAt (M.set p (.lst (.int a :: .int b :: .int (c + 1) :: r))) p = some (.int a :: .int b :: .int (c + 1) :: r) := lstAt_of e1
    have l2 : lstAt (M.set p (.lst (.int a :: .int b :: .int (c + 1) :: r)) ++ [.lst primesD]) p = some (.int a :: .int b :: .int (c + 1) :: r) := lstAt_of (append_get e1)
    have l3 : lstAt (M.set p (.lst (.int a :: .int b :: .int (c + 1) :: r)) ++ [.lst primesD]) M.length = some primesD := by
      have := lst_last (M := M.set p (.lst (.int a :: .int b :: .int (c + 1) :: r))) (xs := primesD)
      rw [List.length_set] at this
      exact this
    obtain ⟨q, q1, q2, q3⟩ := prime_at (c := c + 1) (by omega)
    have c3 : 0 ≤ c + 1 := by omega
    have c4 : c + 1 ≤ 1000000000 := by omega
    have sz : (5 : Nat) ≤ sizeLine := by rw [sizeLine_eq]; decide
    unfold primesD at l2 l3 q1
    obtain ⟨m1, m2⟩ := mul_nn hA.1 hA.2 c3 c4
    obtain ⟨m3, m4⟩ := mul_nn m1 m2 c3 c4
    have k1 : A.natAbs.log2 + (c + 1).natAbs.log2 < 1000000 := by
      have x1 : A.natAbs.log2 < 64 := log_lt (by omega) (by decide)
      have x2 : (c + 1).natAbs.log2 < 64 := log_lt (by omega) (by decide)
      omega
    have k2 : (A * (c + 1)).natAbs.log2 + (c + 1).natAbs.log2 < 1000000 := by
      have x1 : (A * (c + 1)).natAbs.log2 < 64 := log_lt (by omega) (by decide)
      have x2 : (c + 1).natAbs.log2 < 64 := log_lt (by omega) (by decide)
      omega
    generalize hy : b + A * (c + 1) * (c + 1) + B = y
    have y1 : 0 ≤ y ∧ y < 2 ^ 90 := by subst hy; constructor <;> omega
    have k3 : CPowB y 3 := ⟨by decide, by
      have := bits_le (i := y) (k := 90) (by omega)
      omega⟩
    have hq : 0 < q := by omega
    have z1 : 0 ≤ y ^ 3 % q := Int.emod_nonneg _ (by omega)
    have z2 : y ^ 3 % q < q := Int.emod_lt_of_pos _ hq
    generalize hz : y ^ 3 % q = z at z1 z2
    have w1 : 0 ≤ z % C := Int.emod_nonneg _ (by omega)
    have w2 : z % C < C := Int.emod_lt_of_pos _ hC.1
    obtain ⟨m5, m6⟩ := mul_nn hE.1 hE.2 c3 c4
    have k4 : E.natAbs.log2 + (c + 1).natAbs.log2 < 1000000 := by
      have x1 : E.natAbs.log2 < 64 := log_lt (by omega) (by decide)
      have x2 : (c + 1).natAbs.log2 < 64 := log_lt (by omega) (by decide)
      omega
    have k5 : z.natAbs.log2 + (z % C + E * (c + 1)).natAbs.log2 < 1000000 := by
      have x1 : z.natAbs.log2 < 64 := log_lt (by omega) (by decide)
      have x2 : (z % C + E * (c + 1)).natAbs.log2 < 64 := log_lt (by omega) (by decide)
      omega
    simp [startD, sSeq, sIf, bOf, eBin, oGt, oI0, oIx, eVar, eC, sSet, eCall, eCons, eNil, fInt, oMod, oMul, cMul, oPow, cPow, oI, sSub, oDiv, cDiv, sRet, setL, l0, l1, l2, l3, e, atr0, atr1, atr2, ha, hu, hu3, ixr0, ixr2, List.set, sNil, oAdd, eLst, q1, sz, k1, k2, hy, k3, hq, hz, hC.1, k4, k5]
    have t1 : 0 ≤ z * (z % C + E * (c + 1)) % 2305843009213693907 / 167 % u := Int.emod_nonneg _ (by omega)
    have t2 : z * (z % C + E * (c + 1)) % 2305843009213693907 / 167 % u < u := Int.emod_lt_of_pos _ hu
    rw [if_pos (by decide)]
    exact ⟨t1, t2, ⟨a, b, c + 1, r, append_get e1, b1, b2, by omega, by omega⟩, (Kp.set (by simp)).trans Kp.push⟩
theorem ofR_spec {call : CallF} {ti : Nat} {M : Mem} {p k : Nat} {d : D} {xs : List D}
    (take : ∀ {M : Mem} {p k : Nat} {u : Int}, PotR M p k → k < 1000000000 → 0 < u → u < 18446744073709551616 → Ok (call ti [.ref p, .int u] M) fun d M' => ∃ r : Int, d = .int r ∧ 0 ≤ r ∧ r < u ∧ PotR M' p (k + 1) ∧ Kp [p] M M')
    (h : PotR M p k) (hk : k < 1000000000) (hd : itemsOf M d = some xs) (hd2 : ∀ M', Kp [p] M M' → itemsOf M' d = some xs) (h0 : 0 < xs.length) (h1 : xs.length < 18446744073709551616) :
    Ok (runB 2 (ofBody call ti) [.ref p, d] M) fun x M' => x ∈ xs ∧ PotR M' p (k + 1) ∧ Kp [p] M M' := by
  unfold runB ofBody
  simp [startD, sRet, eBin, eVar, eCall, eCons, eNil, fLen_items hd]
  refine (take h hk (u := xs.length) (by omega) (by omega)).mono ?_
  rintro _ M' ⟨r, rfl, r1, r2, r3, r4⟩
  obtain ⟨x, x1, x2⟩ := oIx_items (hd2 M' r4) r1 r2
  simp [x2]
  exact ⟨x1, r3, r4⟩
def potBody5 (A B C E F : Int) : Es :=
  (sSeq (sSet 2 (eIf (bOf (eBin oLt (eVar 1) (eCall fLen (eCons (eVar 0) eNil)))) (eBin oIx (eVar 0) (eVar 1)) (eBin oAdd (eBin oAdd (eBin oMod (eCall fSum (eCons (eSl (eVar 0) poNone (poSome (eC (.int 1)))) eNil)) (eC (.int 1000003))) (eBin oMul (eC (.int A)) (eVar 1))) (eC (.int B)))))
    (sSeq (sSet 3 (eBin oMul (eBin oMod (eCall fInt (eCons (eCall fAbs (eCons (eVar 2) eNil)) eNil)) (eBin oPow (eBin oPow (eC (.int 10)) (eC (.int 60))) (eC (.int 5)))) (eCall fInt (eCons (eBin oGe (eCall fAbs (eCons (eVar 2) eNil)) (eBin oPow (eC (.int 10)) (eC (.int 18)))) eNil))))
    (sSeq (sSet 4 (eBin oMod (eCall fInt (eCons (eVar 2) eNil)) (eC (.int 2305843009213693951))))
    (sRet (eLst (eCons (eVar 3) (eCons (eBin oMod (eCall fInt (eCons (eBin oAdd (eBin oAdd (eBin oMul (eVar 4) (eC (.int C))) (eBin oMul (eBin oMul (eC (.int E)) (eVar 1)) (eVar 1))) (eC (.int F))) eNil)) (eC (.int 2305843009213693921))) (eCons (eC (.int 0)) (eCons (eC (.int 0)) (eCons (eC (.int 60)) eNil))))))))))
theorem pot5_spec {A B C E F : Int} {M : Mem} {s : Nat} {ns : List Int} {i : Nat} (hA : 0 ≤ A ∧ A ≤ 1000000) (hC : 0 ≤ C ∧ C ≤ 1000000) (hE : 0 ≤ E ∧ E ≤ 1000000) (h : M[s]? = some (.flst (ns.map .int))) (hi : i < 1000) :
    Ok (runB 5 (potBody5 A B C E F) [.ref s, .int i] M) fun d M' => ∃ p, d = .ref p ∧ M.length ≤ p ∧ PotR M' p 0 ∧ Kp [] M M' := by
  unfold runB potBody5
  have l := fLen_items (show itemsOf M (.ref s) = some (ns.map .int) from lstAt_of' h)
  have fin : ∀ (M1 : Mem) (cell : Int), Kp [] M M1 → Ok ((bindO ((sSeq (sSet 3 (eBin oMul (eBin oMod (eCall fInt (eCons (eCall fAbs (eCons (eVar 2) eNil)) eNil)) (eBin oPow (eBin oPow (eC (.int 10)) (eC (.int 60))) (eC (.int 5)))) (eCall fInt (eCons (eBin oGe (eCall fAbs (eCons (eVar 2) eNil)) (eBin oPow (eC (.int 10)) (eC (.int 18)))) eNil))))
    (sSeq (sSet 4 (eBin oMod (eCall fInt (eCons (eVar 2) eNil)) (eC (.int 2305843009213693951))))
    (sRet (eLst (eCons (eVar 3) (eCons (eBin oMod (eCall fInt (eCons (eBin oAdd (eBin oAdd (eBin oMul (eVar 4) (eC (.int C))) (eBin oMul (eBin oMul (eC (.int E)) (eVar 1)) (eVar 1))) (eC (.int F))) eNil)) (eC (.int 2305843009213693921))) (eCons (eC (.int 0)) (eCons (eC (.int 0)) (eCons (eC (.int 60)) eNil))))))))) [some (.ref s), some (.int i), some (.int cell), none, none] M1) fun o M1 => match o with
      | .ret d => some (d, M1)
      | .next _ => some (.non, M1)
      | _ => none)) fun d M' => ∃ p, d = .ref p ∧ M.length ≤ p ∧ PotR M' p 0 ∧ Kp [] M M' := by
    intro M1 cell hk
    have sz : (5 : Nat) ≤ sizeLine := by rw [sizeLine_eq]; decide
    simp [sSeq, sSet, sRet, eBin, eVar, eC, eCall, eCons, eNil, fInt, fAbs, oPow, cPow, oMod, oMul, cMul, oGe, oI, oI0, oAdd, eLst, List.set, sz]
    have x0 : ∀ x : Int, 0 ≤ x → x < 2 ^ 62 → x.natAbs.log2 < 1000 := fun x h1 h2 => log_lt (k := 1000) (Nat.lt_of_lt_of_le (show x.natAbs < 2 ^ 62 by omega) (Nat.pow_le_pow_right (by decide) (by decide))) (by decide)
    have xi : i.log2 < 1000 := by
      have := x0 (i : Int) (by omega) (by omega)
      simpa using this
    obtain ⟨m1, m2⟩ := mul_nn (x := E) (y := (i : Int)) hE.1 hE.2 (by omega) (show (i : Int) ≤ 1000 by omega)
    rw [if_pos (by decide), if_pos (by decide), if_pos (by decide), if_pos, if_pos, if_pos, if_pos]
    · refine ⟨hk.1, ⟨_, _, 0, _, push_last, Int.emod_nonneg _ (by decide), Int.emod_lt_of_pos _ (by decide), by decide, by decide⟩, hk.trans Kp.push⟩
    · have := x0 (E * (i : Int)) m1 (by omega)
      omega
    · have := x0 E hE.1 (by omega)
      omega
    · have y1 := x0 (cell % 2305843009213693951) (Int.emod_nonneg _ (by decide)) (Int.lt_trans (Int.emod_lt_of_pos _ (by decide)) (by decide))
      have y2 := x0 C hC.1 (by omega)
      omega
    · generalize (if cell < 0 then -cell else cell) = v
      generalize hb : (1000000000000000000000000000000000000000000000000000000000000000000000000000000000000000000000000000000000000000000000000000000000000000000000000000000000000000000000000000000000000000000000000000000000000000000000000000000000000000000000000000000000000000000000000000000000000000000000000000000000000 : Int) = big
      have hb1 : 0 < big := by rw [← hb]; decide
      have hb2 : big.natAbs < 2 ^ 1000 := by rw [← hb]; decide
      have z1 := Int.emod_nonneg v (b := big) (by omega)
      have z2 := Int.emod_lt_of_pos v hb1
      have y1 : (v % big).natAbs.log2 < 1000 := log_lt (Nat.lt_trans (by omega) hb2) (by decide)
      have y2 : (if (1000000000000000000 : Int) ≤ v then (1 : Int) else 0).natAbs.log2 < 1000 := by split <;> decide
      omega
  rw [ok_bind, show sSeq = fun x y ρ M => bindO (x ρ M) fun o M1 => match o with
    | .next ρ1 => y ρ1 M1
    | o => some (o, M1) from rfl]
  simp only [ok_bind]
  have step : Ok (sSet 2 (eIf (bOf (eBin oLt (eVar 1) (eCall fLen (eCons (eVar 0) eNil)))) (eBin oIx (eVar 0) (eVar 1)) (eBin oAdd (eBin oAdd (eBin oMod (eCall fSum (eCons (eSl (eVar 0) poNone (poSome (eC (.int 1)))) eNil)) (eC (.int 1000003))) (eBin oMul (eC (.int A)) (eVar 1))) (eC (.int B)))) (startD 5 [.ref s, .int i]) M) fun o M1 => ∃ cell, o = .next [some (.ref s), some (.int i), some (.int cell), none, none] ∧ Kp [] M M1 := by
    have li : lstAt M s = some (ns.map .int) := lstAt_of' h
    by_cases hlt : i < ns.length
    · have hx : atD (ns.map Mi.D.int) (i : Int) = some (.int ns[i]) := by
        unfold atD ixN
        rw [if_pos (by omega), if_pos (by rw [List.length_map]; omega)]
        simp [hlt]
      simp [startD, sSet, eIf, bOf, eBin, eVar, eCall, eCons, eNil, l, oLt, oI0, hlt, oIx, li, hx, List.set]
      exact Kp.refl
    · have hs : intsOf ((ns.map Mi.D.int).take 1) = some (ns.take 1) := by
        cases ns <;> rfl
      have x1 : A.natAbs.log2 < 64 := log_lt (by omega) (by decide)
      have x2 : i.log2 < 64 := by
        have := log_lt (i := (i : Int)) (k := 64) (by omega) (by decide)
        simpa using this
      have cut : cutD (ns.map Mi.D.int) none (some 1) = (ns.map Mi.D.int).take 1 := by
        unfold cutD
        cases ns <;> simp [HT.sIx]
      have sm : lstAt (M ++ [.lst (cutD (ns.map Mi.D.int) none (some 1))]) M.length = some (cutD (ns.map Mi.D.int) none (some 1)) := lst_last
      rw [← cut] at hs
      have x3 : A.natAbs.log2 + i.log2 < 1000000 := by omega
      simp [startD, sSet, eIf, bOf, eBin, eVar, eCall, eCons, eNil, l, oLt, oI0, hlt, li, List.set, oAdd, oMod, oI, fSum, eSl, poNone, poSome, eC, oMul, cMul, sm, hs, x3]
      exact Kp.push
  refine step.mono ?_
  rintro _ M1 ⟨cell, rfl, hk⟩
  have := fin M1 cell hk
  simp only [ok_bind] at this
  exact this
end Mi
set_option Elab.async false
set_option linter.all false
set_option maxRecDepth 100000
set_option maxHeartbeats 2000000
/-! texts of plain data tell the data apart -/
namespace Mi
open PySem PySem.Spec PyProof.Rows L2
open PySem.Builtin.Str (reprChar)
def cl (s : Str) : List Nat := s.cps.toList
theorem cl_app (a b : Str) : cl (a ++ b) = cl a ++ cl b := PyProof.Rows.cps_toList_append a b
theorem cl_lit (s : String) : cl (Str.ofString s) = s.toList.map Char.toNat := by unfold cl; rw [Str.ofString_eq_toList]
/-- what may follow a datum's text -/
def Dl (r : List Nat) : Prop := r = [] ∨ ∃ c r', r = c :: r' ∧ (c = 44 ∨ c = 41 ∨ c = 93)
/-- what may follow a row of them -/
def Tm (r : List Nat) : Prop := ∃ c r', r = c :: r' ∧ (c = 41 ∨ c = 93 ∨ (c = 44 ∧ ∃ r2, r' = 41 :: r2))
theorem Tm.dl {r : List Nat} (h : Tm r) : Dl r := by
  obtain ⟨c, r', e, h⟩ := h
  refine .inr ⟨c, r', e, ?_⟩
  rcases h with h | h | h
  · exact .inr (.inl h)
  · exact .inr (.inr h)
  · exact .inl h.1
/-- two rows of signs of a kind, what follows is of no such kind -/
theorem span_inj {p : Nat → Prop} {r s : List Nat} (hr : ∀ c r', r = c :: r' → ¬ p c) (hs : ∀ c r', s = c :: r' → ¬ p c) : ∀ {a b : List Nat}, (∀ c ∈ a, p c) → (∀ c ∈ b, p c) → a ++ r = b ++ s → a = b ∧ r = s
  | [], [], _, _, e => ⟨rfl, e⟩
  | [], c :: b, _, hb, e => absurd (hb c List.mem_cons_self) (hr c _ e)
  | c :: a, [], ha, _, e => absurd (ha c List.mem_cons_self) (hs c _ e.symm)
  | c :: a, c' :: b, ha, hb, e => by
    obtain ⟨e1, e2⟩ := List.cons.inj e
    obtain ⟨e3, e4⟩ := span_inj hr hs (fun x hx => ha x (List.mem_cons_of_mem _ hx)) (fun x hx => hb x (List.mem_cons_of_mem _ hx)) e2
    exact ⟨by rw [e1, e3], e4⟩
/-! ints -/
def numc (c : Nat) : Prop := c = 45 ∨ (48 ≤ c ∧ c ≤ 57)
theorem nat_num {m c : Nat} (h : c ∈ m.repr.toList.map Char.toNat) : numc c := by
  obtain ⟨x, hx, rfl⟩ := List.mem_map.mp h
  rw [Nat.repr, String.toList_ofList] at hx
  have := Nat.isDigit_of_mem_toDigits (by decide) (by decide) hx
  simp only [Char.isDigit, Bool.and_eq_true, decide_eq_true_eq] at this
  obtain ⟨h1, h2⟩ := this
  exact .inr ⟨by have := UInt32.le_iff_toNat_le.mp h1; exact this, by have := UInt32.le_iff_toNat_le.mp h2; exact this⟩
theorem int_repr (i : Int) : toString i = i.repr := rfl
theorem int_num {i : Int} {c : Nat} (h : c ∈ cl (Str.ofString (toString i))) : numc c := by
  rw [cl_lit, int_repr] at h
  cases i with
  | ofNat m => exact nat_num h
  | negSucc m =>
    have e : (Int.negSucc m).repr = "-" ++ m.succ.repr := rfl
    rw [e, String.toList_append, List.map_append] at h
    rcases List.mem_append.mp h with h | h
    · exact .inl (by simpa using h)
    · exact nat_num h
theorem int_inj {i j : Int} (h : cl (Str.ofString (toString i)) = cl (Str.ofString (toString j))) : i = j := by
  rw [cl_lit, cl_lit] at h
  have h2 : (toString i).toList = (toString j).toList := List.map_inj_right (fun a b e => by exact Char.toNat_inj.mp e) |>.mp h
  exact Int.repr_inj.mp (String.toList_inj.mp h2)
theorem int_some (i : Int) : ∃ c t, cl (Str.ofString (toString i)) = c :: t := by
  cases q : cl (Str.ofString (toString i)) with
  | cons c t => exact ⟨c, t, rfl⟩
  | nil =>
    exfalso
    rw [cl_lit, int_repr] at q
    have q2 : i.repr.toList = [] := List.map_eq_nil_iff.mp q
    cases i with
    | ofNat m =>
      have : (Nat.toDigits 10 m) = [] := by
        have e : (Int.ofNat m).repr = m.repr := rfl
        rw [e, Nat.repr, String.toList_ofList] at q2
        exact q2
      exact absurd this (by simp)
    | negSucc m =>
      have e : (Int.negSucc m).repr = "-" ++ m.succ.repr := rfl
      rw [e, String.toList_append] at q2
      simp at q2
/-! texts of letters, digits, _ -/
def wc (c : Nat) : Bool := (decide (48 ≤ c) && decide (c ≤ 57)) || (decide (65 ≤ c) && decide (c ≤ 90)) || (decide (97 ≤ c) && decide (c ≤ 122)) || c == 95
theorem wc_char' : ∀ c ∈ List.range 128, wc c = true → reprChar 39 c = [c] ∧ c ≠ 39 := by decide +kernel
theorem wc_char {c : Nat} (h : wc c = true) : reprChar 39 c = [c] ∧ c ≠ 39 := wc_char' c (List.mem_range.mpr (by
  simp only [wc, Bool.or_eq_true, Bool.and_eq_true, decide_eq_true_eq, beq_iff_eq] at h
  omega)) h
theorem rep_fold : ∀ (l : List Nat) (acc : Array Nat), (∀ c ∈ l, wc c = true) → (l.foldl (fun out c => out ++ (reprChar 39 c).toArray) acc).toList = acc.toList ++ l
  | [], acc, _ => by simp
  | c :: l, acc, h => by
    rw [List.foldl_cons, rep_fold l _ fun x hx => h x (List.mem_cons_of_mem _ hx), (wc_char (h c List.mem_cons_self)).1]
    simp
theorem rep_plain {x : Str} (h : ∀ c ∈ cl x, wc c = true) : cl (reprText x) = 39 :: cl x ++ [39] := by
  have q : reprQuote x = 39 := by
    have hn : x.cps.contains 39 = false := by
      rw [Bool.eq_false_iff]
      intro z
      have z2 : (39 : Nat) ∈ x.cps := Array.contains_iff_mem.mp z
      exact (wc_char (h 39 (Array.mem_toList_iff.mpr z2))).2 rfl
    unfold reprQuote
    rw [hn]; rfl
  unfold cl reprText
  rw [q, Array.toList_push, ← Array.foldl_toList, rep_fold x.cps.toList _ h]
  rfl
/-! ### data -/
mutual
/-- plain data: ints, None, bools, texts of letters, digits, _, and lists and tuples of such -/
def pln : PyData → Bool
  | .none | .bool _ | .int _ => true
  | .str x => (cl x).all wc
  | .list xs => plnAll xs
  | .tuple xs => plnAll xs
  | .dict _ => false
def plnAll : List PyData → Bool
  | [] => true
  | x :: xs => pln x && plnAll xs
end
/-- ", " between -/
def els : List Str → List Nat
  | [] => []
  | [x] => cl x
  | x :: y :: r => cl x ++ 44 :: 32 :: els (y :: r)
def tl : List Str → List Nat
  | [] => []
  | y :: r => 44 :: 32 :: els (y :: r)
theorem els_cons {x : Str} : ∀ {r : List Str}, els (x :: r) = cl x ++ tl r
  | [] => (List.append_nil _).symm
  | _ :: _ => rfl
theorem cl_sep : cl (Str.ofString ", ") = [44, 32] := by decide +kernel
theorem join_els : ∀ ts : List Str, cl (Str.join (Str.ofString ", ") ts) = els ts
  | [] => rfl
  | [x] => rfl
  | x :: y :: r => by
    show cl (x ++ Str.ofString ", " ++ Str.join (Str.ofString ", ") (y :: r)) = _
    rw [cl_app, cl_app, join_els (y :: r), cl_sep, List.append_assoc]
    rfl
theorem text_from : ∀ (ts : List Str) (k : Nat) (acc : Str), cl (textFrom k acc ts) = cl acc ++ (if k > 0 then tl ts else els ts)
  | [], k, acc => by
    show cl acc = _
    split <;> simp [tl, els]
  | t :: ts, k, acc => by
    show cl (textFrom (k + 1) (acc ++ Str.ofString (if k > 0 then ", " else "" : String) ++ t) ts) = _
    rw [text_from ts (k + 1), if_pos (Nat.succ_pos k), cl_app, cl_app]
    by_cases h : k > 0
    · rw [if_pos h, if_pos h, cl_sep]
      show _ = cl acc ++ (44 :: 32 :: els (t :: ts))
      rw [els_cons]
      simp
    · rw [if_neg h, if_neg h, els_cons]
      have e : cl (Str.ofString "") = [] := by decide +kernel
      rw [e]
      simp
theorem list_text (ts : List Str) : cl (listText ts) = 91 :: (els ts ++ [93]) := by
  have e1 : cl (Str.ofString "[") = [91] := by decide +kernel
  have e2 : cl (Str.ofString "]") = [93] := by decide +kernel
  show cl (textFrom 0 (Str.ofString "[") ts ++ Str.ofString "]") = _
  rw [cl_app, text_from, if_neg (by decide), e1, e2]
  rfl
def tend : Nat → List Nat := fun n => if n = 1 then [44, 41] else [41]
theorem tuple_text (ts : List Str) : cl (tupleText ts) = 40 :: (els ts ++ tend ts.length) := by
  have e1 : cl (Str.ofString "(") = [40] := by decide +kernel
  have e2 : cl (Str.ofString ",)") = [44, 41] := by decide +kernel
  have e3 : cl (Str.ofString ")") = [41] := by decide +kernel
  show cl (Str.ofString "(" ++ Str.join (Str.ofString ", ") ts ++ Str.ofString (if ts.length == 1 then ",)" else ")" : String)) = _
  rw [cl_app, cl_app, join_els, e1]
  unfold tend
  by_cases h : ts.length = 1
  · rw [if_pos h, if_pos (beq_iff_eq.mpr h), e2]; rfl
  · rw [if_neg h, if_neg (fun z => h (beq_iff_eq.mp z)), e3]; rfl
theorem shownAll_len : ∀ xs : List PyData, (PyData.shownAll xs).length = xs.length
  | [] => rfl
  | x :: xs => by rw [PyData.shownAll, List.length_cons, List.length_cons, shownAll_len xs]
/-- of which kind, by its first sign -/
def tg (c : Nat) : Nat := if c = 78 then 0 else if c = 84 then 1 else if c = 70 then 2 else if c = 39 then 4 else if c = 91 then 5 else if c = 40 then 6 else if c = 45 ∨ (48 ≤ c ∧ c ≤ 57) then 3 else if c = 44 then 7 else 8
def tgD : PyData → Nat
  | .none => 0
  | .bool true => 1
  | .bool false => 2
  | .int _ => 3
  | .str _ => 4
  | .list _ => 5
  | .tuple _ => 6
  | .dict _ => 9
theorem tg_num {c : Nat} (h : numc c) : tg c = 3 := by
  unfold numc at h
  unfold tg
  repeat' (first | split | rfl | omega)
theorem head_tg : ∀ (d : PyData), pln d = true → ∃ c t, cl d.shown = c :: t ∧ tg c = tgD d
  | .none, _ => ⟨78, [111, 110, 101], (show cl (Str.ofString "None") = [78, 111, 110, 101] by decide +kernel), rfl⟩
  | .bool true, _ => ⟨84, [114, 117, 101], (show cl (Str.ofString "True") = [84, 114, 117, 101] by decide +kernel), rfl⟩
  | .bool false, _ => ⟨70, [97, 108, 115, 101], (show cl (Str.ofString "False") = [70, 97, 108, 115, 101] by decide +kernel), rfl⟩
  | .int i, _ => by
    obtain ⟨c, t, e⟩ := int_some i
    refine ⟨c, t, by rw [PyData.shown]; exact e, ?_⟩
    exact tg_num (int_num (i := i) (by rw [e]; exact List.mem_cons_self))
  | .str x, h => by
    rw [pln, List.all_eq_true] at h
    exact ⟨39, _, by rw [PyData.shown, rep_plain h]; rfl, rfl⟩
  | .list xs, _ => ⟨91, _, by rw [PyData.shown, list_text], rfl⟩
  | .tuple xs, _ => ⟨40, _, by rw [PyData.shown, tuple_text], rfl⟩
  | .dict _, h => by simp [pln] at h
theorem Dl.num {r : List Nat} (h : Dl r) : ∀ c r', r = c :: r' → ¬ numc c := by
  intro c r' e hn
  rcases h with h | ⟨c2, r2, e2, h⟩
  · rw [h] at e; cases e
  · rw [e2] at e; cases e
    unfold numc at hn
    omega
theorem sh_cons (x : PyData) (xs : List PyData) : els (PyData.shownAll (x :: xs)) = cl x.shown ++ tl (PyData.shownAll xs) := by rw [PyData.shownAll, els_cons]
theorem tl_cons (x : PyData) (xs : List PyData) : tl (PyData.shownAll (x :: xs)) = 44 :: 32 :: els (PyData.shownAll (x :: xs)) := by rw [PyData.shownAll]; rfl
theorem dl_tl {xs : List PyData} {r : List Nat} (h : Tm r) : Dl (tl (PyData.shownAll xs) ++ r) := by
  cases xs with
  | nil => exact h.dl
  | cons x xs => rw [tl_cons]; exact .inr ⟨44, _, rfl, .inl rfl⟩
theorem tm_list (r : List Nat) : Tm ([93] ++ r) := ⟨93, r, rfl, .inr (.inl rfl)⟩
theorem tm_tend (n : Nat) (r : List Nat) : Tm (tend n ++ r) := by
  unfold tend
  split
  · exact ⟨44, 41 :: r, rfl, .inr (.inr ⟨rfl, r, rfl⟩)⟩
  · exact ⟨41, r, rfl, .inl rfl⟩
theorem tm_tg {c : Nat} {r t : List Nat} (h : Tm r) (e : r = c :: t) : tg c = 7 ∨ tg c = 8 := by
  obtain ⟨c2, r2, e2, h⟩ := h
  rw [e2] at e; cases e
  rcases h with rfl | rfl | ⟨rfl, _⟩
  · exact .inr rfl
  · exact .inr rfl
  · exact .inl rfl
theorem tgD_small {d : PyData} (h : pln d = true) : tgD d ≤ 6 := by
  cases d with
  | bool b => cases b <;> decide
  | dict _ => simp [pln] at h
  | _ => simp [tgD]
mutual
theorem sh_inj : ∀ (d e : PyData) {r s : List Nat}, pln d = true → pln e = true → Dl r → Dl s → cl d.shown ++ r = cl e.shown ++ s → d = e ∧ r = s := fun d e {r s} hd he hr hs q => by
  have tq : tgD d = tgD e := by
    obtain ⟨c, t, e1, t1⟩ := head_tg d hd
    obtain ⟨c', t', e2, t2⟩ := head_tg e he
    rw [e1, e2] at q
    rw [← t1, ← t2, (List.cons.inj q).1]
  match d, e with
  | .none, .none => exact ⟨rfl, List.append_cancel_left q⟩
  | .bool true, .bool true => exact ⟨rfl, List.append_cancel_left q⟩
  | .bool false, .bool false => exact ⟨rfl, List.append_cancel_left q⟩
  | .bool true, .bool false => simp [tgD] at tq
  | .bool false, .bool true => simp [tgD] at tq
  | .int i, .int j =>
    rw [PyData.shown, PyData.shown] at q
    obtain ⟨h1, h2⟩ := span_inj (p := numc) hr.num hs.num (fun c hc => int_num hc) (fun c hc => int_num hc) q
    exact ⟨by rw [int_inj h1], h2⟩
  | .str x, .str y =>
    rw [pln, List.all_eq_true] at hd he
    rw [PyData.shown, PyData.shown, rep_plain hd, rep_plain he, List.append_assoc, List.append_assoc] at q
    obtain ⟨h1, h2⟩ := span_inj (p := fun c => wc c = true) (r := [39] ++ r) (s := [39] ++ s) (fun c r' e => by cases e; decide) (fun c r' e => by cases e; decide) hd he (List.cons.inj q).2
    refine ⟨?_, List.append_cancel_left h2⟩
    obtain ⟨⟨a⟩⟩ := x
    obtain ⟨⟨b⟩⟩ := y
    have : a = b := h1
    rw [this]
  | .list xs, .list ys =>
    rw [PyData.shown, PyData.shown, list_text, list_text] at q
    have q2 : els (PyData.shownAll xs) ++ [93] ++ r = els (PyData.shownAll ys) ++ [93] ++ s := (List.cons.inj q).2
    rw [List.append_assoc, List.append_assoc] at q2
    rw [pln] at hd he
    obtain ⟨h1, h2⟩ := els_inj xs ys hd he (tm_list r) (tm_list s) q2
    exact ⟨by rw [h1], List.append_cancel_left h2⟩
  | .tuple xs, .tuple ys =>
    rw [PyData.shown, PyData.shown, tuple_text, tuple_text] at q
    have q2 : els (PyData.shownAll xs) ++ tend (PyData.shownAll xs).length ++ r = els (PyData.shownAll ys) ++ tend (PyData.shownAll ys).length ++ s := (List.cons.inj q).2
    rw [List.append_assoc, List.append_assoc] at q2
    rw [pln] at hd he
    obtain ⟨h1, h2⟩ := els_inj xs ys hd he (tm_tend _ r) (tm_tend _ s) q2
    subst h1
    exact ⟨rfl, List.append_cancel_left h2⟩
  | .dict _, _ => simp [pln] at hd
  | _, .dict _ => simp [pln] at he
  | .none, .bool b => cases b <;> simp [tgD] at tq
  | .bool b, .none => cases b <;> simp [tgD] at tq
  | .none, .int _ => simp [tgD] at tq
  | .none, .str _ => simp [tgD] at tq
  | .none, .list _ => simp [tgD] at tq
  | .none, .tuple _ => simp [tgD] at tq
  | .bool b, .int _ => cases b <;> simp [tgD] at tq
  | .bool b, .str _ => cases b <;> simp [tgD] at tq
  | .bool b, .list _ => cases b <;> simp [tgD] at tq
  | .bool b, .tuple _ => cases b <;> simp [tgD] at tq
  | .int _, .none => simp [tgD] at tq
  | .int _, .bool b => cases b <;> simp [tgD] at tq
  | .int _, .str _ => simp [tgD] at tq
  | .int _, .list _ => simp [tgD] at tq
  | .int _, .tuple _ => simp [tgD] at tq
  | .str _, .none => simp [tgD] at tq
  | .str _, .bool b => cases b <;> simp [tgD] at tq
  | .str _, .int _ => simp [tgD] at tq
  | .str _, .list _ => simp [tgD] at tq
  | .str _, .tuple _ => simp [tgD] at tq
  | .list _, .none => simp [tgD] at tq
  | .list _, .bool b => cases b <;> simp [tgD] at tq
  | .list _, .int _ => simp [tgD] at tq
  | .list _, .str _ => simp [tgD] at tq
  | .list _, .tuple _ => simp [tgD] at tq
  | .tuple _, .none => simp [tgD] at tq
  | .tuple _, .bool b => cases b <;> simp [tgD] at tq
  | .tuple _, .int _ => simp [tgD] at tq
  | .tuple _, .str _ => simp [tgD] at tq
  | .tuple _, .list _ => simp [tgD] at tq
theorem els_inj : ∀ (xs ys : List PyData) {r s : List Nat}, plnAll xs = true → plnAll ys = true → Tm r → Tm s → els (PyData.shownAll xs) ++ r = els (PyData.shownAll ys) ++ s → xs = ys ∧ r = s
  | [], [], r, s, _, _, _, _, q => ⟨rfl, q⟩
  | [], y :: ys, r, s, _, hy, hr, hs, q => by
    rw [plnAll, Bool.and_eq_true] at hy
    obtain ⟨c, t, e1, t1⟩ := head_tg y hy.1
    rw [sh_cons, e1] at q
    have := tm_tg hr (show r = c :: (t ++ tl (PyData.shownAll ys) ++ s) from q.trans (by simp))
    have := tgD_small hy.1
    omega
  | x :: xs, [], r, s, hx, _, hr, hs, q => by
    rw [plnAll, Bool.and_eq_true] at hx
    obtain ⟨c, t, e1, t1⟩ := head_tg x hx.1
    rw [sh_cons, e1] at q
    have := tm_tg hs (show s = c :: (t ++ tl (PyData.shownAll xs) ++ r) from q.symm.trans (by simp))
    have := tgD_small hx.1
    omega
  | x :: xs, y :: ys, r, s, hx, hy, hr, hs, q => by
    rw [plnAll, Bool.and_eq_true] at hx hy
    rw [sh_cons, sh_cons, List.append_assoc, List.append_assoc] at q
    obtain ⟨h1, h2⟩ := sh_inj x y hx.1 hy.1 (dl_tl hr) (dl_tl hs) q
    match xs, ys with
    | [], [] => exact ⟨by rw [h1], h2⟩
    | [], y2 :: ys2 =>
      exfalso
      rw [tl_cons] at h2
      obtain ⟨c, r', e, h⟩ := hr
      have h3 : r = 44 :: 32 :: (els (PyData.shownAll (y2 :: ys2)) ++ s) := h2
      rw [h3] at e
      cases e
      rcases h with h | h | ⟨_, r2, h⟩ <;> cases h
    | x2 :: xs2, [] =>
      exfalso
      rw [tl_cons] at h2
      obtain ⟨c, r', e, h⟩ := hs
      have h3 : s = 44 :: 32 :: (els (PyData.shownAll (x2 :: xs2)) ++ r) := h2.symm
      rw [h3] at e
      cases e
      rcases h with h | h | ⟨_, r2, h⟩ <;> cases h
    | x2 :: xs2, y2 :: ys2 =>
      rw [tl_cons, tl_cons] at h2
      have h3 := (List.cons.inj (List.cons.inj h2).2).2
      obtain ⟨h4, h5⟩ := els_inj (x2 :: xs2) (y2 :: ys2) hx.2 hy.2 hr hs h3
      exact ⟨by rw [h1, h4], h5⟩
end
/-- texts of plain data tell them apart -/
theorem shown_inj {d e : PyData} (hd : pln d = true) (he : pln e = true) (q : d.shown = e.shown) : d = e := (sh_inj d e (r := []) (s := []) hd he (.inl rfl) (.inl rfl) (by rw [q])).1
end Mi
set_option Elab.async false
set_option linter.all false
set_option maxRecDepth 100000
set_option maxHeartbeats 2000000
/-! a comprehension over rows that stand for other data -/
namespace Mi
open PySem PySem.Spec PyProof.Rows L2
theorem lc_map {α : Type} {src : EvI} {vs : List Nat} {g : D → Loc → Option Loc} {t : EvB} {el : Ev} {ρ : Loc} {M M1 : Mem} {get : Src} (l : List α) (row : α → D) (p : α → Bool) (f : α → D) (hs : src ρ M = some (get, M1)) (hl : l.length ≤ sizeLine) (hg : ∀ acc, get (M1 ++ [.lst acc]) = some (l.map row))
    (h : ∀ r ∈ l, ∃ ρ1, g (row r) (wipeD ρ vs) = some ρ1 ∧ ∀ acc, t ρ1 (M1 ++ [.lst acc]) = some (p r, M1 ++ [.lst acc]) ∧ (p r = true → el ρ1 (M1 ++ [.lst acc]) = some (f r, M1 ++ [.lst acc]))) :
    eLc src vs g t el ρ M = some (.ref M1.length, M1 ++ [.lst ((l.filter p).map f)]) := by
  have key : Ok (eLc src vs g t el ρ M) fun d M' => d = .ref M1.length ∧ M' = M1 ++ [.lst ((l.filter p).map f)] := by
    refine ok_lc l.length hl (fun _ j acc M' => M' = M1 ++ [.lst acc] ∧ acc = ((l.take j).filter p).map f) ?_
    rw [hs]
    refine ok_some.mpr ⟨⟨rfl, rfl⟩, ⟨l.map row, hg [], List.length_map _⟩, ?_, ?_⟩
    · rintro j acc _ hj _ _ ⟨rfl, ha⟩
      refine ⟨l.map row, hg acc, List.length_map _, fun d hd => ?_⟩
      obtain ⟨r, hr, rfl⟩ := by rw [List.getElem?_map, Option.map_eq_some_iff] at hd; exact hd
      obtain ⟨ρ1, g1, h1⟩ := h r (List.mem_of_getElem? hr)
      obtain ⟨h2, h3⟩ := h1 acc
      have ht : l.take (j + 1) = l.take j ++ [r] := by rw [List.take_add_one, hr]; rfl
      refine ⟨ρ1, g1, ?_⟩
      rw [h2]
      refine ok_some.mpr ?_
      cases hb : p r with
      | true =>
        rw [if_pos rfl, h3 hb]
        refine ok_some.mpr ⟨push_last, ?_, ?_⟩
        · rw [List.set_append_right _ _ (Nat.le_refl _), Nat.sub_self]; rfl
        · rw [ht, List.filter_append, List.map_append, ← ha]
          simp [hb]
      | false =>
        rw [if_neg (by decide)]
        refine ⟨push_last, rfl, ?_⟩
        rw [ht, List.filter_append, List.map_append, ← ha]
        simp [hb]
    · rintro acc _ _ ⟨rfl, ha⟩
      rw [List.take_length] at ha
      exact ⟨rfl, by rw [ha]⟩
  obtain ⟨d, M', e, rfl, rfl⟩ := key
  exact e
end Mi
set_option Elab.async false
set_option linter.all false
set_option maxRecDepth 100000
set_option maxHeartbeats 2000000
/-! enumerate(a tuple) -/
namespace Mi
open PySem PySem.Spec PyProof.Rows L2
abbrev enObj (it : Addr) : Obj := { cls := .type "enumerate", data := .fields #[.none, .bool false, .ref it, rawInt 0, .none, .none] }
/-- enumerate.__new__ of one argument, whatever its iterator is -/
theorem en_new {v : Value} {o : Obj} {H : Heap → Prop} (B : PySem.Begins v o H) :
    Meets (Builtin.«enumerate.__new__» ⟨[.type "enumerate", v], []⟩) (fun _ R s => H s.heap ∧ R (.ok (.ret (.ref (s.heap.push o).objs.size))) { s with heap := (s.heap.push o).push (enObj s.heap.objs.size) }) := by
  refine .of_wp fun prog w A R s h => ?_
  obtain ⟨h1, h2⟩ := h
  have it : ∀ {A' : Around} {E Q : Value → Shared → Prop}, Q (.ref s.heap.objs.size) { s with heap := s.heap.push o } → wpAny (model prog w) A' (pyIter v) Q E s := fun q => B.iter prog w _ _ s _ h1 q
  have en_sub := sub_enumerate
  wp_walk using it
  refine wpAny_stack_any fun st => wpAny_pure ?_
  split
  · rename_i c _ _ _ _ _
    cases (c == Value.type "enumerate")
    all_goals
      wp_walk using it
      exact ⟨_, rfl, h2⟩
  · wp_walk using it
    exact ⟨_, rfl, h2⟩
/-- enumerate(t), t a tuple: the two new objects -/
theorem call_enT {prog : Program} {w : World} {A : Around} {E Q : Value → Shared → Prop} {s : Shared} {a : Addr} {items : Array Value} (ht : s.heap.IsTuple a items)
    (h : ∀ h' : Heap, h'.get? (s.heap.objs.size + 1) = some (enObj s.heap.objs.size) → h'.get? s.heap.objs.size = some { cls := .type "tuple_iterator", data := .fields #[.ref a, .int 0 0] } →
      (∀ b o, s.heap.get? b = some o → h'.get? b = some o) → Q (.ref (s.heap.objs.size + 1)) { s with heap := h' }) : wpAny (model prog w) A (PySem.call (.type "enumerate") [.ref a]) Q E s := by
  have n1 : (s.heap.push { cls := .type "tuple_iterator", data := .fields #[.ref a, .int 0 0] }).objs.size = s.heap.objs.size + 1 := Heap.size_push ..
  have g1 := Heap.get?_push_size (s.heap.push { cls := .type "tuple_iterator", data := .fields #[.ref a, .int 0 0] }) (o := enObj s.heap.objs.size) rfl
  rw [n1] at g1
  refine callType_new F.called_enumerate (by decide) (F.typeCall_enumerate_1 _) (F.newCall_enumerate_1 _) (fun obj => F.args_object_init_2 obj _) F.entry_enumerate_new (en_new (begins_tuple a items)) ⟨ht, ?_⟩
  refine ⟨?_, ?_⟩
  · rw [n1]; exact ⟨_, g1, rfl⟩
  · rw [n1]
    exact h _ g1 (Heap.get?_push_of_some _ (Heap.get?_push_size _ rfl)) fun b o q => Heap.get?_push_of_some _ (Heap.get?_push_of_some _ q)
end Mi
set_option Elab.async false
set_option linter.all false
set_option maxRecDepth 100000
set_option maxHeartbeats 2000000
/-! enumerate of a tuple, gone over -/
namespace Mi
open PySem PySem.Spec PyProof.Rows L2
/-- the tuple of xs at a, each item in a pair that is new -/
def IteT (K : PySem.W.Frag) (a : Addr) (xs : List V) : It where
  go i H := SqT K H a xs ∧ i < xs.length
  yld i H v H' := ∃ T x, v = .ref T ∧ H T = none ∧ H' = upd H T (.tup [.int (i : Nat), x]) ∧ xs[i]? = some x
  stop i H := SqT K H a xs ∧ xs.length ≤ i
/-- where such a walk stands -/
structure EnAt (a e it : Addr) (n i : Nat) (h : Heap) : Prop where
  le : i ≤ n
  en : ∃ old, IsEnum h e it ((i : Nat) : Int) old
  ti : h.IsTupleIter it a i
  d1 : e ≠ it
  d2 : a ≠ it
  d3 : e ≠ a
theorem two_mem {b x y : Addr} (h : b ∈ [x, y]) : b = x ∨ b = y := by simpa using h
theorem turn_enT {P : Program} {w : World} {K : PySem.W.Frag} {elts : List Expr} {kk : Nat} {tpos : Pos} (a e it : Addr) (xs : List V) :
    L2.Turn P w K (.Tuple elts kk tpos) (IteT K a xs) [e, it] e (EnAt a e it xs.length) where
  mem := List.mem_cons_self
  obj := fun i h st b hb => by
    obtain ⟨old, he⟩ := st.en
    obtain ⟨o, ho, hc, hd⟩ := st.ti
    rcases two_mem hb with rfl | rfl
    · exact ⟨_, he, fun v q => by cases q⟩
    · exact ⟨o, ho, fun v q => by rw [hd] at q; cases q⟩
  keep := fun i h h' st k => by
    obtain ⟨old, he⟩ := st.en
    exact ⟨st.le, ⟨old, k e List.mem_cons_self _ he⟩, st.ti.at fun o q => k it (by simp) o q, st.d1, st.d2, st.d3⟩
  item := by
    intro X hP hw hK hc i pins s σ H E I hf st hg
    subst hP hw hK
    obtain ⟨old, he⟩ := st.en
    have hit := st.ti
    obtain ⟨hq, hi⟩ := hg
    obtain ⟨its, rv, p, hz⟩ := I.tuple hq
    have hx : xs[i]? = some xs[i] := List.getElem?_eq_getElem hi
    have hel : e < s.heap.objs.size := Heap.lt_size he
    have hil : it < s.heap.objs.size := by obtain ⟨_, q, _⟩ := hit; exact Heap.lt_size q
    have hln := rv.length
    have Dr := Draws.tuple (prog := X.prog) (w := X.w) (A := X.A.in1) (I.ok.hd hc) it a st.d2 its.toArray
    have hef : e ∉ [it, a] := fun z => by
      rcases two_mem z with z | z
      · exact st.d1 z
      · exact st.d3 z
    refine wpAny_pyNext_enum_itemC (i := i) Dr he ⟨hit, p⟩ (by simp; omega) st.d1 hef fun u h1 tk hu ho hs1 hT hsz hk => ?_
    obtain ⟨ru0, hru0, ru⟩ := rv.get hx
    have eu : u = ru0 := by
      have hu' : its[i]? = some u := by simpa using hu
      rw [hru0] at hu'
      exact (Option.some.inj hu').symm
    subst eu
    refine ⟨_, rfl, wpAny_letOwnedTupleGo_enum (s := { s with heap := h1, toks := tk + 1 }) ho fun h2 he2 sb => ?_⟩
    have hT2 : h2.get? s.heap.objs.size = some { cls := .type "tuple", data := .seq #[.int i tk, u] } := (sb.2 _ (Nat.ne_of_gt hel)).trans hT
    have laid : ObjOk X.prog X.w (upd H s.heap.objs.size (.tup [.int (i : Nat), xs[i]])) h2 s.heap.objs.size (.tup [.int (i : Nat), xs[i]]) := by
      refine ⟨?_, [.int i tk, u], .cons ⟨_, rfl⟩ (.cons ru .nil), ⟨_, hT2, rfl, _, rfl⟩⟩
      show 2 ≤ sizeLine
      decide
    have J := I.turnedNew (t' := tk + 1) (ch := [e, it]) (h' := h2) (fun b ob hb q => by
      have n1 : b ≠ e := fun z => hb (by simp [z])
      have n2 : b ≠ it := fun z => hb (by simp [z])
      exact (sb.2 b n1).trans (hk b ob n1 n2 q)) hf (Nat.le_refl _) laid
    refine ⟨.ref s.heap.objs.size, _, J, rfl, ⟨_, xs[i], rfl, I.hok.fresh (Nat.le_refl _), rfl, hx⟩, ⟨hi, ⟨u, ?_⟩, ?_, st.d1, st.d2, st.d3⟩, fun b hb => ?_⟩
    · rw [show ((i + 1 : Nat) : Int) = (i : Int) + 1 by omega]
      exact he2
    · exact hs1.1.at fun o q => (sb.2 it (Ne.symm st.d1)).trans q
    · have hb' : b < s.heap.objs.size := by
        rcases two_mem hb with rfl | rfl
        · exact hel
        · exact hil
      rw [upd_ne (Nat.ne_of_lt hb')]
      exact (hf b hb).1
  done := by
    intro X hP hw hK hc i pins s σ H E I hf st hg
    subst hP hw hK
    obtain ⟨old, he⟩ := st.en
    obtain ⟨hq, hi⟩ := hg
    obtain ⟨its, rv, p, hz⟩ := I.tuple hq
    obtain ⟨f0, f1, f2, f3, f4, f5⟩ := hf it (by simp)
    have hln := rv.length
    have hle := st.le
    have ei : i = its.toArray.size := by simp; omega
    have Dr := Draws.tuple (prog := X.prog) (w := X.w) (A := X.A.in1) (I.ok.hd hc) it a st.d2 its.toArray
    have hti := st.ti
    rw [ei] at hti
    exact wpAny_pyNext_enum_endD Dr he ⟨hti, p⟩ fun h' eb => ⟨rfl, I.turned (t' := s.toks) (fun b o hb q => eb b o hb q) f0 f1 f3 f4 f5⟩
  self := fun A i s Q E st h => by
    obtain ⟨old, he⟩ := st.en
    exact wpAny_pyIter_enum he h
end Mi
namespace Mi
open PySem PySem.Spec PyProof.Rows L2
def iEnumT (K : PySem.W.Frag) (ta : TA) : TI := fun σ H R => ta σ H fun vs H1 => ∃ a xs, vs = [.ref a] ∧ SqT K H1 a xs ∧ R (IteT K a xs) H1
theorem pi_enumT {X : Cx} {e : Expr} {ta : TA} {p pos tpos : Pos} {elts : List Expr} {kk : Nat} (hg : Gl X "enumerate") (hm : X.mg "enumerate" = none) (ha : PA X [e] ta)
    (hs : starEach [e] X.env = [(false, eval e X.env)] := by rfl) : PI X (.Tuple elts kk tpos) (.Call (.Name "enumerate" p) [e] [] pos) (iEnumT X.K ta) := by
  constructor
  intro pins s σ H R I h
  have args := ha.run pos pins s σ H _ I h
  refine Call_ (ld_blt I hg hm boot_enumerate (PyProof.Rows.callWith_type1 (thn args ?_) hs rfl))
  rintro us s1 ⟨vs, H1, J, rs, a, xs, rfl, hq, q⟩
  cases rs with
  | cons r none_left =>
    cases none_left
    cases r
    obtain ⟨its, rv, p', hz⟩ := J.tuple hq
    have hal : a < s1.heap.objs.size := by
      obtain ⟨_, q, _⟩ := p'
      exact Heap.lt_size q
    refine call_enT p' fun h' he hit hk => ?_
    refine wpAny_pyIter_enum (i := 0) (it := s1.heap.objs.size) (old := .none) he ?_
    have J2 := J.kept (t' := s1.toks) (h' := h') hk
    have n1 : s1.heap.objs.size + 1 ≠ s1.heap.objs.size := Nat.succ_ne_self _
    have n2 : a ≠ s1.heap.objs.size := Nat.ne_of_lt hal
    have n3 : s1.heap.objs.size + 1 ≠ a := fun z => by
      have : a < s1.heap.objs.size + 1 := Nat.lt_succ_of_lt hal
      rw [← z] at this
      exact Nat.lt_irrefl _ this
    refine ⟨s1.heap.objs.size + 1, [s1.heap.objs.size + 1, s1.heap.objs.size], _, _, H1, rfl, J2, turn_enT a (s1.heap.objs.size + 1) s1.heap.objs.size xs, ⟨Nat.zero_le _, ⟨.none, he⟩, ⟨_, hit, rfl, rfl⟩, n1, n2, n3⟩, fun b hb => ?_, q⟩
    have hle : s1.heap.objs.size ≤ b := by
      rcases two_mem hb with rfl | rfl
      · exact Nat.le_add_right _ _
      · exact Nat.le_refl _
    exact J.fpOk hle (J.hok.fresh hle)
section
variable {X : Cx} {fa : Nat → Addr} {e : Expr} {pos p : Pos}
def iEnT (evs : EvL) : EvI := fun ρ M => bindO (evs ρ M) fun ds M1 => match ds with
  | [.tup xs] => some ((fun _ => some (enumD xs)), M1)
  | _ => none
theorem l_ienumT {elts : List Expr} {kk : Nat} {tpos : Pos} {evs : EvL} (hm : X.mg "enumerate" = none) (ha : PA X [e] (TAof (GX X fa) evs)) (hg : Gl X "enumerate" := by rfl) (hs : starEach [e] X.env = [(false, eval e X.env)] := by rfl) :
    PI X (.Tuple elts kk tpos) (.Call (.Name "enumerate" p) [e] [] pos) (TIof (GX X fa) (iEnT evs)) := by
  refine PI.imp (pi_enumT hg hm ha hs) fun σ H Rk ⟨m, M, ρ, get, M', hρ, hM, e, fin⟩ => ?_
  refine ta_bind hρ hM e fin fun m1 H1 M1 ds vs hρ1 hM1 rds e1 fin1 p1 x1 => ?_
  split at e1
  · rename_i xs
    obtain ⟨v, rfl, r1⟩ := one_of rds
    cases e1
    cases r1 with
    | @tup a _ us0 ha rx =>
      refine ⟨a, us0, rfl, ha, fin1.here hM1 _ fun i H2 m2 M2 zs pm xm hM2 hz => ?_⟩
      cases hz
      have rx2 := rx.mono pm xm
      have ha2 := xm.t _ _ ha
      refine ⟨fun hn => ⟨ha2, by rw [← rx2.length]; exact enum_none hn⟩, fun d hd => ?_⟩
      obtain ⟨x, hx1, rfl⟩ := enum_get hd
      obtain ⟨u, hu, ru⟩ := rx2.get hx1
      refine ⟨⟨ha2, (List.getElem?_eq_some_iff.mp hu).1⟩, fun z H3 ⟨T, x', z1, z2, z3, z4⟩ => ?_⟩
      rw [hu] at z4
      cases z4
      subst z1
      exact pair_yld hM2 z2 z3 (.int _) ru
  · cases e1
end
end Mi
set_option Elab.async false
set_option linter.all false
set_option maxRecDepth 100000
set_option maxHeartbeats 2000000
/-! a list times an int -/
namespace Mi
open PySem PySem.Spec PyProof.Rows L2
section
variable {X : Cx} {fa : Nat → Addr}
theorem RDs.rep {G : Gm} {H : Hp} {m : List Addr} {ds : List D} {vs : List V} (r : RDs G H m ds vs) : ∀ n : Nat, RDs G H m (List.replicate n ds).flatten (List.replicate n vs).flatten
  | 0 => .nil
  | n + 1 => by
    rw [List.replicate_succ, List.replicate_succ, List.flatten_cons, List.flatten_cons]
    exact r.append (RDs.rep r n)
def oRep : D → D → Mem → R D := fun x y M => match x, y with
  | .ref n, .int k => match M[n]? with
    | some (.lst xs) => if -(2 ^ 63) ≤ k ∧ k < 2 ^ 63 ∧ xs.length * k.toNat ≤ sizeLine then some (.ref M.length, M ++ [.lst (List.replicate k.toNat xs).flatten]) else none
    | _ => none
  | _, _ => none
theorem os_rep : OpS (GX X fa) oRep rRep := fun m H M x y dx dy d M' Q hM rx ry e k => by
  unfold oRep at e
  split at e
  · rename_i n i
    split at e
    · rename_i xs q
      split at e
      · rename_i h
        cases e
        cases ry
        cases rx with
        | @ref _ a ha =>
          obtain ⟨vs, e1, r1⟩ := hM.at_ _ _ _ ha q
          refine ⟨a, i, vs, rfl, rfl, e1, h.1, h.2.1, by rw [← r1.length]; exact h.2.2, fun p hp => ?_⟩
          exact fin_push k hM hp ⟨_, upd_same, (r1.rep _).mono (List.prefix_append _ _) (Ext.new hp)⟩ _ (ref_last hM)
      · cases e
    · cases e
  · cases e
/-- * of ints, or of a list and an int -/
def oMulA : D → D → Mem → R D := fun x y M => match x with
  | .int _ => oMul x y M
  | _ => oRep x y M
theorem opr_mulA : OpR X (binaryOp .Mult) (orR (rI CMulW fun i j => .int (i * j)) rRep) := opr_or op_mulW op_rep
theorem os_mulA : OpS (GX X fa) oMulA (orR (rI CMulW fun i j => .int (i * j)) rRep) := fun m H M x y dx dy d M' Q hM rx ry e k => by
  unfold oMulA at e
  split at e
  · exact .inl (os_mul (X := X) (fa := fa) m H M x y _ dy d M' Q hM rx ry e k)
  · exact .inr (os_rep m H M x y dx dy d M' Q hM rx ry e k)
end
end Mi
set_option Elab.async false
set_option linter.all false
set_option maxRecDepth 100000
set_option maxHeartbeats 4000000
namespace Pr
open PySem PySem.Spec PyProof.Rows L2 Mi
/-! ### the text -/
def top (i : Nat) : Stmt := PySem.Challenge.pw_arrivalmill_k29_whole_clocks_and_their_t.main.body.getD i (.Pass ⟨0, 0, 0, 0⟩)
abbrev s_is_integer : Stmt := top 5
abbrev N_is_integer : List Str := ["value"]
abbrev P_is_integer : List Str := ["value"]
abbrev s_is_count : Stmt := top 6
abbrev N_is_count : List Str := ["value", "least"]
abbrev P_is_count : List Str := ["value", "least"]
abbrev s__clock_at : Stmt := top 9
abbrev N__clock_at : List Str := ["now", "timers", "clock"]
abbrev P__clock_at : List Str := ["now", "timers"]
abbrev s__law_pot : Stmt := top 11
abbrev N__law_pot : List Str := ["script", "place", "cell", "own", "small"]
abbrev P__law_pot : List Str := ["script", "place"]
abbrev s__law_take : Stmt := top 12
abbrev N__law_take : List Str := ["pot", "upto", "digit", "prime", "blend"]
abbrev P__law_take : List Str := ["pot", "upto"]
abbrev s__law_of : Stmt := top 13
abbrev N__law_of : List Str := ["pot", "some"]
abbrev P__law_of : List Str := ["pot", "some"]
abbrev s__law_cells : Stmt := top 14
abbrev N__law_cells : List Str := ["script", "most"]
abbrev P__law_cells : List Str := ["script", "most"]
abbrev s__law_heard : Stmt := top 15
abbrev N__law_heard : List Str := ["call", "caught", "back", "error"]
abbrev P__law_heard : List Str := ["call"]
abbrev s__law_is_so_told : Stmt := top 16
abbrev N__law_is_so_told : List Str := ["clock", "now", "lines"]
abbrev P__law_is_so_told : List Str := ["clock", "now", "lines"]
abbrev s__law_set : Stmt := top 17
abbrev N__law_set : List Str := ["pot", "clock", "now", "lines", "keys", "key", "time", "to", "signal", "caught", "back", "is_well", "row", "later", "signals", "more"]
abbrev P__law_set : List Str := ["pot", "clock", "now", "lines"]
abbrev s__law_back : Stmt := top 18
abbrev N__law_back : List Str := ["pot", "clock", "now", "lines", "key", "row", "due", "rest", "remaining", "later", "is_well"]
abbrev P__law_back : List Str := ["pot", "clock", "now", "lines"]
abbrev s__law_ticked : Stmt := top 19
abbrev N__law_ticked : List Str := ["clock", "now", "lines", "later", "signals", "due", "row", "rest", "is_well"]
abbrev P__law_ticked : List Str := ["clock", "now", "lines"]
abbrev s__law_right : Stmt := top 20
abbrev N__law_right : List Str := ["pot", "clock", "now", "lines", "elder", "lap", "way", "one", "other", "row"]
abbrev P__law_right : List Str := ["pot"]
abbrev s_law : Stmt := top 21
abbrev N_law : List Str := ["script", "place"]
abbrev P_law : List Str := ["script"]
abbrev s_Clock_init_own : Stmt := subDef (top 8) 0
abbrev N_Clock_init_own : List Str := ["self"]
abbrev P_Clock_init_own : List Str := ["self"]
abbrev s_Clock_eq_own : Stmt := subDef (top 8) 1
abbrev N_Clock_eq_own : List Str := ["self", "other"]
abbrev P_Clock_eq_own : List Str := ["self", "other"]
abbrev s_Clock_with_timer : Stmt := subDef (top 8) 2
abbrev N_Clock_with_timer : List Str := ["self", "key", "time", "to", "signal", "row"]
abbrev P_Clock_with_timer : List Str := ["self", "key", "time", "to", "signal"]
abbrev s_Clock_without : Stmt := subDef (top 8) 3
abbrev N_Clock_without : List Str := ["self", "key", "at", "row"]
abbrev P_Clock_without : List Str := ["self", "key"]
abbrev s_Clock_ticked : Stmt := subDef (top 8) 4
abbrev N_Clock_ticked : List Str := ["self", "now", "due", "_", "moment", "to", "signal", "row"]
abbrev P_Clock_ticked : List Str := ["self"]
theorem sc_is_integer : FnScope N_is_integer P_is_integer (defScope s_is_integer) := ⟨rfl, rfl, rfl, by decide +kernel, rfl, by decide +kernel, by decide +kernel⟩
theorem sc_is_count : FnScope N_is_count P_is_count (defScope s_is_count) := ⟨rfl, rfl, rfl, by decide +kernel, rfl, by decide +kernel, by decide +kernel⟩
theorem sc__clock_at : FnScope N__clock_at P__clock_at (defScope s__clock_at) := ⟨rfl, rfl, rfl, by decide +kernel, rfl, by decide +kernel, by decide +kernel⟩
theorem sc__law_pot : FnScope N__law_pot P__law_pot (defScope s__law_pot) := ⟨rfl, rfl, rfl, by decide +kernel, rfl, by decide +kernel, by decide +kernel⟩
theorem sc__law_take : FnScope N__law_take P__law_take (defScope s__law_take) := ⟨rfl, rfl, rfl, by decide +kernel, rfl, by decide +kernel, by decide +kernel⟩
theorem sc__law_of : FnScope N__law_of P__law_of (defScope s__law_of) := ⟨rfl, rfl, rfl, by decide +kernel, rfl, by decide +kernel, by decide +kernel⟩
theorem sc__law_cells : FnScope N__law_cells P__law_cells (defScope s__law_cells) := ⟨rfl, rfl, rfl, by decide +kernel, rfl, by decide +kernel, by decide +kernel⟩
theorem sc__law_is_so_told : FnScope N__law_is_so_told P__law_is_so_told (defScope s__law_is_so_told) := ⟨rfl, rfl, rfl, by decide +kernel, rfl, by decide +kernel, by decide +kernel⟩
theorem sc__law_set : FnScope N__law_set P__law_set (defScope s__law_set) := ⟨rfl, rfl, rfl, by decide +kernel, rfl, by decide +kernel, by decide +kernel⟩
theorem sc__law_back : FnScope N__law_back P__law_back (defScope s__law_back) := ⟨rfl, rfl, rfl, by decide +kernel, rfl, by decide +kernel, by decide +kernel⟩
theorem sc__law_ticked : FnScope N__law_ticked P__law_ticked (defScope s__law_ticked) := ⟨rfl, rfl, rfl, by decide +kernel, rfl, by decide +kernel, by decide +kernel⟩
theorem sc__law_right : FnScope N__law_right P__law_right (defScope s__law_right) := ⟨rfl, rfl, rfl, by decide +kernel, rfl, by decide +kernel, by decide +kernel⟩
theorem sc_law : FnScope N_law P_law (defScope s_law) := ⟨rfl, rfl, rfl, by decide +kernel, rfl, by decide +kernel, by decide +kernel⟩
theorem sc_Clock_init_own : FnScope N_Clock_init_own P_Clock_init_own (defScope s_Clock_init_own) := ⟨rfl, rfl, rfl, by decide +kernel, rfl, by decide +kernel, by decide +kernel⟩
theorem sc_Clock_eq_own : FnScope N_Clock_eq_own P_Clock_eq_own (defScope s_Clock_eq_own) := ⟨rfl, rfl, rfl, by decide +kernel, rfl, by decide +kernel, by decide +kernel⟩
theorem sc_Clock_with_timer : FnScope N_Clock_with_timer P_Clock_with_timer (defScope s_Clock_with_timer) := ⟨rfl, rfl, rfl, by decide +kernel, rfl, by decide +kernel, by decide +kernel⟩
theorem sc_Clock_without : FnScope N_Clock_without P_Clock_without (defScope s_Clock_without) := ⟨rfl, rfl, rfl, by decide +kernel, rfl, by decide +kernel, by decide +kernel⟩
theorem sc_Clock_ticked : FnScope N_Clock_ticked P_Clock_ticked (defScope s_Clock_ticked) := ⟨rfl, rfl, rfl, by decide +kernel, rfl, by decide +kernel, by decide +kernel⟩
def tab : List (Str × List Str) := [(("is_integer" : Str), P_is_integer), (("is_count" : Str), P_is_count), (("_clock_at" : Str), P__clock_at), (("_law_pot" : Str), P__law_pot), (("_law_take" : Str), P__law_take), (("_law_of" : Str), P__law_of), (("_law_cells" : Str), P__law_cells), (("_law_heard" : Str), P__law_heard), (("_law_is_so_told" : Str), P__law_is_so_told), (("_law_set" : Str), P__law_set), (("_law_back" : Str), P__law_back), (("_law_ticked" : Str), P__law_ticked), (("_law_right" : Str), P__law_right), (("law" : Str), P_law), (("__init__" : Str), P_Clock_init_own), (("__eq__" : Str), P_Clock_eq_own), (("with_timer" : Str), P_Clock_with_timer), (("without" : Str), P_Clock_without), (("ticked" : Str), P_Clock_ticked)]
/-! ### classes: MillError 19, BadTime 20, Held 21, Clock 22 -/
def ct : CtD := { cl := fun c => c == 22, fl := fun c f => (c == 22 && [("now" : Str), ("timers" : Str)].contains f), me := fun c m => if c = 22 ∧ m = "__init__" then some 14 else if c = 22 ∧ m = "__eq__" then some 15 else if c = 22 ∧ m = "with_timer" then some 16 else if c = 22 ∧ m = "without" then some 17 else if c = 22 ∧ m = "ticked" then some 18 else none }
def xc (c : Nat) : Bool := c == 20 || c == 21
def ecl (c : Nat) : Option Bool := if xc c = true then some true else none
def nf (c : Nat) : String ⊕ Nat → Bool
  | .inl s => (c == 22) && plainT.contains s
  | .inr d => c == d && (c == 22)
def ne (c : Nat) : Bool := c == 22
def ty_Clock : Nat ⊕ String → Option Bool
  | .inl c => if c = 22 then some true else if c = 20 then some false else if c = 21 then some false else  none
  | .inr s => if plainT.contains s = true then some false else none
def ty_Held : Nat ⊕ String → Option Bool
  | .inl c => if c = 21 then some true else if c = 20 then some false else if c = 22 then some false else  none
  | .inr s => if plainT.contains s = true then some false else none
def frees : List Str := [("abs" : Str), ("all" : Str), ("bool" : Str), ("enumerate" : Str), ("int" : Str), ("isinstance" : Str), ("len" : Str), ("list" : Str), ("max" : Str), ("min" : Str), ("range" : Str), ("repr" : Str), ("sum" : Str), ("tuple" : Str)]
/-! ### what is told of the text, whatever the level -/
abbrev FnP (K : PySem.W.Frag) (x q : Str) (st : Stmt) (f : Addr) (fd : FuncData) : Prop := FunD K x q (defArgs st) (defBody st) (defScope st) [] [] f fd
structure Fx (w : World) (K : PySem.W.Frag) (mg : Str → Option Value) (fa : Nat → Addr) : Prop where
  fr : ∀ x, x ∈ frees → mg x = none
  d_is_integer : mg "is_integer" = some (.ref (fa 0))
  d_is_count : mg "is_count" = some (.ref (fa 1))
  d__clock_at : mg "_clock_at" = some (.ref (fa 2))
  d__law_pot : mg "_law_pot" = some (.ref (fa 3))
  d__law_take : mg "_law_take" = some (.ref (fa 4))
  d__law_of : mg "_law_of" = some (.ref (fa 5))
  d__law_cells : mg "_law_cells" = some (.ref (fa 6))
  d__law_heard : mg "_law_heard" = some (.ref (fa 7))
  d__law_is_so_told : mg "_law_is_so_told" = some (.ref (fa 8))
  d__law_set : mg "_law_set" = some (.ref (fa 9))
  d__law_back : mg "_law_back" = some (.ref (fa 10))
  d__law_ticked : mg "_law_ticked" = some (.ref (fa 11))
  d__law_right : mg "_law_right" = some (.ref (fa 12))
  d_law : mg "law" = some (.ref (fa 13))
  c_MillError : mg "MillError" = some (.ref (fa 19))
  c_BadTime : mg "BadTime" = some (.ref (fa 20))
  c_Held : mg "Held" = some (.ref (fa 21))
  c_Clock : mg "Clock" = some (.ref (fa 22))
  C : CtOk K fa ct
  inC : ∀ c, ct.cl c = true → InC K (fa c)
  xkC : ∀ c, xc c = true → XkC K (fa c)
  eqt : EqT K fa ct nf ne
  ecl : ∀ c b, ecl c = some b → PySem.W.exmOne K (.ref (fa c)) (.ref (fa 19)) = some b
  ty_Clock : ∀ t b, ty_Clock t = some b → PySem.W.kitOne K (tyV fa t) (.ref (fa 22)) = some b
  kp_Clock : PySem.W.keepIn K (.ref (fa 22)) = true
  ty_Held : ∀ t b, ty_Held t = some b → PySem.W.kitOne K (tyV fa t) (.ref (fa 21)) = some b
  kp_Held : PySem.W.keepIn K (.ref (fa 21)) = true
  mk_Clock : Mk K (fa 22) (fa 14)
  low_BadTime : ∃ fI, PySem.MiE.LowTxt K mg "BadTime" (fa 20) fI
  low_Held : ∃ fI, PySem.MiE.LowTxt K mg "Held" (fa 21) fI
  f_is_integer : ∃ fd, FnP K "is_integer" "is_integer" s_is_integer (fa 0) fd
  f_is_count : ∃ fd, FnP K "is_count" "is_count" s_is_count (fa 1) fd
  f__clock_at : ∃ fd, FnP K "_clock_at" "_clock_at" s__clock_at (fa 2) fd
  f__law_pot : ∃ fd, FnP K "_law_pot" "_law_pot" s__law_pot (fa 3) fd
  f__law_take : ∃ fd, FnP K "_law_take" "_law_take" s__law_take (fa 4) fd
  f__law_of : ∃ fd, FnP K "_law_of" "_law_of" s__law_of (fa 5) fd
  f__law_cells : ∃ fd, FnP K "_law_cells" "_law_cells" s__law_cells (fa 6) fd
  f__law_heard : ∃ fd, FnP K "_law_heard" "_law_heard" s__law_heard (fa 7) fd
  f__law_is_so_told : ∃ fd, FnP K "_law_is_so_told" "_law_is_so_told" s__law_is_so_told (fa 8) fd
  f__law_set : ∃ fd, FnP K "_law_set" "_law_set" s__law_set (fa 9) fd
  f__law_back : ∃ fd, FnP K "_law_back" "_law_back" s__law_back (fa 10) fd
  f__law_ticked : ∃ fd, FnP K "_law_ticked" "_law_ticked" s__law_ticked (fa 11) fd
  f__law_right : ∃ fd, FnP K "_law_right" "_law_right" s__law_right (fa 12) fd
  f_law : ∃ fd, FnP K "law" "law" s_law (fa 13) fd
  f_Clock_init_own : ∃ fd, FnP K "__init__" "Clock.__init__" s_Clock_init_own (fa 14) fd
  f_Clock_eq_own : ∃ fd, FnP K "__eq__" "Clock.__eq__" s_Clock_eq_own (fa 15) fd
  f_Clock_with_timer : ∃ fd, FnP K "with_timer" "Clock.with_timer" s_Clock_with_timer (fa 16) fd
  f_Clock_without : ∃ fd, FnP K "without" "Clock.without" s_Clock_without (fa 17) fd
  f_Clock_ticked : ∃ fd, FnP K "ticked" "Clock.ticked" s_Clock_ticked (fa 18) fd
theorem Fx.free {w : World} {K : PySem.W.Frag} {mg : Str → Option Value} {fa : Nat → Addr} (T : Fx w K mg fa) {x : Str} (h : (frees.contains x) = true) : mg x = none := T.fr x (List.contains_iff_mem.mp h)
/-! ### what the defs do, by data -/
def b_is_integer (cp : CallX) : Es :=
  (sRet (eAnd (eIsi .int (eVar 0)) (eNot (eIsi .bool (eVar 0)))))
def b_is_count (cp : CallX) : Es :=
  (sRet (eAnd (eCall (dnX (cp 0)) (eCons (eVar 0) eNil)) (eBin oGe (eVar 0) (eVar 1))))
def b__clock_at (cp : CallX) : Es :=
  (sSeq (sSet 2 (eCall (fMake 22 (cp 14)) eNil))
    (sSeq (sFldS ct "now" (eVar 2) (eVar 0))
    (sSeq (sFldS ct "timers" (eVar 2) (eVar 1))
    (sRet (eVar 2)))))
def b__law_pot (cp call : CallX) : Es :=
  (sSeq (sSet 2 (eIf (bOf (eBin oLt (eVar 1) (eCall fLen (eCons (eVar 0) eNil)))) (eBin oIx (eVar 0) (eVar 1)) (eBin oAdd (eBin oAdd (eBin oMod (eCall fSum (eCons (eSl (eVar 0) poNone (poSome (eC (.int 1)))) eNil)) (eC (.int 1000003))) (eBin oMul (eC (.int 1399)) (eVar 1))) (eC (.int 607)))))
    (sSeq (sSet 3 (eBin oMul (eBin oMod (eCall fInt (eCons (eCall fAbs (eCons (eVar 2) eNil)) eNil)) (eBin oPow (eBin oPow (eC (.int 10)) (eC (.int 60))) (eC (.int 5)))) (eCall fInt (eCons (eBin oGe (eCall fAbs (eCons (eVar 2) eNil)) (eBin oPow (eC (.int 10)) (eC (.int 18)))) eNil))))
    (sSeq (sSet 4 (eBin oMod (eCall fInt (eCons (eVar 2) eNil)) (eC (.int 2305843009213693951))))
    (sRet (eLst (eCons (eVar 3) (eCons (eBin oMod (eCall fInt (eCons (eBin oAdd (eBin oAdd (eBin oMul (eVar 4) (eC (.int 73039))) (eBin oMul (eBin oMul (eC (.int 8231)) (eVar 1)) (eVar 1))) (eC (.int 433))) eNil)) (eC (.int 2305843009213693921))) (eCons (eC (.int 0)) (eCons (eC (.int 0)) (eCons (eC (.int 60)) eNil))))))))))
def b__law_take (cp call : CallX) : Es :=
  (sSeq (sIf (bOf (eBin oGt (eBin oIx (eVar 0) (eC (.int 0))) (eC (.int 0)))) (sSeq (sSet 2 (eBin oMod (eCall fInt (eCons (eBin oIx (eVar 0) (eC (.int 0))) eNil)) (eVar 1)))
    (sSeq (sSub (eVar 0) (eC (.int 0)) (eBin oDiv (eBin oIx (eVar 0) (eC (.int 0))) (eVar 1)))
    (sRet (eVar 2)))) sNil)
    (sSeq (sSub (eVar 0) (eC (.int 2)) (eBin oAdd (eBin oIx (eVar 0) (eC (.int 2))) (eC (.int 1))))
    (sSeq (sSet 3 (eBin oIx (eLst (eCons (eC (.int 2147483647)) (eCons (eC (.int 2147483629)) (eCons (eC (.int 2147483587)) (eCons (eC (.int 2147483579)) (eCons (eC (.int 2147483563)) eNil)))))) (eBin oMod (eCall fInt (eCons (eBin oIx (eVar 0) (eC (.int 2))) eNil)) (eC (.int 5)))))
    (sSeq (sSet 4 (eBin oMod (eCall fInt (eCons (eBin oPow (eCall fInt (eCons (eBin oAdd (eBin oAdd (eBin oIx (eVar 0) (eC (.int 1))) (eBin oMul (eBin oMul (eC (.int 96469)) (eBin oIx (eVar 0) (eC (.int 2)))) (eBin oIx (eVar 0) (eC (.int 2))))) (eC (.int 641))) eNil)) (eC (.int 3))) eNil)) (eVar 3)))
    (sSeq (sSet 4 (eBin oMod (eCall fInt (eCons (eBin oMul (eVar 4) (eBin oAdd (eBin oMod (eCall fInt (eCons (eVar 4) eNil)) (eC (.int 10357))) (eBin oMul (eC (.int 197)) (eBin oIx (eVar 0) (eC (.int 2)))))) eNil)) (eC (.int 2305843009213693907))))
    (sRet (eBin oMod (eCall fInt (eCons (eBin oDiv (eVar 4) (eC (.int 167))) eNil)) (eVar 1))))))))
def b__law_of (cp call : CallX) : Es :=
  (sRet (eBin oIx (eVar 1) (eCall (dnX (call 4)) (eCons (eVar 0) (eCons (eCall fLen (eCons (eVar 1) eNil)) eNil)))))
def b__law_cells (cp call : CallX) : Es :=
  (sRet (eLrg (eCall fMax (eCons (eC (.int 1)) (eCons (eCall fMin (eCons (eVar 1) (eCons (eCall fLen (eCons (eVar 0) eNil)) eNil))) eNil)))))
def b__law_is_so_told (cp call : CallX) : Es :=
  (sRet (eAnd (eBin oEq (eFld ct "now" (eVar 0)) (eVar 1)) (eBin oEq (eCall fRepr (eCons (eFld ct "timers" (eVar 0)) eNil)) (eCall fRepr (eCons (eCall fTuple (eCons (eVar 2) eNil)) eNil)))))
def b__law_set (cp call : CallX) : Es :=
  (sSeq (sSet 4 (eLst (eCons (eTup (eCons (eC (.str "ref")) (eCons (eTup eNil) (eCons (eC (.int 1)) eNil)))) (eCons (eTup (eCons (eC (.str "ref")) (eCons (eTup (eCons (eC (.int 1)) eNil)) (eCons (eC (.int 1)) eNil)))) (eCons (eTup (eCons (eC (.str "wait")) (eCons (eTup eNil) (eCons (eC (.int 0)) eNil)))) (eCons (eTup (eCons (eC (.str "wait")) (eCons (eTup eNil) (eCons (eC (.int 1)) eNil)))) (eCons (eTup (eCons (eC (.str "ref")) (eCons (eTup eNil) (eCons (eC (.int 2)) eNil)))) (eCons (eC (.str "any")) (eCons (eC (.int 7)) eNil)))))))))
    (sSeq (sAsg (gT (gsCons (gN 5) (gsCons (gN 6) gsNil))) (eTup (eCons (eCall (dnX (call 5)) (eCons (eVar 0) (eCons (eVar 4) eNil))) (eCons (eCall (dnX (call 5)) (eCons (eVar 0) (eCons (eLst (eCons (eC (.int 0)) (eCons (eC (.int 1)) (eCons (eC (.int 1)) (eCons (eC (.int 2)) (eCons (eC (.int 2)) (eCons (eC (.int 3)) (eCons (eBin oPow (eC (.int 10)) (eC (.int 9))) eNil)))))))) eNil))) eNil))))
    (sSeq (sSet 7 (eCall (dnX (call 5)) (eCons (eVar 0) (eCons (eLst (eCons (eTup eNil) (eCons (eTup (eCons (eC (.int 1)) eNil)) (eCons (eTup (eCons (eC (.int 2)) (eCons (eC (.int 1)) eNil))) eNil)))) eNil))))
    (sSeq (sSet 8 (eCall (dnX (call 5)) (eCons (eVar 0) (eCons (eLst (eCons (eTup (eCons (eC (.str "over")) (eCons (eC (.int 0)) eNil))) (eCons (eTup (eCons (eC (.str "letter")) (eCons (eC (.str "late")) eNil))) (eCons (eTup (eCons (eC (.str "letter")) (eCons (eTup (eCons (eC (.str "list")) eNil)) eNil))) eNil)))) eNil))))
    (sSeq (sAsg (gT (gsCons (gN 9) (gsCons (gN 10) gsNil))) (eHeard 23 "_law_set.<locals>.<lambda>" ecl (bMethK ct tab "with_timer" cp ["key", "time", "to", "signal"] (eVar 1) (eCons (eVar 5) (eCons (eVar 6) (eCons (eVar 7) (eCons (eVar 8) eNil)))))))
    (sSeq (sIf (bOf (eBin (oIn false) (eVar 5) (eLc (iSq (eVar 3)) [12] (gN 12) bYes (eBin oIx (eVar 12) (eC (.int 0)))))) (sSeq (sSet 11 (eAnd (eIsC ct xc ty_Held (eVar 9)) (eAnd (eBin oEq (eCall fRepr (eCons (eXv xc (eVar 9)) eNil)) (eCall fRepr (eCons (eVar 5) eNil))) (eCall (dnX (call 8)) (eCons (eVar 1) (eCons (eVar 2) (eCons (eVar 3) eNil)))))))
    (sRet (eIf (bOf (eVar 11)) (eTup (eCons (eVar 1) (eCons (eVar 3) eNil))) (eTup (eCons (eC .non) (eCons (eLst eNil) eNil)))))) sNil)
    (sSeq (sIf (bOr (bOf (eBin (oIs true) (eVar 9) (eC .non))) (bOr (bNot (bOf (eIsi .tuple (eVar 10)))) (bOf (eBin oNe (eCall fLen (eCons (eVar 10) eNil)) (eC (.int 2)))))) (sRet (eTup (eCons (eC .non) (eCons (eLst eNil) eNil)))) sNil)
    (sSeq (sAsg (gT (gsCons (gN 13) (gsCons (gN 14) gsNil))) (eVar 10))
    (sSeq (sIf (bOf (eBin oEq (eVar 6) (eC (.int 0)))) (sSeq (sSet 11 (eAnd (eBin oEq (eCall fRepr (eCons (eVar 14) eNil)) (eCall fRepr (eCons (eTup (eCons (eTup (eCons (eVar 7) (eCons (eVar 8) eNil))) eNil)) eNil))) (eAnd (eBin (oEqO ct tab call nf) (eVar 13) (eVar 1)) (eCall (dnX (call 8)) (eCons (eVar 13) (eCons (eVar 2) (eCons (eVar 3) eNil)))))))
    (sRet (eIf (bOf (eVar 11)) (eTup (eCons (eVar 13) (eCons (eVar 3) eNil))) (eTup (eCons (eC .non) (eCons (eLst eNil) eNil)))))) sNil)
    (sSeq (sSet 15 (eBin oAdd (eVar 3) (eLst (eCons (eTup (eCons (eVar 5) (eCons (eBin oAdd (eVar 2) (eVar 6)) (eCons (eVar 7) (eCons (eVar 8) eNil))))) eNil))))
    (sRet (eIf (bAnd (bOf (eBin oEq (eVar 14) (eTup eNil))) (bOf (eCall (dnX (call 8)) (eCons (eVar 13) (eCons (eVar 2) (eCons (eVar 15) eNil)))))) (eTup (eCons (eVar 13) (eCons (eVar 15) eNil))) (eTup (eCons (eC .non) (eCons (eLst eNil) eNil)))))))))))))))
def b__law_back (cp call : CallX) : Es :=
  (sSeq (sSet 4 (eCall (dnX (call 5)) (eCons (eVar 0) (eCons (eBin oAdd (eBin oMulA (eLc (iSq (eVar 3)) [5] (gN 5) bYes (eBin oIx (eVar 5) (eC (.int 0)))) (eC (.int 2))) (eLst (eCons (eTup (eCons (eC (.str "ref")) (eCons (eTup eNil) (eCons (eC (.int 1)) eNil)))) (eCons (eC (.str "none")) eNil)))) eNil))))
    (sSeq (sSet 6 (eLc (iSq (eVar 3)) [5] (gN 5) (bOf (eBin oEq (eBin oIx (eVar 5) (eC (.int 0))) (eVar 4))) (eBin oSub (eBin oIx (eVar 5) (eC (.int 1))) (eVar 2))))
    (sSeq (sSet 7 (eLc (iSq (eVar 3)) [5] (gN 5) (bOf (eBin oNe (eBin oIx (eVar 5) (eC (.int 0))) (eVar 4))) (eVar 5)))
    (sSeq (sAsg (gT (gsCons (gN 8) (gsCons (gN 9) gsNil))) (eMeth ct tab "without" call (eVar 1) (eCons (eVar 4) eNil)))
    (sSeq (sSet 10 (eAnd (eBin oEq (eCall fRepr (eCons (eVar 8) eNil)) (eCall fRepr (eCons (eIf (bOf (eBin oNe (eVar 6) (eLst eNil))) (eBin oIx (eVar 6) (eC (.int 0))) (eC .non)) eNil))) (eCall (dnX (call 8)) (eCons (eVar 9) (eCons (eVar 2) (eCons (eVar 7) eNil))))))
    (sRet (eIf (bAnd (bOf (eVar 10)) (bOf (eBin oEq (eBin (oEqO ct tab call nf) (eVar 9) (eVar 1)) (eBin oEq (eVar 6) (eLst eNil))))) (eTup (eCons (eVar 9) (eCons (eVar 7) eNil))) (eTup (eCons (eC .non) (eCons (eLst eNil) eNil))))))))))
def b__law_ticked (cp call : CallX) : Es :=
  (sSeq (sAsg (gT (gsCons (gN 3) (gsCons (gN 4) gsNil))) (eMeth ct tab "ticked" call (eVar 0) eNil))
    (sSeq (sSet 5 (eCall fTuple (eCons (eLc (iSq (eVar 2)) [6] (gN 6) (bOf (eBin oEq (eBin oIx (eVar 6) (eC (.int 1))) (eBin oAdd (eVar 1) (eC (.int 1))))) (eTup (eCons (eBin oIx (eVar 6) (eC (.int 2))) (eCons (eBin oIx (eVar 6) (eC (.int 3))) eNil)))) eNil)))
    (sSeq (sSet 7 (eLc (iSq (eVar 2)) [6] (gN 6) (bOf (eBin oNe (eBin oIx (eVar 6) (eC (.int 1))) (eBin oAdd (eVar 1) (eC (.int 1))))) (eVar 6)))
    (sSeq (sSet 8 (eAnd (eBin oEq (eCall fRepr (eCons (eVar 4) eNil)) (eCall fRepr (eCons (eVar 5) eNil))) (eAnd (eCall (dnX (call 8)) (eCons (eVar 3) (eCons (eBin oAdd (eVar 1) (eC (.int 1))) (eCons (eVar 7) eNil)))) (eBin (oNeO ct tab call ne) (eVar 3) (eVar 0)))))
    (sRet (eIf (bOf (eVar 8)) (eTup (eCons (eVar 3) (eCons (eVar 7) eNil))) (eTup (eCons (eC .non) (eCons (eLst eNil) eNil)))))))))
def b__law_right (cp call : CallX) : Es :=
  (sSeq (sAsg (gT (gsCons (gN 1) (gsCons (gN 2) (gsCons (gN 3) (gsCons (gN 4) gsNil))))) (eTup (eCons (eCall (fMake 22 (call 14)) eNil) (eCons (eC (.int 0)) (eCons (eLst eNil) (eCons (eLst eNil) eNil))))))
    (sSeq (sIf (bOr (bNot (bOf (eCall (dnX (call 8)) (eCons (eVar 1) (eCons (eC (.int 0)) (eCons (eLst eNil) eNil)))))) (bOr (bOf (eBin (oNeO ct tab call ne) (eVar 1) (eCall (fMake 22 (call 14)) eNil))) (bOf (eBin (oEqO ct tab call nf) (eVar 1) (eC (.int 0)))))) (sRet (eC (.bl false))) sNil)
    (sSeq (sFor (iRg1 (eCons (eC (.int 20)) eNil)) (gN 5) (sSeq (sSet 6 (eCall (dnX (call 4)) (eCons (eVar 0) (eCons (eC (.int 6)) eNil))))
    (sSeq (sDrop (eApp (eVar 4) (eTup (eCons (eVar 1) (eCons (eVar 2) (eCons (eCall (orD fList fListD) (eCons (eVar 3) eNil)) eNil))))))
    (sSeq (sIf (bOf (eBin oLt (eVar 6) (eC (.int 3)))) (sAsg (gT (gsCons (gN 1) (gsCons (gN 3) gsNil))) (eCall (dnX (call 9)) (eCons (eVar 0) (eCons (eVar 1) (eCons (eVar 2) (eCons (eVar 3) eNil)))))) (sIf (bOf (eBin oEq (eVar 6) (eC (.int 3)))) (sAsg (gT (gsCons (gN 1) (gsCons (gN 3) gsNil))) (eCall (dnX (call 10)) (eCons (eVar 0) (eCons (eVar 1) (eCons (eVar 2) (eCons (eVar 3) eNil)))))) (sSeq (sAsg (gT (gsCons (gN 1) (gsCons (gN 3) gsNil))) (eCall (dnX (call 11)) (eCons (eVar 1) (eCons (eVar 2) (eCons (eVar 3) eNil)))))
    (sSet 2 (eBin oAdd (eVar 2) (eC (.int 1)))))))
    (sIf (bOf (eBin (oIs false) (eVar 1) (eC .non))) (sRet (eC (.bl false))) sNil)))))
    (sSeq (sPar 7 8 (eCons (eCall (dnX (call 5)) (eCons (eVar 0) (eCons (eVar 4) eNil))) (eCons (eCall (dnX (call 5)) (eCons (eVar 0) (eCons (eVar 4) eNil))) eNil)))
    (sSeq (sIf (bOf (eBin oNe (eBin (oEqO ct tab call nf) (eBin oIx (eVar 7) (eC (.int 0))) (eBin oIx (eVar 8) (eC (.int 0)))) (eBin oEq (eCall fRepr (eCons (eSl (eVar 7) (poSome (eC (.int 1))) poNone) eNil)) (eCall fRepr (eCons (eSl (eVar 8) (poSome (eC (.int 1))) poNone) eNil))))) (sRet (eC (.bl false))) sNil)
    (sRet (eCall fAll (eCons (eLc (iSq (eVar 4)) [9] (gN 9) bYes (eCall (dnX (call 8)) (eCons (eBin oIx (eVar 9) (eC (.int 0))) (eCons (eBin oIx (eVar 9) (eC (.int 1))) (eCons (eBin oIx (eVar 9) (eC (.int 2))) eNil))))) eNil))))))))
def b_law (cp call : CallX) : Es :=
  (sRet (eCall fAll (eCons (eLc (iSq (eCall (dnX (call 6)) (eCons (eVar 0) (eCons (eC (.int 4)) eNil)))) [1] (gN 1) bYes (eCall (dnX (call 12)) (eCons (eCall (dnX (call 3)) (eCons (eVar 0) (eCons (eVar 1) eNil))) eNil))) eNil)))
def b_Clock_init_own (cp : CallX) : Es :=
  (sSeq (sFldS ct "now" (eVar 0) (eC (.int 0)))
    (sFldS ct "timers" (eVar 0) (eTup eNil)))
def b_Clock_eq_own (cp : CallX) : Es :=
  (sRet (eAnd (eIsC ct xc ty_Clock (eVar 1)) (eAnd (eBin oEq (eFld ct "now" (eVar 0)) (eFld ct "now" (eVar 1))) (eBin oEq (eFld ct "timers" (eVar 0)) (eFld ct "timers" (eVar 1))))))
def b_Clock_with_timer (cp : CallX) : Es :=
  (sSeq (sIf (bNot (bOf (eCall (dnX (cp 1)) (eCons (eVar 2) (eCons (eC (.int 0)) eNil))))) (sRaise 20 (eVar 2)) sNil)
    (sSeq (sFor (iSq (eFld ct "timers" (eVar 0))) (gN 5) (sIf (bOf (eBin oEq (eBin oIx (eVar 5) (eC (.int 0))) (eVar 1))) (sRaise 21 (eVar 1)) sNil))
    (sSeq (sIf (bOf (eBin oEq (eVar 2) (eC (.int 0)))) (sRet (eTup (eCons (eVar 0) (eCons (eTup (eCons (eTup (eCons (eVar 3) (eCons (eVar 4) eNil))) eNil)) eNil)))) sNil)
    (sRet (eTup (eCons (eCall (dnX (cp 2)) (eCons (eFld ct "now" (eVar 0)) (eCons (eTup (eConsS (eFld ct "timers" (eVar 0)) (eCons (eTup (eCons (eVar 1) (eCons (eBin oAdd (eFld ct "now" (eVar 0)) (eVar 2)) (eCons (eVar 3) (eCons (eVar 4) eNil))))) eNil))) eNil))) (eCons (eTup eNil) eNil)))))))
def b_Clock_without (cp : CallX) : Es :=
  (sSeq (sFor (iEnT (eCons (eFld ct "timers" (eVar 0)) eNil)) (gT (gsCons (gN 2) (gsCons (gN 3) gsNil))) (sIf (bOf (eBin oEq (eBin oIx (eVar 3) (eC (.int 0))) (eVar 1))) (sRet (eTup (eCons (eBin oSub (eBin oIx (eVar 3) (eC (.int 1))) (eFld ct "now" (eVar 0))) (eCons (eCall (dnX (cp 2)) (eCons (eFld ct "now" (eVar 0)) (eCons (eBin oAdd (eSl (eFld ct "timers" (eVar 0)) poNone (poSome (eVar 2))) (eSl (eFld ct "timers" (eVar 0)) (poSome (eBin oAdd (eVar 2) (eC (.int 1)))) poNone)) eNil))) eNil)))) sNil))
    (sRet (eTup (eCons (eC .non) (eCons (eVar 0) eNil)))))
def b_Clock_ticked (cp : CallX) : Es :=
  (sSeq (sSet 1 (eBin oAdd (eFld ct "now" (eVar 0)) (eC (.int 1))))
    (sSeq (sSet 2 (eLc (iSq (eFld ct "timers" (eVar 0))) [3, 4, 5, 6] (gT (gsCons (gN 3) (gsCons (gN 4) (gsCons (gN 5) (gsCons (gN 6) gsNil))))) (bOf (eBin oEq (eVar 4) (eVar 1))) (eTup (eCons (eVar 5) (eCons (eVar 6) eNil)))))
    (sRet (eTup (eCons (eCall (dnX (cp 2)) (eCons (eVar 1) (eCons (eCall fTuple (eCons (eLc (iSq (eFld ct "timers" (eVar 0))) [7] (gN 7) (bOf (eBin oNe (eBin oIx (eVar 7) (eC (.int 1))) (eVar 1))) (eVar 7)) eNil)) eNil))) (eCons (eCall fTuple (eCons (eVar 2) eNil)) eNil))))))
/-! ### each def by its body -/
section
variable {P : Program} {w : World} {K : PySem.W.Frag} {mg : Str → Option Value} {base : Heap} {fa : Nat → Addr} {cp call : CallX} {k : Nat} {f : Addr} {fd : FuncData}
theorem ok_is_integer (Z : Fx w K mg fa) (TP : FnsX P w K mg base fa tab cp false k) (F : FnP K "is_integer" "is_integer" s_is_integer f fd) : FnX P w K mg base false (k + 3) f fd P_is_integer (SpX ⟨K, fa⟩ 1 (runX 1 (b_is_integer cp))) := by
  refine fnx_of F sc_is_integer fun cd A fr st H E hr2 hgd => ?_
  have hr1 : Room (k + 1) (A.deeper (envOfC "is_integer" (defScope s_is_integer) st.heap.objs.size f cd)) := hr2.mono (by omega)
  have hr : Room k (A.deeper (envOfC "is_integer" (defScope s_is_integer) st.heap.objs.size f cd)) := hr2.mono (by omega)
  have hu64 := hr.units
  have hu65 : (A.deeper (envOfC "is_integer" (defScope s_is_integer) st.heap.objs.size f cd)).units + 65 < cLine := by have := hr.un; omega
  have hu70 : (A.deeper (envOfC "is_integer" (defScope s_is_integer) st.heap.objs.size f cd)).units + 70 < cLine := by have := hr.un; omega
  have hu : (A.deeper (envOfC "is_integer" (defScope s_is_integer) st.heap.objs.size f cd)).units + 1 < cLine := hu_of hr
  exact (l_sone (l_ret (l_and (l_isi .int (Z.free (x := "isinstance") rfl) (Z.free (x := "int") rfl) boot_int (l_var 0)) (l_one (l_not (l_isi .bool (Z.free (x := "isinstance") rfl) (Z.free (x := "bool") rfl) boot_bool (l_var 0)))))))
theorem ok_is_count (Z : Fx w K mg fa) (TP : FnsX P w K mg base fa tab cp false k) (F : FnP K "is_count" "is_count" s_is_count f fd) : FnX P w K mg base false (k + 3) f fd P_is_count (SpX ⟨K, fa⟩ 2 (runX 2 (b_is_count cp))) := by
  refine fnx_of F sc_is_count fun cd A fr st H E hr2 hgd => ?_
  have hr1 : Room (k + 1) (A.deeper (envOfC "is_count" (defScope s_is_count) st.heap.objs.size f cd)) := hr2.mono (by omega)
  have hr : Room k (A.deeper (envOfC "is_count" (defScope s_is_count) st.heap.objs.size f cd)) := hr2.mono (by omega)
  have hu64 := hr.units
  have hu65 : (A.deeper (envOfC "is_count" (defScope s_is_count) st.heap.objs.size f cd)).units + 65 < cLine := by have := hr.un; omega
  have hu70 : (A.deeper (envOfC "is_count" (defScope s_is_count) st.heap.objs.size f cd)).units + 70 < cLine := by have := hr.un; omega
  have hu : (A.deeper (envOfC "is_count" (defScope s_is_count) st.heap.objs.size f cd)).units + 1 < cLine := hu_of hr
  exact (l_sone (l_ret (l_and (l_fnP (ps := P_is_integer) 0 TP Z.d_is_integer hr hgd (l_cons (l_var 0) l_nil)) (l_one (l_cmp op_ge os_ge (l_var 0) (l_var 1))))))
theorem ok__clock_at (Z : Fx w K mg fa) (TP : FnsX P w K mg base fa tab cp false k) (F : FnP K "_clock_at" "_clock_at" s__clock_at f fd) : FnX P w K mg base false (k + 3) f fd P__clock_at (SpX ⟨K, fa⟩ 2 (runX 3 (b__clock_at cp))) := by
  refine fnx_of F sc__clock_at fun cd A fr st H E hr2 hgd => ?_
  have hr1 : Room (k + 1) (A.deeper (envOfC "_clock_at" (defScope s__clock_at) st.heap.objs.size f cd)) := hr2.mono (by omega)
  have hr : Room k (A.deeper (envOfC "_clock_at" (defScope s__clock_at) st.heap.objs.size f cd)) := hr2.mono (by omega)
  have hu64 := hr.units
  have hu65 : (A.deeper (envOfC "_clock_at" (defScope s__clock_at) st.heap.objs.size f cd)).units + 65 < cLine := by have := hr.un; omega
  have hu70 : (A.deeper (envOfC "_clock_at" (defScope s__clock_at) st.heap.objs.size f cd)).units + 70 < cLine := by have := hr.un; omega
  have hu : (A.deeper (envOfC "_clock_at" (defScope s__clock_at) st.heap.objs.size f cd)).units + 1 < cLine := hu_of hr
  exact (l_seq (l_set 2 sc__clock_at.nd (l_make0 (ps := P_Clock_init_own) 22 14 TP Z.mk_Clock Z.c_Clock hr1 hgd))
    (l_seq (l_fldS Z.C (l_var 2) (l_var 0))
    (l_seq (l_fldS Z.C (l_var 2) (l_var 1))
    (l_sone (l_ret (l_var 2))))))
theorem ok__law_pot (Z : Fx w K mg fa) (TP : FnsX P w K mg base fa tab cp false k) (T : FnsX P w K mg base fa tab call true k) (F : FnP K "_law_pot" "_law_pot" s__law_pot f fd) : FnX P w K mg base true (k + 3) f fd P__law_pot (SpX ⟨K, fa⟩ 2 (runX 5 (b__law_pot cp call))) := by
  refine fnx_of F sc__law_pot fun cd A fr st H E hr2 hgd => ?_
  have hr1 : Room (k + 1) (A.deeper (envOfC "_law_pot" (defScope s__law_pot) st.heap.objs.size f cd)) := hr2.mono (by omega)
  have hr : Room k (A.deeper (envOfC "_law_pot" (defScope s__law_pot) st.heap.objs.size f cd)) := hr2.mono (by omega)
  have hu64 := hr.units
  have hu65 : (A.deeper (envOfC "_law_pot" (defScope s__law_pot) st.heap.objs.size f cd)).units + 65 < cLine := by have := hr.un; omega
  have hu70 : (A.deeper (envOfC "_law_pot" (defScope s__law_pot) st.heap.objs.size f cd)).units + 70 < cLine := by have := hr.un; omega
  have hu : (A.deeper (envOfC "_law_pot" (defScope s__law_pot) st.heap.objs.size f cd)).units + 1 < cLine := hu_of hr
  exact (l_seq (l_set 2 sc__law_pot.nd (l_if (l_tcmp op_lt os_lt (l_var 1) (l_callB cr_len2 cs_len boot_len (Z.free (x := "len") rfl) (l_cons (l_var 0) l_nil))) (l_ix ix_both os_ix (l_var 0) (l_var 1)) (l_bin opr_add4 os_add (l_bin opr_add4 os_add (l_bin op_mod os_mod (l_callB (cr_sum rfl) cs_sum boot_sum (Z.free (x := "sum") rfl) (l_cons (l_slice (l_var 0) l_onone (l_osome l_int)) l_nil)) l_int) (l_bin op_mulW os_mul l_int (l_var 1))) l_int)))
    (l_seq (l_set 3 sc__law_pot.nd (l_bin op_mulW os_mul (l_bin op_mod os_mod (l_callT call_int1 cs_int boot_int (Z.free (x := "int") rfl) (l_cons (l_callB call_abs cs_abs boot_abs (Z.free (x := "abs") rfl) (l_cons (l_var 2) l_nil)) l_nil)) (l_bin op_powB os_pow (l_bin op_powB os_pow l_int l_int) l_int)) (l_callT call_int1 cs_int boot_int (Z.free (x := "int") rfl) (l_cons (l_cmp op_ge os_ge (l_callB call_abs cs_abs boot_abs (Z.free (x := "abs") rfl) (l_cons (l_var 2) l_nil)) (l_bin op_powB os_pow l_int l_int)) l_nil))))
    (l_seq (l_set 4 sc__law_pot.nd (l_bin op_mod os_mod (l_callT call_int1 cs_int boot_int (Z.free (x := "int") rfl) (l_cons (l_var 2) l_nil)) l_int))
    (l_sone (l_ret (l_lst (l_cons (l_var 3) (l_cons (l_bin op_mod os_mod (l_callT call_int1 cs_int boot_int (Z.free (x := "int") rfl) (l_cons (l_bin opr_add4 os_add (l_bin opr_add4 os_add (l_bin op_mulW os_mul (l_var 4) l_int) (l_bin op_mulW os_mul (l_bin op_mulW os_mul l_int (l_var 1)) (l_var 1))) l_int) l_nil)) l_int) (l_cons l_int (l_cons l_int (l_cons l_int l_nil)))))))))))
theorem ok__law_take (Z : Fx w K mg fa) (TP : FnsX P w K mg base fa tab cp false k) (T : FnsX P w K mg base fa tab call true k) (F : FnP K "_law_take" "_law_take" s__law_take f fd) : FnX P w K mg base true (k + 3) f fd P__law_take (SpX ⟨K, fa⟩ 2 (runX 5 (b__law_take cp call))) := by
  refine fnx_of F sc__law_take fun cd A fr st H E hr2 hgd => ?_
  have hr1 : Room (k + 1) (A.deeper (envOfC "_law_take" (defScope s__law_take) st.heap.objs.size f cd)) := hr2.mono (by omega)
  have hr : Room k (A.deeper (envOfC "_law_take" (defScope s__law_take) st.heap.objs.size f cd)) := hr2.mono (by omega)
  have hu64 := hr.units
  have hu65 : (A.deeper (envOfC "_law_take" (defScope s__law_take) st.heap.objs.size f cd)).units + 65 < cLine := by have := hr.un; omega
  have hu70 : (A.deeper (envOfC "_law_take" (defScope s__law_take) st.heap.objs.size f cd)).units + 70 < cLine := by have := hr.un; omega
  have hu : (A.deeper (envOfC "_law_take" (defScope s__law_take) st.heap.objs.size f cd)).units + 1 < cLine := hu_of hr
  exact (l_seq (l_sif (l_tcmp op_gt os_gt (l_ix ix_both os_ix (l_var 0) l_int) l_int) (l_seq (l_set 2 sc__law_take.nd (l_bin op_mod os_mod (l_callT call_int1 cs_int boot_int (Z.free (x := "int") rfl) (l_cons (l_ix ix_both os_ix (l_var 0) l_int) l_nil)) (l_var 1)))
    (l_seq (l_ssub (l_var 0) l_int (l_bin op_fdivW os_div (l_ix ix_both os_ix (l_var 0) l_int) (l_var 1)))
    (l_sone (l_ret (l_var 2))))) l_snil)
    (l_seq (l_ssub (l_var 0) l_int (l_bin opr_add4 os_add (l_ix ix_both os_ix (l_var 0) l_int) l_int))
    (l_seq (l_set 3 sc__law_take.nd (l_ix ix_both os_ix (l_lst (l_cons l_int (l_cons l_int (l_cons l_int (l_cons l_int (l_cons l_int l_nil)))))) (l_bin op_mod os_mod (l_callT call_int1 cs_int boot_int (Z.free (x := "int") rfl) (l_cons (l_ix ix_both os_ix (l_var 0) l_int) l_nil)) l_int)))
    (l_seq (l_set 4 sc__law_take.nd (l_bin op_mod os_mod (l_callT call_int1 cs_int boot_int (Z.free (x := "int") rfl) (l_cons (l_bin op_powB os_pow (l_callT call_int1 cs_int boot_int (Z.free (x := "int") rfl) (l_cons (l_bin opr_add4 os_add (l_bin opr_add4 os_add (l_ix ix_both os_ix (l_var 0) l_int) (l_bin op_mulW os_mul (l_bin op_mulW os_mul l_int (l_ix ix_both os_ix (l_var 0) l_int)) (l_ix ix_both os_ix (l_var 0) l_int))) l_int) l_nil)) l_int) l_nil)) (l_var 3)))
    (l_seq (l_set 4 sc__law_take.nd (l_bin op_mod os_mod (l_callT call_int1 cs_int boot_int (Z.free (x := "int") rfl) (l_cons (l_bin op_mulW os_mul (l_var 4) (l_bin opr_add4 os_add (l_bin op_mod os_mod (l_callT call_int1 cs_int boot_int (Z.free (x := "int") rfl) (l_cons (l_var 4) l_nil)) l_int) (l_bin op_mulW os_mul l_int (l_ix ix_both os_ix (l_var 0) l_int)))) l_nil)) l_int))
    (l_sone (l_ret (l_bin op_mod os_mod (l_callT call_int1 cs_int boot_int (Z.free (x := "int") rfl) (l_cons (l_bin op_fdivW os_div (l_var 4) l_int) l_nil)) (l_var 1)))))))))
theorem ok__law_of (Z : Fx w K mg fa) (TP : FnsX P w K mg base fa tab cp false k) (T : FnsX P w K mg base fa tab call true k) (F : FnP K "_law_of" "_law_of" s__law_of f fd) : FnX P w K mg base true (k + 3) f fd P__law_of (SpX ⟨K, fa⟩ 2 (runX 2 (b__law_of cp call))) := by
  refine fnx_of F sc__law_of fun cd A fr st H E hr2 hgd => ?_
  have hr1 : Room (k + 1) (A.deeper (envOfC "_law_of" (defScope s__law_of) st.heap.objs.size f cd)) := hr2.mono (by omega)
  have hr : Room k (A.deeper (envOfC "_law_of" (defScope s__law_of) st.heap.objs.size f cd)) := hr2.mono (by omega)
  have hu64 := hr.units
  have hu65 : (A.deeper (envOfC "_law_of" (defScope s__law_of) st.heap.objs.size f cd)).units + 65 < cLine := by have := hr.un; omega
  have hu70 : (A.deeper (envOfC "_law_of" (defScope s__law_of) st.heap.objs.size f cd)).units + 70 < cLine := by have := hr.un; omega
  have hu : (A.deeper (envOfC "_law_of" (defScope s__law_of) st.heap.objs.size f cd)).units + 1 < cLine := hu_of hr
  exact (l_sone (l_ret (l_ix ix_both os_ix (l_var 1) (l_fnP (ps := P__law_take) 4 T Z.d__law_take hr hgd (l_cons (l_var 0) (l_cons (l_callB cr_len2 cs_len boot_len (Z.free (x := "len") rfl) (l_cons (l_var 1) l_nil)) l_nil))))))
theorem ok__law_cells (Z : Fx w K mg fa) (TP : FnsX P w K mg base fa tab cp false k) (T : FnsX P w K mg base fa tab call true k) (F : FnP K "_law_cells" "_law_cells" s__law_cells f fd) : FnX P w K mg base true (k + 3) f fd P__law_cells (SpX ⟨K, fa⟩ 2 (runX 2 (b__law_cells cp call))) := by
  refine fnx_of F sc__law_cells fun cd A fr st H E hr2 hgd => ?_
  have hr1 : Room (k + 1) (A.deeper (envOfC "_law_cells" (defScope s__law_cells) st.heap.objs.size f cd)) := hr2.mono (by omega)
  have hr : Room k (A.deeper (envOfC "_law_cells" (defScope s__law_cells) st.heap.objs.size f cd)) := hr2.mono (by omega)
  have hu64 := hr.units
  have hu65 : (A.deeper (envOfC "_law_cells" (defScope s__law_cells) st.heap.objs.size f cd)).units + 65 < cLine := by have := hr.un; omega
  have hu70 : (A.deeper (envOfC "_law_cells" (defScope s__law_cells) st.heap.objs.size f cd)).units + 70 < cLine := by have := hr.un; omega
  have hu : (A.deeper (envOfC "_law_cells" (defScope s__law_cells) st.heap.objs.size f cd)).units + 1 < cLine := hu_of hr
  exact (l_sone (l_ret (l_listRg (Z.free (x := "range") rfl) (Z.free (x := "list") rfl) (l_callB (call_max2 rfl) cs_max boot_max (Z.free (x := "max") rfl) (l_cons l_int (l_cons (l_callB (call_min2 rfl) cs_min boot_min (Z.free (x := "min") rfl) (l_cons (l_var 1) (l_cons (l_callB cr_len2 cs_len boot_len (Z.free (x := "len") rfl) (l_cons (l_var 0) l_nil)) l_nil))) l_nil))))))
theorem ok__law_is_so_told (Z : Fx w K mg fa) (TP : FnsX P w K mg base fa tab cp false k) (T : FnsX P w K mg base fa tab call true k) (F : FnP K "_law_is_so_told" "_law_is_so_told" s__law_is_so_told f fd) : FnX P w K mg base true (k + 3) f fd P__law_is_so_told (SpX ⟨K, fa⟩ 3 (runX 3 (b__law_is_so_told cp call))) := by
  refine fnx_of F sc__law_is_so_told fun cd A fr st H E hr2 hgd => ?_
  have hr1 : Room (k + 1) (A.deeper (envOfC "_law_is_so_told" (defScope s__law_is_so_told) st.heap.objs.size f cd)) := hr2.mono (by omega)
  have hr : Room k (A.deeper (envOfC "_law_is_so_told" (defScope s__law_is_so_told) st.heap.objs.size f cd)) := hr2.mono (by omega)
  have hu64 := hr.units
  have hu65 : (A.deeper (envOfC "_law_is_so_told" (defScope s__law_is_so_told) st.heap.objs.size f cd)).units + 65 < cLine := by have := hr.un; omega
  have hu70 : (A.deeper (envOfC "_law_is_so_told" (defScope s__law_is_so_told) st.heap.objs.size f cd)).units + 70 < cLine := by have := hr.un; omega
  have hu : (A.deeper (envOfC "_law_is_so_told" (defScope s__law_is_so_told) st.heap.objs.size f cd)).units + 1 < cLine := hu_of hr
  exact (l_sone (l_ret (l_and (l_cmp (opr_or op_eq (op_eqD hu64)) os_eq (l_fld Z.C (l_var 0)) (l_var 1)) (l_one (l_cmp (opr_or op_eq (op_eqD hu64)) os_eq (l_callB (cr_repr (hgd rfl) hu65) cs_repr boot_repr (Z.free (x := "repr") rfl) (l_cons (l_fld Z.C (l_var 0)) l_nil)) (l_callB (cr_repr (hgd rfl) hu65) cs_repr boot_repr (Z.free (x := "repr") rfl) (l_cons (l_callT call_tuple_of cs_tuple boot_tuple (Z.free (x := "tuple") rfl) (l_cons (l_var 2) l_nil)) l_nil)))))))
theorem ok__law_set (Z : Fx w K mg fa) (TP : FnsX P w K mg base fa tab cp false k) (T : FnsX P w K mg base fa tab call true k) (F : FnP K "_law_set" "_law_set" s__law_set f fd) (cc : Addr) (hcc : fd.code = .ref cc) (TB : LamX.TabB base mg cc (fa 23)) : FnX P w K mg base true (k + 3) f fd P__law_set (SpX ⟨K, fa⟩ 4 (runX 16 (b__law_set cp call))) := by
  refine fnx_ofC F sc__law_set fun cd A fr st H E hcd hr2 hgd => ?_
  have hr1 : Room (k + 1) (A.deeper (envOfC "_law_set" (defScope s__law_set) st.heap.objs.size f cd)) := hr2.mono (by omega)
  have hr : Room k (A.deeper (envOfC "_law_set" (defScope s__law_set) st.heap.objs.size f cd)) := hr2.mono (by omega)
  have hu64 := hr.units
  have hu65 : (A.deeper (envOfC "_law_set" (defScope s__law_set) st.heap.objs.size f cd)).units + 65 < cLine := by have := hr.un; omega
  have hu70 : (A.deeper (envOfC "_law_set" (defScope s__law_set) st.heap.objs.size f cd)).units + 70 < cLine := by have := hr.un; omega
  have hu : (A.deeper (envOfC "_law_set" (defScope s__law_set) st.heap.objs.size f cd)).units + 1 < cLine := hu_of hr
  obtain ⟨fH, FH⟩ := Z.f__law_heard
  have hcode : cd = .ref cc := hcd.symm.trans hcc
  exact (l_seq (l_set 4 sc__law_set.nd (l_lst (l_cons (l_tup (l_cons l_str (l_cons (l_tup l_nil) (l_cons l_int l_nil)))) (l_cons (l_tup (l_cons l_str (l_cons (l_tup (l_cons l_int l_nil)) (l_cons l_int l_nil)))) (l_cons (l_tup (l_cons l_str (l_cons (l_tup l_nil) (l_cons l_int l_nil)))) (l_cons (l_tup (l_cons l_str (l_cons (l_tup l_nil) (l_cons l_int l_nil)))) (l_cons (l_tup (l_cons l_str (l_cons (l_tup l_nil) (l_cons l_int l_nil)))) (l_cons l_str (l_cons l_int l_nil)))))))))
    (l_seq (l_asg (l_tup (l_cons (l_fnP (ps := P__law_of) 5 T Z.d__law_of hr hgd (l_cons (l_var 0) (l_cons (l_var 4) l_nil))) (l_cons (l_fnP (ps := P__law_of) 5 T Z.d__law_of hr hgd (l_cons (l_var 0) (l_cons (l_lst (l_cons l_int (l_cons l_int (l_cons l_int (l_cons l_int (l_cons l_int (l_cons l_int (l_cons (l_bin op_powB os_pow l_int l_int) l_nil)))))))) l_nil))) l_nil))) (l_gtup (l_gscons (l_gname 5 sc__law_set.nd) (l_gscons (l_gname 6 sc__law_set.nd) l_gsnil)) (glen_cons (glen_cons glen_nil))))
    (l_seq (l_set 7 sc__law_set.nd (l_fnP (ps := P__law_of) 5 T Z.d__law_of hr hgd (l_cons (l_var 0) (l_cons (l_lst (l_cons (l_tup l_nil) (l_cons (l_tup (l_cons l_int l_nil)) (l_cons (l_tup (l_cons l_int (l_cons l_int l_nil))) l_nil)))) l_nil))))
    (l_seq (l_set 8 sc__law_set.nd (l_fnP (ps := P__law_of) 5 T Z.d__law_of hr hgd (l_cons (l_var 0) (l_cons (l_lst (l_cons (l_tup (l_cons l_str (l_cons l_int l_nil))) (l_cons (l_tup (l_cons l_str (l_cons l_str l_nil))) (l_cons (l_tup (l_cons l_str (l_cons (l_tup (l_cons l_str l_nil)) l_nil))) l_nil)))) l_nil))))
    (l_seq (l_asg (l_heard 23 FH (FH.bindsN fun _ _ _ _ _ _ us hl => match us, hl with | [_], _ => rfl) Z.d__law_heard Z.c_MillError Z.ecl rfl (fun _ _ => rfl) (fun _ _ => rfl) (fun _ _ => rfl) (fun _ _ => rfl) TB hcode hr2 (LamX.lamS_by rfl) rfl (fun _ _ _ _ _ => rfl) (fun _ _ _ _ _ _ _ hr0 => (l_lamMethK TP Z.C (takes_of rfl rfl rfl rfl) hr0 (l_var 1) (l_kcons (l_var 5) (l_kcons (l_var 6) (l_kcons (l_var 7) (l_kcons (l_var 8) l_knil))))))) (l_gtup (l_gscons (l_gname 9 sc__law_set.nd) (l_gscons (l_gname 10 sc__law_set.nd) l_gsnil)) (glen_cons (glen_cons glen_nil))))
    (l_seq (l_sif (l_tcmp (opr_in hu65) os_in (l_var 5) (l_lc (own := [("row", 12)]) sc__law_set.nd (l_iseq (l_var 3)) (blkOk_by (N := N__law_set) (sc := defScope s__law_set) (by decide +kernel)) (fun _ _ _ _ _ => (l_gname 12 sc__law_set.nd)) (fun _ _ _ _ _ => l_tsnil) (fun _ _ _ _ _ => (l_ix ix_both os_ix (l_var 12) l_int)) (by decide))) (l_seq (l_set 11 sc__law_set.nd (l_and (l_isC 21 Z.inC Z.xkC Z.ty_Held Z.c_Held Z.kp_Held (Z.free (x := "isinstance") rfl) (l_var 9)) (l_and (l_cmp (opr_or op_eq (op_eqD hu64)) os_eq (l_callB (cr_repr (hgd rfl) hu65) cs_repr boot_repr (Z.free (x := "repr") rfl) (l_cons (l_xv Z.xkC (l_var 9)) l_nil)) (l_callB (cr_repr (hgd rfl) hu65) cs_repr boot_repr (Z.free (x := "repr") rfl) (l_cons (l_var 5) l_nil))) (l_one (l_fnP (ps := P__law_is_so_told) 8 T Z.d__law_is_so_told hr hgd (l_cons (l_var 1) (l_cons (l_var 2) (l_cons (l_var 3) l_nil))))))))
    (l_sone (l_ret (l_if (l_tval (l_var 11)) (l_tup (l_cons (l_var 1) (l_cons (l_var 3) l_nil))) (l_tup (l_cons l_non (l_cons (l_lst l_nil) l_nil))))))) l_snil)
    (l_seq (l_sif (l_tw (l_wor (l_tcmp op_notN os_notN (l_var 9) l_non) (l_wor (l_tnot (l_tval (l_isi .tuple (Z.free (x := "isinstance") rfl) (Z.free (x := "tuple") rfl) boot_tuple (l_var 10)))) (l_wor1 (l_tcmp (opr_or op_ne (op_neD hu64)) os_ne (l_callB cr_len2 cs_len boot_len (Z.free (x := "len") rfl) (l_cons (l_var 10) l_nil)) l_int))))) (l_sone (l_ret (l_tup (l_cons l_non (l_cons (l_lst l_nil) l_nil))))) l_snil)
    (l_seq (l_asg (l_var 10) (l_gtup (l_gscons (l_gname 13 sc__law_set.nd) (l_gscons (l_gname 14 sc__law_set.nd) l_gsnil)) (glen_cons (glen_cons glen_nil))))
    (l_seq (l_sif (l_tcmp (opr_or op_eq (op_eqD hu64)) os_eq (l_var 6) l_int) (l_seq (l_set 11 sc__law_set.nd (l_and (l_cmp (opr_or op_eq (op_eqD hu64)) os_eq (l_callB (cr_repr (hgd rfl) hu65) cs_repr boot_repr (Z.free (x := "repr") rfl) (l_cons (l_var 14) l_nil)) (l_callB (cr_repr (hgd rfl) hu65) cs_repr boot_repr (Z.free (x := "repr") rfl) (l_cons (l_tup (l_cons (l_tup (l_cons (l_var 7) (l_cons (l_var 8) l_nil))) l_nil)) l_nil))) (l_and (l_cmp (op_eqO hr hgd) (os_eqO T Z.eqt) (l_var 13) (l_var 1)) (l_one (l_fnP (ps := P__law_is_so_told) 8 T Z.d__law_is_so_told hr hgd (l_cons (l_var 13) (l_cons (l_var 2) (l_cons (l_var 3) l_nil))))))))
    (l_sone (l_ret (l_if (l_tval (l_var 11)) (l_tup (l_cons (l_var 13) (l_cons (l_var 3) l_nil))) (l_tup (l_cons l_non (l_cons (l_lst l_nil) l_nil))))))) l_snil)
    (l_seq (l_set 15 sc__law_set.nd (l_bin opr_add4 os_add (l_var 3) (l_lst (l_cons (l_tup (l_cons (l_var 5) (l_cons (l_bin opr_add4 os_add (l_var 2) (l_var 6)) (l_cons (l_var 7) (l_cons (l_var 8) l_nil))))) l_nil))))
    (l_sone (l_ret (l_if (l_tw (l_wand (l_tcmp (opr_or op_eq (op_eqD hu64)) os_eq (l_var 14) (l_tup l_nil)) (l_wand1 (l_tval (l_fnP (ps := P__law_is_so_told) 8 T Z.d__law_is_so_told hr hgd (l_cons (l_var 13) (l_cons (l_var 2) (l_cons (l_var 15) l_nil)))))))) (l_tup (l_cons (l_var 13) (l_cons (l_var 15) l_nil))) (l_tup (l_cons l_non (l_cons (l_lst l_nil) l_nil))))))))))))))))
theorem ok__law_back (Z : Fx w K mg fa) (TP : FnsX P w K mg base fa tab cp false k) (T : FnsX P w K mg base fa tab call true k) (F : FnP K "_law_back" "_law_back" s__law_back f fd) : FnX P w K mg base true (k + 3) f fd P__law_back (SpX ⟨K, fa⟩ 4 (runX 11 (b__law_back cp call))) := by
  refine fnx_of F sc__law_back fun cd A fr st H E hr2 hgd => ?_
  have hr1 : Room (k + 1) (A.deeper (envOfC "_law_back" (defScope s__law_back) st.heap.objs.size f cd)) := hr2.mono (by omega)
  have hr : Room k (A.deeper (envOfC "_law_back" (defScope s__law_back) st.heap.objs.size f cd)) := hr2.mono (by omega)
  have hu64 := hr.units
  have hu65 : (A.deeper (envOfC "_law_back" (defScope s__law_back) st.heap.objs.size f cd)).units + 65 < cLine := by have := hr.un; omega
  have hu70 : (A.deeper (envOfC "_law_back" (defScope s__law_back) st.heap.objs.size f cd)).units + 70 < cLine := by have := hr.un; omega
  have hu : (A.deeper (envOfC "_law_back" (defScope s__law_back) st.heap.objs.size f cd)).units + 1 < cLine := hu_of hr
  exact (l_seq (l_set 4 sc__law_back.nd (l_fnP (ps := P__law_of) 5 T Z.d__law_of hr hgd (l_cons (l_var 0) (l_cons (l_bin opr_add4 os_add (l_bin opr_mulA os_mulA (l_lc (own := [("row", 5)]) sc__law_back.nd (l_iseq (l_var 3)) (blkOk_by (N := N__law_back) (sc := defScope s__law_back) (by decide +kernel)) (fun _ _ _ _ _ => (l_gname 5 sc__law_back.nd)) (fun _ _ _ _ _ => l_tsnil) (fun _ _ _ _ _ => (l_ix ix_both os_ix (l_var 5) l_int)) (by decide)) l_int) (l_lst (l_cons (l_tup (l_cons l_str (l_cons (l_tup l_nil) (l_cons l_int l_nil)))) (l_cons l_str l_nil)))) l_nil))))
    (l_seq (l_setLc 6 (own := [("row", 5)]) sc__law_back.nd (l_iseq (l_var 3)) (blkOk_by (N := N__law_back) (sc := defScope s__law_back) (by decide +kernel)) (fun _ _ _ _ _ => (l_gname 5 sc__law_back.nd)) (fun _ _ _ _ _ => (l_tsone (l_tcmp (opr_or op_eq (op_eqD hu64)) os_eq (l_ix ix_both os_ix (l_var 5) l_int) (l_var 4)))) (fun _ _ _ _ _ => (l_bin op_sub os_sub (l_ix ix_both os_ix (l_var 5) l_int) (l_var 2))) (by decide))
    (l_seq (l_setLc 7 (own := [("row", 5)]) sc__law_back.nd (l_iseq (l_var 3)) (blkOk_by (N := N__law_back) (sc := defScope s__law_back) (by decide +kernel)) (fun _ _ _ _ _ => (l_gname 5 sc__law_back.nd)) (fun _ _ _ _ _ => (l_tsone (l_tcmp (opr_or op_ne (op_neD hu64)) os_ne (l_ix ix_both os_ix (l_var 5) l_int) (l_var 4)))) (fun _ _ _ _ _ => (l_var 5)) (by decide))
    (l_seq (l_asg (l_meth T Z.C hr hgd (l_var 1) (l_cons (l_var 4) l_nil)) (l_gtup (l_gscons (l_gname 8 sc__law_back.nd) (l_gscons (l_gname 9 sc__law_back.nd) l_gsnil)) (glen_cons (glen_cons glen_nil))))
    (l_seq (l_set 10 sc__law_back.nd (l_and (l_cmp (opr_or op_eq (op_eqD hu64)) os_eq (l_callB (cr_repr (hgd rfl) hu65) cs_repr boot_repr (Z.free (x := "repr") rfl) (l_cons (l_var 8) l_nil)) (l_callB (cr_repr (hgd rfl) hu65) cs_repr boot_repr (Z.free (x := "repr") rfl) (l_cons (l_if (l_tcmp (opr_or op_ne (op_neD hu64)) os_ne (l_var 6) (l_lst l_nil)) (l_ix ix_both os_ix (l_var 6) l_int) l_non) l_nil))) (l_one (l_fnP (ps := P__law_is_so_told) 8 T Z.d__law_is_so_told hr hgd (l_cons (l_var 9) (l_cons (l_var 2) (l_cons (l_var 7) l_nil)))))))
    (l_sone (l_ret (l_if (l_tw (l_wand (l_tval (l_var 10)) (l_wand1 (l_tcmp (opr_or op_eq (op_eqD hu64)) os_eq (l_cmp (op_eqO hr hgd) (os_eqO T Z.eqt) (l_var 9) (l_var 1)) (l_cmp (opr_or op_eq (op_eqD hu64)) os_eq (l_var 6) (l_lst l_nil)))))) (l_tup (l_cons (l_var 9) (l_cons (l_var 7) l_nil))) (l_tup (l_cons l_non (l_cons (l_lst l_nil) l_nil)))))))))))
theorem ok__law_ticked (Z : Fx w K mg fa) (TP : FnsX P w K mg base fa tab cp false k) (T : FnsX P w K mg base fa tab call true k) (F : FnP K "_law_ticked" "_law_ticked" s__law_ticked f fd) : FnX P w K mg base true (k + 3) f fd P__law_ticked (SpX ⟨K, fa⟩ 3 (runX 9 (b__law_ticked cp call))) := by
  refine fnx_of F sc__law_ticked fun cd A fr st H E hr2 hgd => ?_
  have hr1 : Room (k + 1) (A.deeper (envOfC "_law_ticked" (defScope s__law_ticked) st.heap.objs.size f cd)) := hr2.mono (by omega)
  have hr : Room k (A.deeper (envOfC "_law_ticked" (defScope s__law_ticked) st.heap.objs.size f cd)) := hr2.mono (by omega)
  have hu64 := hr.units
  have hu65 : (A.deeper (envOfC "_law_ticked" (defScope s__law_ticked) st.heap.objs.size f cd)).units + 65 < cLine := by have := hr.un; omega
  have hu70 : (A.deeper (envOfC "_law_ticked" (defScope s__law_ticked) st.heap.objs.size f cd)).units + 70 < cLine := by have := hr.un; omega
  have hu : (A.deeper (envOfC "_law_ticked" (defScope s__law_ticked) st.heap.objs.size f cd)).units + 1 < cLine := hu_of hr
  exact (l_seq (l_asg (l_meth0 T Z.C hr hgd (l_var 0)) (l_gtup (l_gscons (l_gname 3 sc__law_ticked.nd) (l_gscons (l_gname 4 sc__law_ticked.nd) l_gsnil)) (glen_cons (glen_cons glen_nil))))
    (l_seq (l_set 5 sc__law_ticked.nd (l_callT call_tuple_of cs_tuple boot_tuple (Z.free (x := "tuple") rfl) (l_cons (l_lc (own := [("row", 6)]) sc__law_ticked.nd (l_iseq (l_var 2)) (blkOk_by (N := N__law_ticked) (sc := defScope s__law_ticked) (by decide +kernel)) (fun _ _ _ _ _ => (l_gname 6 sc__law_ticked.nd)) (fun _ _ _ _ _ => (l_tsone (l_tcmp (opr_or op_eq (op_eqD hu64)) os_eq (l_ix ix_both os_ix (l_var 6) l_int) (l_bin opr_add4 os_add (l_var 1) l_int)))) (fun _ _ _ _ _ => (l_tup (l_cons (l_ix ix_both os_ix (l_var 6) l_int) (l_cons (l_ix ix_both os_ix (l_var 6) l_int) l_nil)))) (by decide)) l_nil)))
    (l_seq (l_setLc 7 (own := [("row", 6)]) sc__law_ticked.nd (l_iseq (l_var 2)) (blkOk_by (N := N__law_ticked) (sc := defScope s__law_ticked) (by decide +kernel)) (fun _ _ _ _ _ => (l_gname 6 sc__law_ticked.nd)) (fun _ _ _ _ _ => (l_tsone (l_tcmp (opr_or op_ne (op_neD hu64)) os_ne (l_ix ix_both os_ix (l_var 6) l_int) (l_bin opr_add4 os_add (l_var 1) l_int)))) (fun _ _ _ _ _ => (l_var 6)) (by decide))
    (l_seq (l_set 8 sc__law_ticked.nd (l_and (l_cmp (opr_or op_eq (op_eqD hu64)) os_eq (l_callB (cr_repr (hgd rfl) hu65) cs_repr boot_repr (Z.free (x := "repr") rfl) (l_cons (l_var 4) l_nil)) (l_callB (cr_repr (hgd rfl) hu65) cs_repr boot_repr (Z.free (x := "repr") rfl) (l_cons (l_var 5) l_nil))) (l_and (l_fnP (ps := P__law_is_so_told) 8 T Z.d__law_is_so_told hr hgd (l_cons (l_var 3) (l_cons (l_bin opr_add4 os_add (l_var 1) l_int) (l_cons (l_var 7) l_nil)))) (l_one (l_cmp (op_neO hr1 hgd) (os_neO T Z.eqt) (l_var 3) (l_var 0))))))
    (l_sone (l_ret (l_if (l_tval (l_var 8)) (l_tup (l_cons (l_var 3) (l_cons (l_var 7) l_nil))) (l_tup (l_cons l_non (l_cons (l_lst l_nil) l_nil))))))))))
theorem ok__law_right (Z : Fx w K mg fa) (TP : FnsX P w K mg base fa tab cp false k) (T : FnsX P w K mg base fa tab call true k) (F : FnP K "_law_right" "_law_right" s__law_right f fd) : FnX P w K mg base true (k + 3) f fd P__law_right (SpX ⟨K, fa⟩ 1 (runX 10 (b__law_right cp call))) := by
  refine fnx_of F sc__law_right fun cd A fr st H E hr2 hgd => ?_
  have hr1 : Room (k + 1) (A.deeper (envOfC "_law_right" (defScope s__law_right) st.heap.objs.size f cd)) := hr2.mono (by omega)
  have hr : Room k (A.deeper (envOfC "_law_right" (defScope s__law_right) st.heap.objs.size f cd)) := hr2.mono (by omega)
  have hu64 := hr.units
  have hu65 : (A.deeper (envOfC "_law_right" (defScope s__law_right) st.heap.objs.size f cd)).units + 65 < cLine := by have := hr.un; omega
  have hu70 : (A.deeper (envOfC "_law_right" (defScope s__law_right) st.heap.objs.size f cd)).units + 70 < cLine := by have := hr.un; omega
  have hu : (A.deeper (envOfC "_law_right" (defScope s__law_right) st.heap.objs.size f cd)).units + 1 < cLine := hu_of hr
  exact (l_seq (l_asg (l_tup (l_cons (l_make0 (ps := P_Clock_init_own) 22 14 T Z.mk_Clock Z.c_Clock hr1 hgd) (l_cons l_int (l_cons (l_lst l_nil) (l_cons (l_lst l_nil) l_nil))))) (l_gtup (l_gscons (l_gname 1 sc__law_right.nd) (l_gscons (l_gname 2 sc__law_right.nd) (l_gscons (l_gname 3 sc__law_right.nd) (l_gscons (l_gname 4 sc__law_right.nd) l_gsnil)))) (glen_cons (glen_cons (glen_cons (glen_cons glen_nil))))))
    (l_seq (l_sif (l_tw (l_wor (l_tnot (l_tval (l_fnP (ps := P__law_is_so_told) 8 T Z.d__law_is_so_told hr hgd (l_cons (l_var 1) (l_cons l_int (l_cons (l_lst l_nil) l_nil)))))) (l_wor (l_tcmp (op_neO hr1 hgd) (os_neO T Z.eqt) (l_var 1) (l_make0 (ps := P_Clock_init_own) 22 14 T Z.mk_Clock Z.c_Clock hr1 hgd)) (l_wor1 (l_tcmp (op_eqO hr hgd) (os_eqO T Z.eqt) (l_var 1) l_int))))) (l_sone (l_ret l_bl)) l_snil)
    (l_seq (l_for (passes_of rfl) (l_irange1 (Z.free (x := "range") rfl) (l_cons l_int l_nil)) (l_gname 5 sc__law_right.nd) (l_seq (l_set 6 sc__law_right.nd (l_fnP (ps := P__law_take) 4 T Z.d__law_take hr hgd (l_cons (l_var 0) (l_cons l_int l_nil))))
    (l_seq (l_expr (l_append (l_var 4) (l_tup (l_cons (l_var 1) (l_cons (l_var 2) (l_cons (l_callT (car_or call_list_of (call_list_dK rfl)) (cs_or cs_list cs_listD) boot_list (Z.free (x := "list") rfl) (l_cons (l_var 3) l_nil)) l_nil))))))
    (l_seq (l_sif (l_tcmp op_lt os_lt (l_var 6) l_int) (l_sone (l_asg (l_fnP (ps := P__law_set) 9 T Z.d__law_set hr hgd (l_cons (l_var 0) (l_cons (l_var 1) (l_cons (l_var 2) (l_cons (l_var 3) l_nil))))) (l_gtup (l_gscons (l_gname 1 sc__law_right.nd) (l_gscons (l_gname 3 sc__law_right.nd) l_gsnil)) (glen_cons (glen_cons glen_nil))))) (l_sone (l_sif (l_tcmp (opr_or op_eq (op_eqD hu64)) os_eq (l_var 6) l_int) (l_sone (l_asg (l_fnP (ps := P__law_back) 10 T Z.d__law_back hr hgd (l_cons (l_var 0) (l_cons (l_var 1) (l_cons (l_var 2) (l_cons (l_var 3) l_nil))))) (l_gtup (l_gscons (l_gname 1 sc__law_right.nd) (l_gscons (l_gname 3 sc__law_right.nd) l_gsnil)) (glen_cons (glen_cons glen_nil))))) (l_seq (l_asg (l_fnP (ps := P__law_ticked) 11 T Z.d__law_ticked hr hgd (l_cons (l_var 1) (l_cons (l_var 2) (l_cons (l_var 3) l_nil)))) (l_gtup (l_gscons (l_gname 1 sc__law_right.nd) (l_gscons (l_gname 3 sc__law_right.nd) l_gsnil)) (glen_cons (glen_cons glen_nil))))
    (l_sone (l_set 2 sc__law_right.nd (l_bin opr_add4 os_add (l_var 2) l_int)))))))
    (l_sone (l_sif (l_tcmp op_isN os_isN (l_var 1) l_non) (l_sone (l_ret l_bl)) l_snil))))))
    (l_seq (l_par 7 8 sc__law_right.nd (l_cons (l_fnP (ps := P__law_of) 5 T Z.d__law_of hr hgd (l_cons (l_var 0) (l_cons (l_var 4) l_nil))) (l_cons (l_fnP (ps := P__law_of) 5 T Z.d__law_of hr hgd (l_cons (l_var 0) (l_cons (l_var 4) l_nil))) l_nil)))
    (l_seq (l_sif (l_tcmp (opr_or op_ne (op_neD hu64)) os_ne (l_cmp (op_eqO hr hgd) (os_eqO T Z.eqt) (l_ix ix_both os_ix (l_var 7) l_int) (l_ix ix_both os_ix (l_var 8) l_int)) (l_cmp (opr_or op_eq (op_eqD hu64)) os_eq (l_callB (cr_repr (hgd rfl) hu65) cs_repr boot_repr (Z.free (x := "repr") rfl) (l_cons (l_slice (l_var 7) (l_osome l_int) l_onone) l_nil)) (l_callB (cr_repr (hgd rfl) hu65) cs_repr boot_repr (Z.free (x := "repr") rfl) (l_cons (l_slice (l_var 8) (l_osome l_int) l_onone) l_nil)))) (l_sone (l_ret l_bl)) l_snil)
    (l_sone (l_ret (l_callB (cr_all rfl) cs_all boot_all (Z.free (x := "all") rfl) (l_cons (l_lc (own := [("row", 9)]) sc__law_right.nd (l_iseq (l_var 4)) (blkOk_by (N := N__law_right) (sc := defScope s__law_right) (by decide +kernel)) (fun _ _ _ _ _ => (l_gname 9 sc__law_right.nd)) (fun _ _ _ _ _ => l_tsnil) (fun _ _ _ _ _ => (l_fnP (ps := P__law_is_so_told) 8 T Z.d__law_is_so_told hr hgd (l_cons (l_ix ix_both os_ix (l_var 9) l_int) (l_cons (l_ix ix_both os_ix (l_var 9) l_int) (l_cons (l_ix ix_both os_ix (l_var 9) l_int) l_nil))))) (by decide)) l_nil)))))))))
theorem ok_law (Z : Fx w K mg fa) (TP : FnsX P w K mg base fa tab cp false k) (T : FnsX P w K mg base fa tab call true k) (F : FnP K "law" "law" s_law f fd) : FnX P w K mg base true (k + 3) f fd P_law (SpX ⟨K, fa⟩ 1 (runX 2 (b_law cp call))) := by
  refine fnx_of F sc_law fun cd A fr st H E hr2 hgd => ?_
  have hr1 : Room (k + 1) (A.deeper (envOfC "law" (defScope s_law) st.heap.objs.size f cd)) := hr2.mono (by omega)
  have hr : Room k (A.deeper (envOfC "law" (defScope s_law) st.heap.objs.size f cd)) := hr2.mono (by omega)
  have hu64 := hr.units
  have hu65 : (A.deeper (envOfC "law" (defScope s_law) st.heap.objs.size f cd)).units + 65 < cLine := by have := hr.un; omega
  have hu70 : (A.deeper (envOfC "law" (defScope s_law) st.heap.objs.size f cd)).units + 70 < cLine := by have := hr.un; omega
  have hu : (A.deeper (envOfC "law" (defScope s_law) st.heap.objs.size f cd)).units + 1 < cLine := hu_of hr
  exact (l_sone (l_ret (l_callB (cr_all rfl) cs_all boot_all (Z.free (x := "all") rfl) (l_cons (l_lc (own := [("place", 1)]) sc_law.nd (l_iseq (l_fnP (ps := P__law_cells) 6 T Z.d__law_cells hr hgd (l_cons (l_var 0) (l_cons l_int l_nil)))) (blkOk_by (N := N_law) (sc := defScope s_law) (by decide +kernel)) (fun _ _ _ _ _ => (l_gname 1 sc_law.nd)) (fun _ _ _ _ _ => l_tsnil) (fun _ _ _ _ _ => (l_fnP (ps := P__law_right) 12 T Z.d__law_right hr hgd (l_cons (l_fnP (ps := P__law_pot) 3 T Z.d__law_pot hr hgd (l_cons (l_var 0) (l_cons (l_var 1) l_nil))) l_nil))) (by decide)) l_nil))))
theorem ok_Clock_init_own (Z : Fx w K mg fa) (TP : FnsX P w K mg base fa tab cp false k) (F : FnP K "__init__" "Clock.__init__" s_Clock_init_own f fd) : FnX P w K mg base false (k + 3) f fd P_Clock_init_own (SpX ⟨K, fa⟩ 1 (runX 1 (b_Clock_init_own cp))) := by
  refine fnx_of F sc_Clock_init_own fun cd A fr st H E hr2 hgd => ?_
  have hr1 : Room (k + 1) (A.deeper (envOfC "Clock.__init__" (defScope s_Clock_init_own) st.heap.objs.size f cd)) := hr2.mono (by omega)
  have hr : Room k (A.deeper (envOfC "Clock.__init__" (defScope s_Clock_init_own) st.heap.objs.size f cd)) := hr2.mono (by omega)
  have hu64 := hr.units
  have hu65 : (A.deeper (envOfC "Clock.__init__" (defScope s_Clock_init_own) st.heap.objs.size f cd)).units + 65 < cLine := by have := hr.un; omega
  have hu70 : (A.deeper (envOfC "Clock.__init__" (defScope s_Clock_init_own) st.heap.objs.size f cd)).units + 70 < cLine := by have := hr.un; omega
  have hu : (A.deeper (envOfC "Clock.__init__" (defScope s_Clock_init_own) st.heap.objs.size f cd)).units + 1 < cLine := hu_of hr
  exact (l_seq (l_fldS Z.C (l_var 0) l_int)
    (l_sone (l_fldS Z.C (l_var 0) (l_tup l_nil))))
theorem ok_Clock_eq_own (Z : Fx w K mg fa) (TP : FnsX P w K mg base fa tab cp false k) (F : FnP K "__eq__" "Clock.__eq__" s_Clock_eq_own f fd) : FnX P w K mg base false (k + 3) f fd P_Clock_eq_own (SpX ⟨K, fa⟩ 2 (runX 2 (b_Clock_eq_own cp))) := by
  refine fnx_of F sc_Clock_eq_own fun cd A fr st H E hr2 hgd => ?_
  have hr1 : Room (k + 1) (A.deeper (envOfC "Clock.__eq__" (defScope s_Clock_eq_own) st.heap.objs.size f cd)) := hr2.mono (by omega)
  have hr : Room k (A.deeper (envOfC "Clock.__eq__" (defScope s_Clock_eq_own) st.heap.objs.size f cd)) := hr2.mono (by omega)
  have hu64 := hr.units
  have hu65 : (A.deeper (envOfC "Clock.__eq__" (defScope s_Clock_eq_own) st.heap.objs.size f cd)).units + 65 < cLine := by have := hr.un; omega
  have hu70 : (A.deeper (envOfC "Clock.__eq__" (defScope s_Clock_eq_own) st.heap.objs.size f cd)).units + 70 < cLine := by have := hr.un; omega
  have hu : (A.deeper (envOfC "Clock.__eq__" (defScope s_Clock_eq_own) st.heap.objs.size f cd)).units + 1 < cLine := hu_of hr
  exact (l_sone (l_ret (l_and (l_isC 22 Z.inC Z.xkC Z.ty_Clock Z.c_Clock Z.kp_Clock (Z.free (x := "isinstance") rfl) (l_var 1)) (l_and (l_cmp (opr_or op_eq (op_eqD hu64)) os_eq (l_fld Z.C (l_var 0)) (l_fld Z.C (l_var 1))) (l_one (l_cmp (opr_or op_eq (op_eqD hu64)) os_eq (l_fld Z.C (l_var 0)) (l_fld Z.C (l_var 1))))))))
theorem ok_Clock_with_timer (Z : Fx w K mg fa) (TP : FnsX P w K mg base fa tab cp false k) (F : FnP K "with_timer" "Clock.with_timer" s_Clock_with_timer f fd) : FnX P w K mg base false (k + 3) f fd P_Clock_with_timer (SpX ⟨K, fa⟩ 5 (runX 6 (b_Clock_with_timer cp))) := by
  refine fnx_of F sc_Clock_with_timer fun cd A fr st H E hr2 hgd => ?_
  have hr1 : Room (k + 1) (A.deeper (envOfC "Clock.with_timer" (defScope s_Clock_with_timer) st.heap.objs.size f cd)) := hr2.mono (by omega)
  have hr : Room k (A.deeper (envOfC "Clock.with_timer" (defScope s_Clock_with_timer) st.heap.objs.size f cd)) := hr2.mono (by omega)
  have hu64 := hr.units
  have hu65 : (A.deeper (envOfC "Clock.with_timer" (defScope s_Clock_with_timer) st.heap.objs.size f cd)).units + 65 < cLine := by have := hr.un; omega
  have hu70 : (A.deeper (envOfC "Clock.with_timer" (defScope s_Clock_with_timer) st.heap.objs.size f cd)).units + 70 < cLine := by have := hr.un; omega
  have hu : (A.deeper (envOfC "Clock.with_timer" (defScope s_Clock_with_timer) st.heap.objs.size f cd)).units + 1 < cLine := hu_of hr
  obtain ⟨fI_Held, low_Held⟩ := Z.low_Held
  obtain ⟨fI_BadTime, low_BadTime⟩ := Z.low_BadTime
  exact (l_seq (l_sif (l_tnot (l_tval (l_fnP (ps := P_is_count) 1 TP Z.d_is_count hr hgd (l_cons (l_var 2) (l_cons l_int l_nil))))) (l_sone (l_raise 20 low_BadTime (takes_of rfl rfl rfl rfl) hr (l_var 2))) l_snil)
    (l_seq (l_for (passes_of rfl) (l_iseq (l_fld Z.C (l_var 0))) (l_gname 5 sc_Clock_with_timer.nd) (l_sone (l_sif (l_tcmp (opr_or op_eq (op_eqD hu64)) os_eq (l_ix ix_both os_ix (l_var 5) l_int) (l_var 1)) (l_sone (l_raise 21 low_Held (takes_of rfl rfl rfl rfl) hr (l_var 1))) l_snil)))
    (l_seq (l_sif (l_tcmp (opr_or op_eq (op_eqD hu64)) os_eq (l_var 2) l_int) (l_sone (l_ret (l_tup (l_cons (l_var 0) (l_cons (l_tup (l_cons (l_tup (l_cons (l_var 3) (l_cons (l_var 4) l_nil))) l_nil)) l_nil))))) l_snil)
    (l_sone (l_ret (l_tup (l_cons (l_fnP (ps := P__clock_at) 2 TP Z.d__clock_at hr hgd (l_cons (l_fld Z.C (l_var 0)) (l_cons (l_tup (l_consS (l_fld Z.C (l_var 0)) (l_cons (l_tup (l_cons (l_var 1) (l_cons (l_bin opr_add4 os_add (l_fld Z.C (l_var 0)) (l_var 2)) (l_cons (l_var 3) (l_cons (l_var 4) l_nil))))) l_nil))) l_nil))) (l_cons (l_tup l_nil) l_nil))))))))
theorem ok_Clock_without (Z : Fx w K mg fa) (TP : FnsX P w K mg base fa tab cp false k) (F : FnP K "without" "Clock.without" s_Clock_without f fd) : FnX P w K mg base false (k + 3) f fd P_Clock_without (SpX ⟨K, fa⟩ 2 (runX 4 (b_Clock_without cp))) := by
  refine fnx_of F sc_Clock_without fun cd A fr st H E hr2 hgd => ?_
  have hr1 : Room (k + 1) (A.deeper (envOfC "Clock.without" (defScope s_Clock_without) st.heap.objs.size f cd)) := hr2.mono (by omega)
  have hr : Room k (A.deeper (envOfC "Clock.without" (defScope s_Clock_without) st.heap.objs.size f cd)) := hr2.mono (by omega)
  have hu64 := hr.units
  have hu65 : (A.deeper (envOfC "Clock.without" (defScope s_Clock_without) st.heap.objs.size f cd)).units + 65 < cLine := by have := hr.un; omega
  have hu70 : (A.deeper (envOfC "Clock.without" (defScope s_Clock_without) st.heap.objs.size f cd)).units + 70 < cLine := by have := hr.un; omega
  have hu : (A.deeper (envOfC "Clock.without" (defScope s_Clock_without) st.heap.objs.size f cd)).units + 1 < cLine := hu_of hr
  exact (l_seq (l_for (passes_of rfl) (l_ienumT (Z.free (x := "enumerate") rfl) (l_cons (l_fld Z.C (l_var 0)) l_nil)) (l_gtup (l_gscons (l_gname 2 sc_Clock_without.nd) (l_gscons (l_gname 3 sc_Clock_without.nd) l_gsnil)) (glen_cons (glen_cons glen_nil))) (l_sone (l_sif (l_tcmp (opr_or op_eq (op_eqD hu64)) os_eq (l_ix ix_both os_ix (l_var 3) l_int) (l_var 1)) (l_sone (l_ret (l_tup (l_cons (l_bin op_sub os_sub (l_ix ix_both os_ix (l_var 3) l_int) (l_fld Z.C (l_var 0))) (l_cons (l_fnP (ps := P__clock_at) 2 TP Z.d__clock_at hr hgd (l_cons (l_fld Z.C (l_var 0)) (l_cons (l_bin opr_add4 os_add (l_slice (l_fld Z.C (l_var 0)) l_onone (l_osome (l_var 2))) (l_slice (l_fld Z.C (l_var 0)) (l_osome (l_bin opr_add4 os_add (l_var 2) l_int)) l_onone)) l_nil))) l_nil))))) l_snil)))
    (l_sone (l_ret (l_tup (l_cons l_non (l_cons (l_var 0) l_nil))))))
theorem ok_Clock_ticked (Z : Fx w K mg fa) (TP : FnsX P w K mg base fa tab cp false k) (F : FnP K "ticked" "Clock.ticked" s_Clock_ticked f fd) : FnX P w K mg base false (k + 3) f fd P_Clock_ticked (SpX ⟨K, fa⟩ 1 (runX 8 (b_Clock_ticked cp))) := by
  refine fnx_of F sc_Clock_ticked fun cd A fr st H E hr2 hgd => ?_
  have hr1 : Room (k + 1) (A.deeper (envOfC "Clock.ticked" (defScope s_Clock_ticked) st.heap.objs.size f cd)) := hr2.mono (by omega)
  have hr : Room k (A.deeper (envOfC "Clock.ticked" (defScope s_Clock_ticked) st.heap.objs.size f cd)) := hr2.mono (by omega)
  have hu64 := hr.units
  have hu65 : (A.deeper (envOfC "Clock.ticked" (defScope s_Clock_ticked) st.heap.objs.size f cd)).units + 65 < cLine := by have := hr.un; omega
  have hu70 : (A.deeper (envOfC "Clock.ticked" (defScope s_Clock_ticked) st.heap.objs.size f cd)).units + 70 < cLine := by have := hr.un; omega
  have hu : (A.deeper (envOfC "Clock.ticked" (defScope s_Clock_ticked) st.heap.objs.size f cd)).units + 1 < cLine := hu_of hr
  exact (l_seq (l_set 1 sc_Clock_ticked.nd (l_bin opr_add4 os_add (l_fld Z.C (l_var 0)) l_int))
    (l_seq (l_setLc 2 (own := [("_", 3), ("moment", 4), ("to", 5), ("signal", 6)]) sc_Clock_ticked.nd (l_iseq (l_fld Z.C (l_var 0))) (blkOk_by (N := N_Clock_ticked) (sc := defScope s_Clock_ticked) (by decide +kernel)) (fun _ _ _ _ _ => (l_gtup (l_gscons (l_gname 3 sc_Clock_ticked.nd) (l_gscons (l_gname 4 sc_Clock_ticked.nd) (l_gscons (l_gname 5 sc_Clock_ticked.nd) (l_gscons (l_gname 6 sc_Clock_ticked.nd) l_gsnil)))) (glen_cons (glen_cons (glen_cons (glen_cons glen_nil)))))) (fun _ _ _ _ _ => (l_tsone (l_tcmp (opr_or op_eq (op_eqD hu64)) os_eq (l_var 4) (l_var 1)))) (fun _ _ _ _ _ => (l_tup (l_cons (l_var 5) (l_cons (l_var 6) l_nil)))) (by decide))
    (l_sone (l_ret (l_tup (l_cons (l_fnP (ps := P__clock_at) 2 TP Z.d__clock_at hr hgd (l_cons (l_var 1) (l_cons (l_callT call_tuple_of cs_tuple boot_tuple (Z.free (x := "tuple") rfl) (l_cons (l_lc (own := [("row", 7)]) sc_Clock_ticked.nd (l_iseq (l_fld Z.C (l_var 0))) (blkOk_by (N := N_Clock_ticked) (sc := defScope s_Clock_ticked) (by decide +kernel)) (fun _ _ _ _ _ => (l_gname 7 sc_Clock_ticked.nd)) (fun _ _ _ _ _ => (l_tsone (l_tcmp (opr_or op_ne (op_neD hu64)) os_ne (l_ix ix_both os_ix (l_var 7) l_int) (l_var 1)))) (fun _ _ _ _ _ => (l_var 7)) (by decide)) l_nil)) l_nil))) (l_cons (l_callT call_tuple_of cs_tuple boot_tuple (Z.free (x := "tuple") rfl) (l_cons (l_var 2) l_nil)) l_nil)))))))
end
/-! ### the table -/
def bodyP (cp : CallX) : CallX
  | 0 => runX 1 (b_is_integer cp)
  | 1 => runX 2 (b_is_count cp)
  | 2 => runX 3 (b__clock_at cp)
  | 14 => runX 1 (b_Clock_init_own cp)
  | 15 => runX 2 (b_Clock_eq_own cp)
  | 16 => runX 6 (b_Clock_with_timer cp)
  | 17 => runX 4 (b_Clock_without cp)
  | 18 => runX 8 (b_Clock_ticked cp)
  | _ => fun _ _ => none
def body (cp call : CallX) : CallX
  | 0 => runX 1 (b_is_integer cp)
  | 1 => runX 2 (b_is_count cp)
  | 2 => runX 3 (b__clock_at cp)
  | 3 => runX 5 (b__law_pot cp call)
  | 4 => runX 5 (b__law_take cp call)
  | 5 => runX 2 (b__law_of cp call)
  | 6 => runX 2 (b__law_cells cp call)
  | 8 => runX 3 (b__law_is_so_told cp call)
  | 9 => runX 16 (b__law_set cp call)
  | 10 => runX 11 (b__law_back cp call)
  | 11 => runX 9 (b__law_ticked cp call)
  | 12 => runX 10 (b__law_right cp call)
  | 13 => runX 2 (b_law cp call)
  | 14 => runX 1 (b_Clock_init_own cp)
  | 15 => runX 2 (b_Clock_eq_own cp)
  | 16 => runX 6 (b_Clock_with_timer cp)
  | 17 => runX 4 (b_Clock_without cp)
  | 18 => runX 8 (b_Clock_ticked cp)
  | _ => fun _ _ => none
def callP : Nat → CallX
  | 0 => fun _ _ _ => none
  | k + 1 => bodyP (callP k)
def callN : Nat → CallX
  | 0 => fun _ _ _ => none
  | k + 1 => body (callP k) (callN k)
/-! ### how the defs are called -/
section
variable {P : Program} {w : World} {K : PySem.W.Frag} {mg : Str → Option Value} {base : Heap} {fa : Nat → Addr} {f : Addr} {fd : FuncData}
theorem bk_is_integer (F : FnP K "is_integer" "is_integer" s_is_integer f fd) : PySem.W.keepIn K (.ref f) = true ∧ Binds K fd P_is_integer [] ∧ KwTail K fd P_is_integer := ⟨F.kp, F.bindsN fun _ _ _ _ _ _ us hl => match us, hl with | [_], _ => rfl, FunD_kwt F fun _ _ _ _ _ _ vs hl => match vs, hl with | [_], _ => fun n hn => match n, hn with | 0, _ => rfl | 1, _ => rfl | n + 2, hn => absurd hn (by show ¬ (n + 2 ≤ 1); omega)⟩
theorem bk_is_count (F : FnP K "is_count" "is_count" s_is_count f fd) : PySem.W.keepIn K (.ref f) = true ∧ Binds K fd P_is_count [] ∧ KwTail K fd P_is_count := ⟨F.kp, F.bindsN fun _ _ _ _ _ _ us hl => match us, hl with | [_, _], _ => rfl, FunD_kwt F fun _ _ _ _ _ _ vs hl => match vs, hl with | [_, _], _ => fun n hn => match n, hn with | 0, _ => rfl | 1, _ => rfl | 2, _ => rfl | n + 3, hn => absurd hn (by show ¬ (n + 3 ≤ 2); omega)⟩
theorem bk__clock_at (F : FnP K "_clock_at" "_clock_at" s__clock_at f fd) : PySem.W.keepIn K (.ref f) = true ∧ Binds K fd P__clock_at [] ∧ KwTail K fd P__clock_at := ⟨F.kp, F.bindsN fun _ _ _ _ _ _ us hl => match us, hl with | [_, _], _ => rfl, FunD_kwt F fun _ _ _ _ _ _ vs hl => match vs, hl with | [_, _], _ => fun n hn => match n, hn with | 0, _ => rfl | 1, _ => rfl | 2, _ => rfl | n + 3, hn => absurd hn (by show ¬ (n + 3 ≤ 2); omega)⟩
theorem bk__law_pot (F : FnP K "_law_pot" "_law_pot" s__law_pot f fd) : PySem.W.keepIn K (.ref f) = true ∧ Binds K fd P__law_pot [] ∧ KwTail K fd P__law_pot := ⟨F.kp, F.bindsN fun _ _ _ _ _ _ us hl => match us, hl with | [_, _], _ => rfl, FunD_kwt F fun _ _ _ _ _ _ vs hl => match vs, hl with | [_, _], _ => fun n hn => match n, hn with | 0, _ => rfl | 1, _ => rfl | 2, _ => rfl | n + 3, hn => absurd hn (by show ¬ (n + 3 ≤ 2); omega)⟩
theorem bk__law_take (F : FnP K "_law_take" "_law_take" s__law_take f fd) : PySem.W.keepIn K (.ref f) = true ∧ Binds K fd P__law_take [] ∧ KwTail K fd P__law_take := ⟨F.kp, F.bindsN fun _ _ _ _ _ _ us hl => match us, hl with | [_, _], _ => rfl, FunD_kwt F fun _ _ _ _ _ _ vs hl => match vs, hl with | [_, _], _ => fun n hn => match n, hn with | 0, _ => rfl | 1, _ => rfl | 2, _ => rfl | n + 3, hn => absurd hn (by show ¬ (n + 3 ≤ 2); omega)⟩
theorem bk__law_of (F : FnP K "_law_of" "_law_of" s__law_of f fd) : PySem.W.keepIn K (.ref f) = true ∧ Binds K fd P__law_of [] ∧ KwTail K fd P__law_of := ⟨F.kp, F.bindsN fun _ _ _ _ _ _ us hl => match us, hl with | [_, _], _ => rfl, FunD_kwt F fun _ _ _ _ _ _ vs hl => match vs, hl with | [_, _], _ => fun n hn => match n, hn with | 0, _ => rfl | 1, _ => rfl | 2, _ => rfl | n + 3, hn => absurd hn (by show ¬ (n + 3 ≤ 2); omega)⟩
theorem bk__law_cells (F : FnP K "_law_cells" "_law_cells" s__law_cells f fd) : PySem.W.keepIn K (.ref f) = true ∧ Binds K fd P__law_cells [] ∧ KwTail K fd P__law_cells := ⟨F.kp, F.bindsN fun _ _ _ _ _ _ us hl => match us, hl with | [_, _], _ => rfl, FunD_kwt F fun _ _ _ _ _ _ vs hl => match vs, hl with | [_, _], _ => fun n hn => match n, hn with | 0, _ => rfl | 1, _ => rfl | 2, _ => rfl | n + 3, hn => absurd hn (by show ¬ (n + 3 ≤ 2); omega)⟩
theorem bk__law_heard (F : FnP K "_law_heard" "_law_heard" s__law_heard f fd) : PySem.W.keepIn K (.ref f) = true ∧ Binds K fd P__law_heard [] ∧ KwTail K fd P__law_heard := ⟨F.kp, F.bindsN fun _ _ _ _ _ _ us hl => match us, hl with | [_], _ => rfl, FunD_kwt F fun _ _ _ _ _ _ vs hl => match vs, hl with | [_], _ => fun n hn => match n, hn with | 0, _ => rfl | 1, _ => rfl | n + 2, hn => absurd hn (by show ¬ (n + 2 ≤ 1); omega)⟩
theorem bk__law_is_so_told (F : FnP K "_law_is_so_told" "_law_is_so_told" s__law_is_so_told f fd) : PySem.W.keepIn K (.ref f) = true ∧ Binds K fd P__law_is_so_told [] ∧ KwTail K fd P__law_is_so_told := ⟨F.kp, F.bindsN fun _ _ _ _ _ _ us hl => match us, hl with | [_, _, _], _ => rfl, FunD_kwt F fun _ _ _ _ _ _ vs hl => match vs, hl with | [_, _, _], _ => fun n hn => match n, hn with | 0, _ => rfl | 1, _ => rfl | 2, _ => rfl | 3, _ => rfl | n + 4, hn => absurd hn (by show ¬ (n + 4 ≤ 3); omega)⟩
theorem bk__law_set (F : FnP K "_law_set" "_law_set" s__law_set f fd) : PySem.W.keepIn K (.ref f) = true ∧ Binds K fd P__law_set [] ∧ KwTail K fd P__law_set := ⟨F.kp, F.bindsN fun _ _ _ _ _ _ us hl => match us, hl with | [_, _, _, _], _ => rfl, FunD_kwt F fun _ _ _ _ _ _ vs hl => match vs, hl with | [_, _, _, _], _ => fun n hn => match n, hn with | 0, _ => rfl | 1, _ => rfl | 2, _ => rfl | 3, _ => rfl | 4, _ => rfl | n + 5, hn => absurd hn (by show ¬ (n + 5 ≤ 4); omega)⟩
theorem bk__law_back (F : FnP K "_law_back" "_law_back" s__law_back f fd) : PySem.W.keepIn K (.ref f) = true ∧ Binds K fd P__law_back [] ∧ KwTail K fd P__law_back := ⟨F.kp, F.bindsN fun _ _ _ _ _ _ us hl => match us, hl with | [_, _, _, _], _ => rfl, FunD_kwt F fun _ _ _ _ _ _ vs hl => match vs, hl with | [_, _, _, _], _ => fun n hn => match n, hn with | 0, _ => rfl | 1, _ => rfl | 2, _ => rfl | 3, _ => rfl | 4, _ => rfl | n + 5, hn => absurd hn (by show ¬ (n + 5 ≤ 4); omega)⟩
theorem bk__law_ticked (F : FnP K "_law_ticked" "_law_ticked" s__law_ticked f fd) : PySem.W.keepIn K (.ref f) = true ∧ Binds K fd P__law_ticked [] ∧ KwTail K fd P__law_ticked := ⟨F.kp, F.bindsN fun _ _ _ _ _ _ us hl => match us, hl with | [_, _, _], _ => rfl, FunD_kwt F fun _ _ _ _ _ _ vs hl => match vs, hl with | [_, _, _], _ => fun n hn => match n, hn with | 0, _ => rfl | 1, _ => rfl | 2, _ => rfl | 3, _ => rfl | n + 4, hn => absurd hn (by show ¬ (n + 4 ≤ 3); omega)⟩
theorem bk__law_right (F : FnP K "_law_right" "_law_right" s__law_right f fd) : PySem.W.keepIn K (.ref f) = true ∧ Binds K fd P__law_right [] ∧ KwTail K fd P__law_right := ⟨F.kp, F.bindsN fun _ _ _ _ _ _ us hl => match us, hl with | [_], _ => rfl, FunD_kwt F fun _ _ _ _ _ _ vs hl => match vs, hl with | [_], _ => fun n hn => match n, hn with | 0, _ => rfl | 1, _ => rfl | n + 2, hn => absurd hn (by show ¬ (n + 2 ≤ 1); omega)⟩
theorem bk_law (F : FnP K "law" "law" s_law f fd) : PySem.W.keepIn K (.ref f) = true ∧ Binds K fd P_law [] ∧ KwTail K fd P_law := ⟨F.kp, F.bindsN fun _ _ _ _ _ _ us hl => match us, hl with | [_], _ => rfl, FunD_kwt F fun _ _ _ _ _ _ vs hl => match vs, hl with | [_], _ => fun n hn => match n, hn with | 0, _ => rfl | 1, _ => rfl | n + 2, hn => absurd hn (by show ¬ (n + 2 ≤ 1); omega)⟩
theorem bk_Clock_init_own (F : FnP K "__init__" "Clock.__init__" s_Clock_init_own f fd) : PySem.W.keepIn K (.ref f) = true ∧ Binds K fd P_Clock_init_own [] ∧ KwTail K fd P_Clock_init_own := ⟨F.kp, F.bindsN fun _ _ _ _ _ _ us hl => match us, hl with | [_], _ => rfl, FunD_kwt F fun _ _ _ _ _ _ vs hl => match vs, hl with | [_], _ => fun n hn => match n, hn with | 0, _ => rfl | 1, _ => rfl | n + 2, hn => absurd hn (by show ¬ (n + 2 ≤ 1); omega)⟩
theorem bk_Clock_eq_own (F : FnP K "__eq__" "Clock.__eq__" s_Clock_eq_own f fd) : PySem.W.keepIn K (.ref f) = true ∧ Binds K fd P_Clock_eq_own [] ∧ KwTail K fd P_Clock_eq_own := ⟨F.kp, F.bindsN fun _ _ _ _ _ _ us hl => match us, hl with | [_, _], _ => rfl, FunD_kwt F fun _ _ _ _ _ _ vs hl => match vs, hl with | [_, _], _ => fun n hn => match n, hn with | 0, _ => rfl | 1, _ => rfl | 2, _ => rfl | n + 3, hn => absurd hn (by show ¬ (n + 3 ≤ 2); omega)⟩
theorem bk_Clock_with_timer (F : FnP K "with_timer" "Clock.with_timer" s_Clock_with_timer f fd) : PySem.W.keepIn K (.ref f) = true ∧ Binds K fd P_Clock_with_timer [] ∧ KwTail K fd P_Clock_with_timer := ⟨F.kp, F.bindsN fun _ _ _ _ _ _ us hl => match us, hl with | [_, _, _, _, _], _ => rfl, FunD_kwt F fun _ _ _ _ _ _ vs hl => match vs, hl with | [_, _, _, _, _], _ => fun n hn => match n, hn with | 0, _ => rfl | 1, _ => rfl | 2, _ => rfl | 3, _ => rfl | 4, _ => rfl | 5, _ => rfl | n + 6, hn => absurd hn (by show ¬ (n + 6 ≤ 5); omega)⟩
theorem bk_Clock_without (F : FnP K "without" "Clock.without" s_Clock_without f fd) : PySem.W.keepIn K (.ref f) = true ∧ Binds K fd P_Clock_without [] ∧ KwTail K fd P_Clock_without := ⟨F.kp, F.bindsN fun _ _ _ _ _ _ us hl => match us, hl with | [_, _], _ => rfl, FunD_kwt F fun _ _ _ _ _ _ vs hl => match vs, hl with | [_, _], _ => fun n hn => match n, hn with | 0, _ => rfl | 1, _ => rfl | 2, _ => rfl | n + 3, hn => absurd hn (by show ¬ (n + 3 ≤ 2); omega)⟩
theorem bk_Clock_ticked (F : FnP K "ticked" "Clock.ticked" s_Clock_ticked f fd) : PySem.W.keepIn K (.ref f) = true ∧ Binds K fd P_Clock_ticked [] ∧ KwTail K fd P_Clock_ticked := ⟨F.kp, F.bindsN fun _ _ _ _ _ _ us hl => match us, hl with | [_], _ => rfl, FunD_kwt F fun _ _ _ _ _ _ vs hl => match vs, hl with | [_], _ => fun n hn => match n, hn with | 0, _ => rfl | 1, _ => rfl | n + 2, hn => absurd hn (by show ¬ (n + 2 ≤ 1); omega)⟩
/-- the tables of defs that make lambdas -/
structure Lx (K : PySem.W.Frag) (mg : Str → Option Value) (base : Heap) (fa : Nat → Addr) : Prop where
  l__law_set : ∃ cc, (∀ fd, FnP K "_law_set" "_law_set" s__law_set (fa 9) fd → fd.code = .ref cc) ∧ LamX.TabB base mg cc (fa 23)
theorem fnsP (Z : Fx w K mg fa) : ∀ n, FnsX P w K mg base fa tab (callP n) false (3 * n)
  | 0 => ⟨fun i x ps e => by
      match i, e with
      | 0, e => cases e; obtain ⟨fd, F⟩ := Z.f_is_integer; obtain ⟨b1, b2, b3⟩ := bk_is_integer F; exact ⟨b1, fd, b2, b3, fnx_zero rfl⟩
      | 1, e => cases e; obtain ⟨fd, F⟩ := Z.f_is_count; obtain ⟨b1, b2, b3⟩ := bk_is_count F; exact ⟨b1, fd, b2, b3, fnx_zero rfl⟩
      | 2, e => cases e; obtain ⟨fd, F⟩ := Z.f__clock_at; obtain ⟨b1, b2, b3⟩ := bk__clock_at F; exact ⟨b1, fd, b2, b3, fnx_zero rfl⟩
      | 3, e => cases e; obtain ⟨fd, F⟩ := Z.f__law_pot; obtain ⟨b1, b2, b3⟩ := bk__law_pot F; exact ⟨b1, fd, b2, b3, fnx_zero rfl⟩
      | 4, e => cases e; obtain ⟨fd, F⟩ := Z.f__law_take; obtain ⟨b1, b2, b3⟩ := bk__law_take F; exact ⟨b1, fd, b2, b3, fnx_zero rfl⟩
      | 5, e => cases e; obtain ⟨fd, F⟩ := Z.f__law_of; obtain ⟨b1, b2, b3⟩ := bk__law_of F; exact ⟨b1, fd, b2, b3, fnx_zero rfl⟩
      | 6, e => cases e; obtain ⟨fd, F⟩ := Z.f__law_cells; obtain ⟨b1, b2, b3⟩ := bk__law_cells F; exact ⟨b1, fd, b2, b3, fnx_zero rfl⟩
      | 7, e => cases e; obtain ⟨fd, F⟩ := Z.f__law_heard; obtain ⟨b1, b2, b3⟩ := bk__law_heard F; exact ⟨b1, fd, b2, b3, fnx_zero rfl⟩
      | 8, e => cases e; obtain ⟨fd, F⟩ := Z.f__law_is_so_told; obtain ⟨b1, b2, b3⟩ := bk__law_is_so_told F; exact ⟨b1, fd, b2, b3, fnx_zero rfl⟩
      | 9, e => cases e; obtain ⟨fd, F⟩ := Z.f__law_set; obtain ⟨b1, b2, b3⟩ := bk__law_set F; exact ⟨b1, fd, b2, b3, fnx_zero rfl⟩
      | 10, e => cases e; obtain ⟨fd, F⟩ := Z.f__law_back; obtain ⟨b1, b2, b3⟩ := bk__law_back F; exact ⟨b1, fd, b2, b3, fnx_zero rfl⟩
      | 11, e => cases e; obtain ⟨fd, F⟩ := Z.f__law_ticked; obtain ⟨b1, b2, b3⟩ := bk__law_ticked F; exact ⟨b1, fd, b2, b3, fnx_zero rfl⟩
      | 12, e => cases e; obtain ⟨fd, F⟩ := Z.f__law_right; obtain ⟨b1, b2, b3⟩ := bk__law_right F; exact ⟨b1, fd, b2, b3, fnx_zero rfl⟩
      | 13, e => cases e; obtain ⟨fd, F⟩ := Z.f_law; obtain ⟨b1, b2, b3⟩ := bk_law F; exact ⟨b1, fd, b2, b3, fnx_zero rfl⟩
      | 14, e => cases e; obtain ⟨fd, F⟩ := Z.f_Clock_init_own; obtain ⟨b1, b2, b3⟩ := bk_Clock_init_own F; exact ⟨b1, fd, b2, b3, fnx_zero rfl⟩
      | 15, e => cases e; obtain ⟨fd, F⟩ := Z.f_Clock_eq_own; obtain ⟨b1, b2, b3⟩ := bk_Clock_eq_own F; exact ⟨b1, fd, b2, b3, fnx_zero rfl⟩
      | 16, e => cases e; obtain ⟨fd, F⟩ := Z.f_Clock_with_timer; obtain ⟨b1, b2, b3⟩ := bk_Clock_with_timer F; exact ⟨b1, fd, b2, b3, fnx_zero rfl⟩
      | 17, e => cases e; obtain ⟨fd, F⟩ := Z.f_Clock_without; obtain ⟨b1, b2, b3⟩ := bk_Clock_without F; exact ⟨b1, fd, b2, b3, fnx_zero rfl⟩
      | 18, e => cases e; obtain ⟨fd, F⟩ := Z.f_Clock_ticked; obtain ⟨b1, b2, b3⟩ := bk_Clock_ticked F; exact ⟨b1, fd, b2, b3, fnx_zero rfl⟩
      | n + 19, e => cases e⟩
  | n + 1 => ⟨fun i x ps e => by
      match i, e with
      | 0, e => cases e; obtain ⟨fd, F⟩ := Z.f_is_integer; obtain ⟨b1, b2, b3⟩ := bk_is_integer F; exact ⟨b1, fd, b2, b3, ok_is_integer Z (fnsP Z n) F⟩
      | 1, e => cases e; obtain ⟨fd, F⟩ := Z.f_is_count; obtain ⟨b1, b2, b3⟩ := bk_is_count F; exact ⟨b1, fd, b2, b3, ok_is_count Z (fnsP Z n) F⟩
      | 2, e => cases e; obtain ⟨fd, F⟩ := Z.f__clock_at; obtain ⟨b1, b2, b3⟩ := bk__clock_at F; exact ⟨b1, fd, b2, b3, ok__clock_at Z (fnsP Z n) F⟩
      | 3, e => cases e; obtain ⟨fd, F⟩ := Z.f__law_pot; obtain ⟨b1, b2, b3⟩ := bk__law_pot F; exact ⟨b1, fd, b2, b3, fnx_zero rfl⟩
      | 4, e => cases e; obtain ⟨fd, F⟩ := Z.f__law_take; obtain ⟨b1, b2, b3⟩ := bk__law_take F; exact ⟨b1, fd, b2, b3, fnx_zero rfl⟩
      | 5, e => cases e; obtain ⟨fd, F⟩ := Z.f__law_of; obtain ⟨b1, b2, b3⟩ := bk__law_of F; exact ⟨b1, fd, b2, b3, fnx_zero rfl⟩
      | 6, e => cases e; obtain ⟨fd, F⟩ := Z.f__law_cells; obtain ⟨b1, b2, b3⟩ := bk__law_cells F; exact ⟨b1, fd, b2, b3, fnx_zero rfl⟩
      | 7, e => cases e; obtain ⟨fd, F⟩ := Z.f__law_heard; obtain ⟨b1, b2, b3⟩ := bk__law_heard F; exact ⟨b1, fd, b2, b3, fnx_zero rfl⟩
      | 8, e => cases e; obtain ⟨fd, F⟩ := Z.f__law_is_so_told; obtain ⟨b1, b2, b3⟩ := bk__law_is_so_told F; exact ⟨b1, fd, b2, b3, fnx_zero rfl⟩
      | 9, e => cases e; obtain ⟨fd, F⟩ := Z.f__law_set; obtain ⟨b1, b2, b3⟩ := bk__law_set F; exact ⟨b1, fd, b2, b3, fnx_zero rfl⟩
      | 10, e => cases e; obtain ⟨fd, F⟩ := Z.f__law_back; obtain ⟨b1, b2, b3⟩ := bk__law_back F; exact ⟨b1, fd, b2, b3, fnx_zero rfl⟩
      | 11, e => cases e; obtain ⟨fd, F⟩ := Z.f__law_ticked; obtain ⟨b1, b2, b3⟩ := bk__law_ticked F; exact ⟨b1, fd, b2, b3, fnx_zero rfl⟩
      | 12, e => cases e; obtain ⟨fd, F⟩ := Z.f__law_right; obtain ⟨b1, b2, b3⟩ := bk__law_right F; exact ⟨b1, fd, b2, b3, fnx_zero rfl⟩
      | 13, e => cases e; obtain ⟨fd, F⟩ := Z.f_law; obtain ⟨b1, b2, b3⟩ := bk_law F; exact ⟨b1, fd, b2, b3, fnx_zero rfl⟩
      | 14, e => cases e; obtain ⟨fd, F⟩ := Z.f_Clock_init_own; obtain ⟨b1, b2, b3⟩ := bk_Clock_init_own F; exact ⟨b1, fd, b2, b3, ok_Clock_init_own Z (fnsP Z n) F⟩
      | 15, e => cases e; obtain ⟨fd, F⟩ := Z.f_Clock_eq_own; obtain ⟨b1, b2, b3⟩ := bk_Clock_eq_own F; exact ⟨b1, fd, b2, b3, ok_Clock_eq_own Z (fnsP Z n) F⟩
      | 16, e => cases e; obtain ⟨fd, F⟩ := Z.f_Clock_with_timer; obtain ⟨b1, b2, b3⟩ := bk_Clock_with_timer F; exact ⟨b1, fd, b2, b3, ok_Clock_with_timer Z (fnsP Z n) F⟩
      | 17, e => cases e; obtain ⟨fd, F⟩ := Z.f_Clock_without; obtain ⟨b1, b2, b3⟩ := bk_Clock_without F; exact ⟨b1, fd, b2, b3, ok_Clock_without Z (fnsP Z n) F⟩
      | 18, e => cases e; obtain ⟨fd, F⟩ := Z.f_Clock_ticked; obtain ⟨b1, b2, b3⟩ := bk_Clock_ticked F; exact ⟨b1, fd, b2, b3, ok_Clock_ticked Z (fnsP Z n) F⟩
      | n + 19, e => cases e⟩
theorem fnsL (Z : Fx w K mg fa) (L : Lx K mg base fa) : ∀ n, FnsX P w K mg base fa tab (callN n) true (3 * n)
  | 0 => ⟨fun i x ps e => by
      match i, e with
      | 0, e => cases e; obtain ⟨fd, F⟩ := Z.f_is_integer; obtain ⟨b1, b2, b3⟩ := bk_is_integer F; exact ⟨b1, fd, b2, b3, fnx_zero rfl⟩
      | 1, e => cases e; obtain ⟨fd, F⟩ := Z.f_is_count; obtain ⟨b1, b2, b3⟩ := bk_is_count F; exact ⟨b1, fd, b2, b3, fnx_zero rfl⟩
      | 2, e => cases e; obtain ⟨fd, F⟩ := Z.f__clock_at; obtain ⟨b1, b2, b3⟩ := bk__clock_at F; exact ⟨b1, fd, b2, b3, fnx_zero rfl⟩
      | 3, e => cases e; obtain ⟨fd, F⟩ := Z.f__law_pot; obtain ⟨b1, b2, b3⟩ := bk__law_pot F; exact ⟨b1, fd, b2, b3, fnx_zero rfl⟩
      | 4, e => cases e; obtain ⟨fd, F⟩ := Z.f__law_take; obtain ⟨b1, b2, b3⟩ := bk__law_take F; exact ⟨b1, fd, b2, b3, fnx_zero rfl⟩
      | 5, e => cases e; obtain ⟨fd, F⟩ := Z.f__law_of; obtain ⟨b1, b2, b3⟩ := bk__law_of F; exact ⟨b1, fd, b2, b3, fnx_zero rfl⟩
      | 6, e => cases e; obtain ⟨fd, F⟩ := Z.f__law_cells; obtain ⟨b1, b2, b3⟩ := bk__law_cells F; exact ⟨b1, fd, b2, b3, fnx_zero rfl⟩
      | 7, e => cases e; obtain ⟨fd, F⟩ := Z.f__law_heard; obtain ⟨b1, b2, b3⟩ := bk__law_heard F; exact ⟨b1, fd, b2, b3, fnx_zero rfl⟩
      | 8, e => cases e; obtain ⟨fd, F⟩ := Z.f__law_is_so_told; obtain ⟨b1, b2, b3⟩ := bk__law_is_so_told F; exact ⟨b1, fd, b2, b3, fnx_zero rfl⟩
      | 9, e => cases e; obtain ⟨fd, F⟩ := Z.f__law_set; obtain ⟨b1, b2, b3⟩ := bk__law_set F; exact ⟨b1, fd, b2, b3, fnx_zero rfl⟩
      | 10, e => cases e; obtain ⟨fd, F⟩ := Z.f__law_back; obtain ⟨b1, b2, b3⟩ := bk__law_back F; exact ⟨b1, fd, b2, b3, fnx_zero rfl⟩
      | 11, e => cases e; obtain ⟨fd, F⟩ := Z.f__law_ticked; obtain ⟨b1, b2, b3⟩ := bk__law_ticked F; exact ⟨b1, fd, b2, b3, fnx_zero rfl⟩
      | 12, e => cases e; obtain ⟨fd, F⟩ := Z.f__law_right; obtain ⟨b1, b2, b3⟩ := bk__law_right F; exact ⟨b1, fd, b2, b3, fnx_zero rfl⟩
      | 13, e => cases e; obtain ⟨fd, F⟩ := Z.f_law; obtain ⟨b1, b2, b3⟩ := bk_law F; exact ⟨b1, fd, b2, b3, fnx_zero rfl⟩
      | 14, e => cases e; obtain ⟨fd, F⟩ := Z.f_Clock_init_own; obtain ⟨b1, b2, b3⟩ := bk_Clock_init_own F; exact ⟨b1, fd, b2, b3, fnx_zero rfl⟩
      | 15, e => cases e; obtain ⟨fd, F⟩ := Z.f_Clock_eq_own; obtain ⟨b1, b2, b3⟩ := bk_Clock_eq_own F; exact ⟨b1, fd, b2, b3, fnx_zero rfl⟩
      | 16, e => cases e; obtain ⟨fd, F⟩ := Z.f_Clock_with_timer; obtain ⟨b1, b2, b3⟩ := bk_Clock_with_timer F; exact ⟨b1, fd, b2, b3, fnx_zero rfl⟩
      | 17, e => cases e; obtain ⟨fd, F⟩ := Z.f_Clock_without; obtain ⟨b1, b2, b3⟩ := bk_Clock_without F; exact ⟨b1, fd, b2, b3, fnx_zero rfl⟩
      | 18, e => cases e; obtain ⟨fd, F⟩ := Z.f_Clock_ticked; obtain ⟨b1, b2, b3⟩ := bk_Clock_ticked F; exact ⟨b1, fd, b2, b3, fnx_zero rfl⟩
      | n + 19, e => cases e⟩
  | n + 1 => ⟨fun i x ps e => by
      match i, e with
      | 0, e => cases e; obtain ⟨fd, F⟩ := Z.f_is_integer; obtain ⟨b1, b2, b3⟩ := bk_is_integer F; exact ⟨b1, fd, b2, b3, (ok_is_integer Z (fnsP Z n) F).up⟩
      | 1, e => cases e; obtain ⟨fd, F⟩ := Z.f_is_count; obtain ⟨b1, b2, b3⟩ := bk_is_count F; exact ⟨b1, fd, b2, b3, (ok_is_count Z (fnsP Z n) F).up⟩
      | 2, e => cases e; obtain ⟨fd, F⟩ := Z.f__clock_at; obtain ⟨b1, b2, b3⟩ := bk__clock_at F; exact ⟨b1, fd, b2, b3, (ok__clock_at Z (fnsP Z n) F).up⟩
      | 3, e => cases e; obtain ⟨fd, F⟩ := Z.f__law_pot; obtain ⟨b1, b2, b3⟩ := bk__law_pot F; exact ⟨b1, fd, b2, b3, ok__law_pot Z (fnsP Z n) (fnsL Z L n) F⟩
      | 4, e => cases e; obtain ⟨fd, F⟩ := Z.f__law_take; obtain ⟨b1, b2, b3⟩ := bk__law_take F; exact ⟨b1, fd, b2, b3, ok__law_take Z (fnsP Z n) (fnsL Z L n) F⟩
      | 5, e => cases e; obtain ⟨fd, F⟩ := Z.f__law_of; obtain ⟨b1, b2, b3⟩ := bk__law_of F; exact ⟨b1, fd, b2, b3, ok__law_of Z (fnsP Z n) (fnsL Z L n) F⟩
      | 6, e => cases e; obtain ⟨fd, F⟩ := Z.f__law_cells; obtain ⟨b1, b2, b3⟩ := bk__law_cells F; exact ⟨b1, fd, b2, b3, ok__law_cells Z (fnsP Z n) (fnsL Z L n) F⟩
      | 7, e => cases e; obtain ⟨fd, F⟩ := Z.f__law_heard; obtain ⟨b1, b2, b3⟩ := bk__law_heard F; exact ⟨b1, fd, b2, b3, fnx_zero rfl⟩
      | 8, e => cases e; obtain ⟨fd, F⟩ := Z.f__law_is_so_told; obtain ⟨b1, b2, b3⟩ := bk__law_is_so_told F; exact ⟨b1, fd, b2, b3, ok__law_is_so_told Z (fnsP Z n) (fnsL Z L n) F⟩
      | 9, e => cases e; obtain ⟨fd, F⟩ := Z.f__law_set; obtain ⟨b1, b2, b3⟩ := bk__law_set F; exact ⟨b1, fd, b2, b3, (let ⟨cc, hcc, TB⟩ := L.l__law_set; ok__law_set Z (fnsP Z n) (fnsL Z L n) F cc (hcc fd F) TB)⟩
      | 10, e => cases e; obtain ⟨fd, F⟩ := Z.f__law_back; obtain ⟨b1, b2, b3⟩ := bk__law_back F; exact ⟨b1, fd, b2, b3, ok__law_back Z (fnsP Z n) (fnsL Z L n) F⟩
      | 11, e => cases e; obtain ⟨fd, F⟩ := Z.f__law_ticked; obtain ⟨b1, b2, b3⟩ := bk__law_ticked F; exact ⟨b1, fd, b2, b3, ok__law_ticked Z (fnsP Z n) (fnsL Z L n) F⟩
      | 12, e => cases e; obtain ⟨fd, F⟩ := Z.f__law_right; obtain ⟨b1, b2, b3⟩ := bk__law_right F; exact ⟨b1, fd, b2, b3, ok__law_right Z (fnsP Z n) (fnsL Z L n) F⟩
      | 13, e => cases e; obtain ⟨fd, F⟩ := Z.f_law; obtain ⟨b1, b2, b3⟩ := bk_law F; exact ⟨b1, fd, b2, b3, ok_law Z (fnsP Z n) (fnsL Z L n) F⟩
      | 14, e => cases e; obtain ⟨fd, F⟩ := Z.f_Clock_init_own; obtain ⟨b1, b2, b3⟩ := bk_Clock_init_own F; exact ⟨b1, fd, b2, b3, (ok_Clock_init_own Z (fnsP Z n) F).up⟩
      | 15, e => cases e; obtain ⟨fd, F⟩ := Z.f_Clock_eq_own; obtain ⟨b1, b2, b3⟩ := bk_Clock_eq_own F; exact ⟨b1, fd, b2, b3, (ok_Clock_eq_own Z (fnsP Z n) F).up⟩
      | 16, e => cases e; obtain ⟨fd, F⟩ := Z.f_Clock_with_timer; obtain ⟨b1, b2, b3⟩ := bk_Clock_with_timer F; exact ⟨b1, fd, b2, b3, (ok_Clock_with_timer Z (fnsP Z n) F).up⟩
      | 17, e => cases e; obtain ⟨fd, F⟩ := Z.f_Clock_without; obtain ⟨b1, b2, b3⟩ := bk_Clock_without F; exact ⟨b1, fd, b2, b3, (ok_Clock_without Z (fnsP Z n) F).up⟩
      | 18, e => cases e; obtain ⟨fd, F⟩ := Z.f_Clock_ticked; obtain ⟨b1, b2, b3⟩ := bk_Clock_ticked F; exact ⟨b1, fd, b2, b3, (ok_Clock_ticked Z (fnsP Z n) F).up⟩
      | n + 19, e => cases e⟩
end
/-! ### the head -/
def dd_is_integer : He.DefD := ⟨("is_integer", none), "is_integer", "is_integer", defArgs s_is_integer, defBody s_is_integer, defScope s_is_integer, [], []⟩
def dd_is_count : He.DefD := ⟨("is_count", none), "is_count", "is_count", defArgs s_is_count, defBody s_is_count, defScope s_is_count, [], []⟩
def dd__clock_at : He.DefD := ⟨("_clock_at", none), "_clock_at", "_clock_at", defArgs s__clock_at, defBody s__clock_at, defScope s__clock_at, [], []⟩
def dd__law_pot : He.DefD := ⟨("_law_pot", none), "_law_pot", "_law_pot", defArgs s__law_pot, defBody s__law_pot, defScope s__law_pot, [], []⟩
def dd__law_take : He.DefD := ⟨("_law_take", none), "_law_take", "_law_take", defArgs s__law_take, defBody s__law_take, defScope s__law_take, [], []⟩
def dd__law_of : He.DefD := ⟨("_law_of", none), "_law_of", "_law_of", defArgs s__law_of, defBody s__law_of, defScope s__law_of, [], []⟩
def dd__law_cells : He.DefD := ⟨("_law_cells", none), "_law_cells", "_law_cells", defArgs s__law_cells, defBody s__law_cells, defScope s__law_cells, [], []⟩
def dd__law_heard : He.DefD := ⟨("_law_heard", none), "_law_heard", "_law_heard", defArgs s__law_heard, defBody s__law_heard, defScope s__law_heard, [], []⟩
def dd__law_is_so_told : He.DefD := ⟨("_law_is_so_told", none), "_law_is_so_told", "_law_is_so_told", defArgs s__law_is_so_told, defBody s__law_is_so_told, defScope s__law_is_so_told, [], []⟩
def dd__law_set : He.DefD := ⟨("_law_set", none), "_law_set", "_law_set", defArgs s__law_set, defBody s__law_set, defScope s__law_set, [], []⟩
def dd__law_back : He.DefD := ⟨("_law_back", none), "_law_back", "_law_back", defArgs s__law_back, defBody s__law_back, defScope s__law_back, [], []⟩
def dd__law_ticked : He.DefD := ⟨("_law_ticked", none), "_law_ticked", "_law_ticked", defArgs s__law_ticked, defBody s__law_ticked, defScope s__law_ticked, [], []⟩
def dd__law_right : He.DefD := ⟨("_law_right", none), "_law_right", "_law_right", defArgs s__law_right, defBody s__law_right, defScope s__law_right, [], []⟩
def dd_law : He.DefD := ⟨("law", none), "law", "law", defArgs s_law, defBody s_law, defScope s_law, [], []⟩
def dd_Clock_init_own : He.DefD := ⟨("Clock", some "__init__"), "__init__", "Clock.__init__", defArgs s_Clock_init_own, defBody s_Clock_init_own, defScope s_Clock_init_own, [], []⟩
def dd_Clock_eq_own : He.DefD := ⟨("Clock", some "__eq__"), "__eq__", "Clock.__eq__", defArgs s_Clock_eq_own, defBody s_Clock_eq_own, defScope s_Clock_eq_own, [], []⟩
def dd_Clock_with_timer : He.DefD := ⟨("Clock", some "with_timer"), "with_timer", "Clock.with_timer", defArgs s_Clock_with_timer, defBody s_Clock_with_timer, defScope s_Clock_with_timer, [], []⟩
def dd_Clock_without : He.DefD := ⟨("Clock", some "without"), "without", "Clock.without", defArgs s_Clock_without, defBody s_Clock_without, defScope s_Clock_without, [], []⟩
def dd_Clock_ticked : He.DefD := ⟨("Clock", some "ticked"), "ticked", "Clock.ticked", defArgs s_Clock_ticked, defBody s_Clock_ticked, defScope s_Clock_ticked, [], []⟩
abbrev s_low : Stmt := subDef (top 1) 0
def dd_low : He.DefD := ⟨("MillError", some "__init__"), "__init__", "MillError.__init__", defArgs s_low, defBody s_low, defScope s_low, [], []⟩
def fnl : List He.DefD := [dd_is_integer, dd_is_count, dd__clock_at, dd__law_pot, dd__law_take, dd__law_of, dd__law_cells, dd__law_heard, dd__law_is_so_told, dd__law_set, dd__law_back, dd__law_ticked, dd__law_right, dd_law, dd_Clock_init_own, dd_Clock_eq_own, dd_Clock_with_timer, dd_Clock_without, dd_Clock_ticked, dd_low]
def fal : List He.Fa := [.glo "is_integer", .glo "is_count", .glo "_clock_at", .glo "_law_pot", .glo "_law_take", .glo "_law_of", .glo "_law_cells", .glo "_law_heard", .glo "_law_is_so_told", .glo "_law_set", .glo "_law_back", .glo "_law_ticked", .glo "_law_right", .glo "law", .glo "MillError", .glo "BadTime", .glo "Held", .glo "Clock", .free "abs", .free "all", .free "bool", .free "enumerate", .free "int", .free "isinstance", .free "len", .free "list", .free "max", .free "min", .free "range", .free "repr", .free "sum", .free "tuple", .cls "Clock", .noat "Clock" "now", .noat "Clock" "timers", .meth "Clock" "__init__", .meth "Clock" "__eq__", .meth "Clock" "with_timer", .meth "Clock" "without", .meth "Clock" "ticked", .exm "BadTime" "MillError" true, .exm "Held" "MillError" true, .keep "Clock", .keep "Held", .mkr "Clock"]
def exl (K : PySem.W.Frag) : List Bool := [tyB K (He.ga K "Clock"), xkB K (He.ga K "BadTime"), xkB K (He.ga K "Held"), nfB K (He.ga K "Clock"), neB K (He.ga K "Clock") (He.fAd K ("Clock", some "__eq__")), decide (PySem.W.kitOne K (.ref (He.ga K "Clock")) (.ref (He.ga K "Clock")) = some true), decide (PySem.W.kitOne K (.ref (He.ga K "BadTime")) (.ref (He.ga K "Clock")) = some false), decide (PySem.W.kitOne K (.ref (He.ga K "Held")) (.ref (He.ga K "Clock")) = some false), kitB K (He.ga K "Clock"), decide (PySem.W.kitOne K (.ref (He.ga K "Held")) (.ref (He.ga K "Held")) = some true), decide (PySem.W.kitOne K (.ref (He.ga K "BadTime")) (.ref (He.ga K "Held")) = some false), decide (PySem.W.kitOne K (.ref (He.ga K "Clock")) (.ref (He.ga K "Held")) = some false), kitB K (He.ga K "Held"), lowB K (He.ga K "BadTime") (He.fAd K ("MillError", some "__init__")), kwB K (He.fAd K ("MillError", some "__init__")), lowB K (He.ga K "Held") (He.fAd K ("MillError", some "__init__"))]
def exb (K : PySem.W.Frag) : Bool := (exl K).all id
def tfl : List He.Defn := [("_law_set", none)]
abbrev R : PySem.W.OpenRow := PySem.W.OpenLaw.row PySem.Challenge.rw_arrivalmill_k29_whole_clocks_and_their_t
abbrev hk : PySem.W.Hook := He.hookX 4 fal fnl [] tfl exb
def ob (s : PySem.W.SharedT) : He.AlX := He.obsX 4 fal fnl [] tfl exb (HandSHeadRun.getT s)
theorem ob_eq (s : PySem.W.SharedT) : ob s = hk.obs s.abs := He.obsX_eq (HandSHeadRun.getT_eq s)
def others : List Str := [("MillError" : Str), ("BadTime" : Str), ("Held" : Str), ("is_integer" : Str), ("is_count" : Str), ("Clock" : Str), ("_clock_at" : Str), ("_law_pot" : Str), ("_law_take" : Str), ("_law_of" : Str), ("_law_cells" : Str), ("_law_heard" : Str), ("_law_is_so_told" : Str), ("_law_set" : Str), ("_law_back" : Str), ("_law_ticked" : Str), ("_law_right" : Str)]
def adr (K : PySem.W.Frag) : Nat → Addr
  | 0 => He.fAd K ("is_integer", none)
  | 1 => He.fAd K ("is_count", none)
  | 2 => He.fAd K ("_clock_at", none)
  | 3 => He.fAd K ("_law_pot", none)
  | 4 => He.fAd K ("_law_take", none)
  | 5 => He.fAd K ("_law_of", none)
  | 6 => He.fAd K ("_law_cells", none)
  | 7 => He.fAd K ("_law_heard", none)
  | 8 => He.fAd K ("_law_is_so_told", none)
  | 9 => He.fAd K ("_law_set", none)
  | 10 => He.fAd K ("_law_back", none)
  | 11 => He.fAd K ("_law_ticked", none)
  | 12 => He.fAd K ("_law_right", none)
  | 13 => He.fAd K ("law", none)
  | 14 => He.fAd K ("Clock", some "__init__")
  | 15 => He.fAd K ("Clock", some "__eq__")
  | 16 => He.fAd K ("Clock", some "with_timer")
  | 17 => He.fAd K ("Clock", some "without")
  | 18 => He.fAd K ("Clock", some "ticked")
  | 19 => He.ga K "MillError"
  | 20 => He.ga K "BadTime"
  | 21 => He.ga K "Held"
  | 22 => He.ga K "Clock"
  | 23 => (He.cT K ("_law_set", none)).2
  | _ => 0
theorem ct_of {w : World} {h : Heap} {K : PySem.W.Frag} (c : He.SaysX fal fnl [] tfl exb w h K) : CtOk K (adr K) ct where
  cl := fun n hc => by
    simp only [ct, Bool.or_eq_true, beq_iff_eq] at hc
    rcases hc with rfl
    · exact He.cls_ok (c.t.d.fact 32 (f := .cls "Clock") rfl)
  fl := fun n f hc => by
    simp only [ct, Bool.or_eq_true, Bool.and_eq_true, beq_iff_eq, List.contains_iff_mem, List.mem_cons, List.not_mem_nil, or_false] at hc
    rcases hc with ⟨rfl, (rfl | rfl)⟩
    · exact He.noat_ok (c.t.d.fact 33 (f := .noat "Clock" "now") rfl)
    · exact He.noat_ok (c.t.d.fact 34 (f := .noat "Clock" "timers") rfl)
  me := fun n m i hc => by
    simp only [ct] at hc
    split at hc
    · rename_i q; obtain ⟨rfl, rfl⟩ := q; cases hc; exact ⟨He.cls_ok (c.t.d.fact 32 (f := .cls "Clock") rfl), He.meth_ok (c.t.d.fact 35 (f := .meth "Clock" "__init__") rfl)⟩
    split at hc
    · rename_i q; obtain ⟨rfl, rfl⟩ := q; cases hc; exact ⟨He.cls_ok (c.t.d.fact 32 (f := .cls "Clock") rfl), He.meth_ok (c.t.d.fact 36 (f := .meth "Clock" "__eq__") rfl)⟩
    split at hc
    · rename_i q; obtain ⟨rfl, rfl⟩ := q; cases hc; exact ⟨He.cls_ok (c.t.d.fact 32 (f := .cls "Clock") rfl), He.meth_ok (c.t.d.fact 37 (f := .meth "Clock" "with_timer") rfl)⟩
    split at hc
    · rename_i q; obtain ⟨rfl, rfl⟩ := q; cases hc; exact ⟨He.cls_ok (c.t.d.fact 32 (f := .cls "Clock") rfl), He.meth_ok (c.t.d.fact 38 (f := .meth "Clock" "without") rfl)⟩
    split at hc
    · rename_i q; obtain ⟨rfl, rfl⟩ := q; cases hc; exact ⟨He.cls_ok (c.t.d.fact 32 (f := .cls "Clock") rfl), He.meth_ok (c.t.d.fact 39 (f := .meth "Clock" "ticked") rfl)⟩
    cases hc
theorem hd_of {w : World} {h : Heap} {K : PySem.W.Frag} {mg : Str → Option Value} (X : K.In h) (G : h.Ns mainGlobals mg) (c : He.SaysX fal fnl [] tfl exb w h K) : Fx w K mg (adr K) where
  d_is_integer := He.glo_ok X G (c.t.d.fact 0 (f := .glo "is_integer") rfl)
  d_is_count := He.glo_ok X G (c.t.d.fact 1 (f := .glo "is_count") rfl)
  d__clock_at := He.glo_ok X G (c.t.d.fact 2 (f := .glo "_clock_at") rfl)
  d__law_pot := He.glo_ok X G (c.t.d.fact 3 (f := .glo "_law_pot") rfl)
  d__law_take := He.glo_ok X G (c.t.d.fact 4 (f := .glo "_law_take") rfl)
  d__law_of := He.glo_ok X G (c.t.d.fact 5 (f := .glo "_law_of") rfl)
  d__law_cells := He.glo_ok X G (c.t.d.fact 6 (f := .glo "_law_cells") rfl)
  d__law_heard := He.glo_ok X G (c.t.d.fact 7 (f := .glo "_law_heard") rfl)
  d__law_is_so_told := He.glo_ok X G (c.t.d.fact 8 (f := .glo "_law_is_so_told") rfl)
  d__law_set := He.glo_ok X G (c.t.d.fact 9 (f := .glo "_law_set") rfl)
  d__law_back := He.glo_ok X G (c.t.d.fact 10 (f := .glo "_law_back") rfl)
  d__law_ticked := He.glo_ok X G (c.t.d.fact 11 (f := .glo "_law_ticked") rfl)
  d__law_right := He.glo_ok X G (c.t.d.fact 12 (f := .glo "_law_right") rfl)
  d_law := He.glo_ok X G (c.t.d.fact 13 (f := .glo "law") rfl)
  c_MillError := He.glo_ok X G (c.t.d.fact 14 (f := .glo "MillError") rfl)
  c_BadTime := He.glo_ok X G (c.t.d.fact 15 (f := .glo "BadTime") rfl)
  c_Held := He.glo_ok X G (c.t.d.fact 16 (f := .glo "Held") rfl)
  c_Clock := He.glo_ok X G (c.t.d.fact 17 (f := .glo "Clock") rfl)
  fr := fun x hx => by
    simp only [frees, List.mem_cons, List.not_mem_nil, or_false] at hx
    rcases hx with rfl | rfl | rfl | rfl | rfl | rfl | rfl | rfl | rfl | rfl | rfl | rfl | rfl | rfl
    · exact He.free_ok X G (c.t.d.fact 18 (f := .free "abs") rfl)
    · exact He.free_ok X G (c.t.d.fact 19 (f := .free "all") rfl)
    · exact He.free_ok X G (c.t.d.fact 20 (f := .free "bool") rfl)
    · exact He.free_ok X G (c.t.d.fact 21 (f := .free "enumerate") rfl)
    · exact He.free_ok X G (c.t.d.fact 22 (f := .free "int") rfl)
    · exact He.free_ok X G (c.t.d.fact 23 (f := .free "isinstance") rfl)
    · exact He.free_ok X G (c.t.d.fact 24 (f := .free "len") rfl)
    · exact He.free_ok X G (c.t.d.fact 25 (f := .free "list") rfl)
    · exact He.free_ok X G (c.t.d.fact 26 (f := .free "max") rfl)
    · exact He.free_ok X G (c.t.d.fact 27 (f := .free "min") rfl)
    · exact He.free_ok X G (c.t.d.fact 28 (f := .free "range") rfl)
    · exact He.free_ok X G (c.t.d.fact 29 (f := .free "repr") rfl)
    · exact He.free_ok X G (c.t.d.fact 30 (f := .free "sum") rfl)
    · exact He.free_ok X G (c.t.d.fact 31 (f := .free "tuple") rfl)
  C := ct_of c
  inC := fun n hc => by
    simp only [ct, Bool.or_eq_true, beq_iff_eq] at hc
    rcases hc with rfl
    · exact inC_ok (He.cls_ok (c.t.d.fact 32 (f := .cls "Clock") rfl)) (all_at c.more 0 rfl)
  xkC := fun n hc => by
    simp only [xc, Bool.or_eq_true, beq_iff_eq] at hc
    rcases hc with rfl | rfl
    · exact xk_ok (all_at c.more 1 rfl)
    · exact xk_ok (all_at c.more 2 rfl)
  ecl := fun n b hc => by
    unfold ecl at hc; split at hc <;> cases hc; rename_i hq
    simp only [xc, Bool.or_eq_true, beq_iff_eq] at hq
    rcases hq with rfl | rfl
    · exact He.exm_ok (c.t.d.fact 40 (f := .exm "BadTime" "MillError" true) rfl)
    · exact He.exm_ok (c.t.d.fact 41 (f := .exm "Held" "MillError" true) rfl)
  eqt := {
    me := fun n i hc => ⟨((ct_of c).me n "__eq__" i hc).2.at_, ((ct_of c).me n "__eq__" i hc).2.fn⟩
    nf := fun n t hc => match t, hc with
      | .inl s, hc => by
        simp only [nf, Bool.and_eq_true, Bool.or_eq_true, beq_iff_eq] at hc
        obtain ⟨hc, hs⟩ := hc
        rcases hc with rfl
        · exact ⟨nf_ok (all_at c.more 3 rfl) hs, fun c2 z => (by cases z)⟩
      | .inr d, hc => by
        simp only [nf, Bool.and_eq_true, Bool.or_eq_true, beq_iff_eq] at hc
        obtain ⟨rfl, hc⟩ := hc
        rcases hc with rfl
        · exact ⟨(He.ba (all_at c.more 3 rfl)).1, fun c2 z => (by cases z; exact inC_ok (He.cls_ok (c.t.d.fact 32 (f := .cls "Clock") rfl)) (all_at c.more 0 rfl))⟩
    ne := fun n i hc hm => by
      simp only [ne, Bool.or_eq_true, beq_iff_eq] at hc
      rcases hc with rfl
      · cases (show ct.me 22 "__eq__" = some 15 by decide).symm.trans hm; exact ne_ok (all_at c.more 4 rfl) }
  ty_Clock := fun t b hc => match t, hc with
    | .inl n, hc => by
      simp only [ty_Clock] at hc
      split at hc
      · rename_i hq; subst hq; cases hc; exact of_decide_eq_true (all_at c.more 5 rfl)
      split at hc
      · rename_i hq; subst hq; cases hc; exact of_decide_eq_true (all_at c.more 6 rfl)
      split at hc
      · rename_i hq; subst hq; cases hc; exact of_decide_eq_true (all_at c.more 7 rfl)
      cases hc
    | .inr s, hc => by
      simp only [ty_Clock] at hc
      split at hc <;> cases hc
      exact kit_ok (all_at c.more 8 rfl) (by assumption)
  kp_Clock := He.keep_ok (c.t.d.fact 42 (f := .keep "Clock") rfl)
  ty_Held := fun t b hc => match t, hc with
    | .inl n, hc => by
      simp only [ty_Held] at hc
      split at hc
      · rename_i hq; subst hq; cases hc; exact of_decide_eq_true (all_at c.more 9 rfl)
      split at hc
      · rename_i hq; subst hq; cases hc; exact of_decide_eq_true (all_at c.more 10 rfl)
      split at hc
      · rename_i hq; subst hq; cases hc; exact of_decide_eq_true (all_at c.more 11 rfl)
      cases hc
    | .inr s, hc => by
      simp only [ty_Held] at hc
      split at hc <;> cases hc
      exact kit_ok (all_at c.more 12 rfl) (by assumption)
  kp_Held := He.keep_ok (c.t.d.fact 43 (f := .keep "Held") rfl)
  mk_Clock := He.mkr_ok (c.t.d.fact 44 (f := .mkr "Clock") rfl)
  low_BadTime := ⟨He.fAd K ("MillError", some "__init__"), by obtain ⟨fd, F⟩ := c.t.d.def_ 19 (d := dd_low) rfl; exact low_ok (He.glo_ok X G (c.t.d.fact 15 (f := .glo "BadTime") rfl)) F (all_at c.more 13 rfl) (all_at c.more 14 rfl)⟩
  low_Held := ⟨He.fAd K ("MillError", some "__init__"), by obtain ⟨fd, F⟩ := c.t.d.def_ 19 (d := dd_low) rfl; exact low_ok (He.glo_ok X G (c.t.d.fact 16 (f := .glo "Held") rfl)) F (all_at c.more 15 rfl) (all_at c.more 14 rfl)⟩
  f_is_integer := c.t.d.def_ 0 (d := dd_is_integer) rfl
  f_is_count := c.t.d.def_ 1 (d := dd_is_count) rfl
  f__clock_at := c.t.d.def_ 2 (d := dd__clock_at) rfl
  f__law_pot := c.t.d.def_ 3 (d := dd__law_pot) rfl
  f__law_take := c.t.d.def_ 4 (d := dd__law_take) rfl
  f__law_of := c.t.d.def_ 5 (d := dd__law_of) rfl
  f__law_cells := c.t.d.def_ 6 (d := dd__law_cells) rfl
  f__law_heard := c.t.d.def_ 7 (d := dd__law_heard) rfl
  f__law_is_so_told := c.t.d.def_ 8 (d := dd__law_is_so_told) rfl
  f__law_set := c.t.d.def_ 9 (d := dd__law_set) rfl
  f__law_back := c.t.d.def_ 10 (d := dd__law_back) rfl
  f__law_ticked := c.t.d.def_ 11 (d := dd__law_ticked) rfl
  f__law_right := c.t.d.def_ 12 (d := dd__law_right) rfl
  f_law := c.t.d.def_ 13 (d := dd_law) rfl
  f_Clock_init_own := c.t.d.def_ 14 (d := dd_Clock_init_own) rfl
  f_Clock_eq_own := c.t.d.def_ 15 (d := dd_Clock_eq_own) rfl
  f_Clock_with_timer := c.t.d.def_ 16 (d := dd_Clock_with_timer) rfl
  f_Clock_without := c.t.d.def_ 17 (d := dd_Clock_without) rfl
  f_Clock_ticked := c.t.d.def_ 18 (d := dd_Clock_ticked) rfl
theorem run (w : World) : HandSHeadRun.RunEq R (PySem.W.view R.prog [21]) hk ob 20000 others w := by
  intro os
  kernel_rfl
end Pr
set_option Elab.async false
set_option linter.all false
set_option maxRecDepth 100000
set_option maxHeartbeats 2000000
namespace Pr
open PySem PySem.Spec PyProof.Rows L2 Mi
theorem b_take (cp call : CallX) : b__law_take cp call = takeBody 96469 641 10357 197 := rfl
theorem b_pot (cp call : CallX) : b__law_pot cp call = potBody5 1399 607 73039 8231 433 := rfl
theorem b_of (cp call : CallX) : b__law_of cp call = ofBody (fun i => dnX (call i)) 4 := rfl
theorem b_cells (cp call : CallX) : b__law_cells cp call = cellsBody := rfl
/-- what a call comes to, nothing raised -/
abbrev callD (j i : Nat) : List D → Mem → Mi.R D := dnX (callN j i)
theorem c_take {j : Nat} {M : Mem} {p k : Nat} {u : Int} (h : PotR M p k) (hk : k < 1000000000) (hu : 0 < u) (hu2 : u < 18446744073709551616) : Ok (callD (j + 1) 4 [.ref p, .int u] M) fun d M' => ∃ r : Int, d = .int r ∧ 0 ≤ r ∧ r < u ∧ PotR M' p (k + 1) ∧ Kp [p] M M' := by
  show Ok (dnX (runX 5 (b__law_take (callP j) (callN j))) [.ref p, .int u] M) _
  rw [b_take]
  exact dn_run (takeR_spec (by decide) (by decide) (by decide) (by decide) h hk hu hu2)
theorem c_of {j : Nat} {M : Mem} {p k : Nat} {d : D} {xs : List D} (h : PotR M p k) (hk : k < 1000000000) (hd : itemsOf M d = some xs) (hd2 : ∀ M', Kp [p] M M' → itemsOf M' d = some xs) (h0 : 0 < xs.length) (h1 : xs.length < 18446744073709551616) :
    Ok (callD (j + 2) 5 [.ref p, d] M) fun x M' => x ∈ xs ∧ PotR M' p (k + 1) ∧ Kp [p] M M' := by
  show Ok (dnX (runX 2 (b__law_of (callP (j + 1)) (callN (j + 1)))) [.ref p, d] M) _
  rw [b_of]
  exact dn_run (ofR_spec (fun h hk hu hu2 => c_take h hk hu hu2) h hk hd hd2 h0 h1)
theorem c_pot {j : Nat} {M : Mem} {s : Nat} {ns : List Int} {i : Nat} (h : M[s]? = some (.flst (ns.map .int))) (hi : i < 1000) : Ok (callD (j + 1) 3 [.ref s, .int i] M) fun d M' => ∃ p, d = .ref p ∧ M.length ≤ p ∧ PotR M' p 0 ∧ Kp [] M M' := by
  show Ok (dnX (runX 5 (b__law_pot (callP j) (callN j))) [.ref s, .int i] M) _
  rw [b_pot]
  exact dn_run (pot5_spec (by decide) (by decide) (by decide) h hi)
theorem c_cells {j : Nat} {M : Mem} {s : Nat} {ns : List Int} {most : Nat} (h : M[s]? = some (.flst (ns.map .int))) (hm : most < 1000) (hn : ns.length < 1000) :
    Ok (callD (j + 1) 6 [.ref s, .int most] M) fun d M' => d = .ref M.length ∧ M' = M ++ [.lst (rgD 0 (max 1 (min most ns.length)))] := by
  show Ok (dnX (runX 2 (b__law_cells (callP j) (callN j))) [.ref s, .int most] M) _
  rw [b_cells]
  exact dn_run (cells_spec h hm hn)
/-! the program's defs -/
theorem p_is_integer {j : Nat} {M : Mem} {t : Int} : callP (j + 1) 0 [.int t] M = some (.val (.bl true), M) := rfl
theorem p_is_count {j : Nat} {M : Mem} {t : Int} (h : 0 ≤ t) : callP (j + 2) 1 [.int t, .int 0] M = some (.val (.bl true), M) := by
  have e : dnX (callP (j + 1) 0) [.int t] M = some (.bl true, M) := rfl
  show runX 2 (b_is_count (callP (j + 1))) [.int t, .int 0] M = _
  simp [runX, b_is_count, startD, sRet, eAnd, bOf, eCall, eCons, eNil, eVar, bindO, e, eBin, oGe, oI0, h]
theorem nt : ¬ Str.ofString "now" = Str.ofString "timers" := by decide +kernel
theorem tn : ¬ Str.ofString "timers" = Str.ofString "now" := by decide +kernel
def clk (now : Int) (ts : List D) : MO := .ins 22 [("now", .int now), ("timers", .tup ts)]
theorem p_init {j : Nat} {M : Mem} : callP (j + 1) 14 [.ref M.length] (M ++ [.ins 22 []]) = some (.val .non, M ++ [clk 0 []]) := by
  show runX 1 (b_Clock_init_own (callP j)) [.ref M.length] (M ++ [.ins 22 []]) = _
  simp [runX, b_Clock_init_own, startD, sSeq, sFldS, eC, eVar, eTup, eNil, bindO, ct, putFD, clk, nt, tn]
theorem p_clock {j : Nat} {M : Mem} : fMake 22 (callP (j + 1) 14) [] M = some (.ref M.length, M ++ [clk 0 []]) := by
  unfold fMake
  rw [p_init]
theorem p_clock_at {j : Nat} {M : Mem} {now : Int} {ts : List D} : callP (j + 2) 2 [.int now, .tup ts] M = some (.val (.ref M.length), M ++ [clk now ts]) := by
  show runX 3 (b__clock_at (callP (j + 1))) [.int now, .tup ts] M = _
  simp [runX, b__clock_at, startD, sSeq, sSet, sRet, sFldS, eCall, eCons, eNil, eVar, bindO, p_clock, ct, putFD, clk, nt, tn]
theorem n_clock {j : Nat} {M : Mem} : fMake 22 (callN (j + 1) 14) [] M = some (.ref M.length, M ++ [clk 0 []]) := p_clock
/-! ### a timer's row -/
structure Tm where
  k : Nat
  m : Int
  t : Nat
  s : Nat
  deriving DecidableEq
def keyP : Nat → PyData
  | 0 => .tuple [.str "ref", .tuple [], .int 1]
  | 1 => .tuple [.str "ref", .tuple [.int 1], .int 1]
  | 2 => .tuple [.str "wait", .tuple [], .int 0]
  | 3 => .tuple [.str "wait", .tuple [], .int 1]
  | 4 => .tuple [.str "ref", .tuple [], .int 2]
  | 5 => .str "any"
  | 6 => .int 7
  | _ => .str "none"
def keyD : Nat → D
  | 0 => .tup [.str "ref", .tup [], .int 1]
  | 1 => .tup [.str "ref", .tup [.int 1], .int 1]
  | 2 => .tup [.str "wait", .tup [], .int 0]
  | 3 => .tup [.str "wait", .tup [], .int 1]
  | 4 => .tup [.str "ref", .tup [], .int 2]
  | 5 => .str "any"
  | 6 => .int 7
  | _ => .str "none"
def toP : Nat → PyData
  | 0 => .tuple []
  | 1 => .tuple [.int 1]
  | _ => .tuple [.int 2, .int 1]
def toD : Nat → D
  | 0 => .tup []
  | 1 => .tup [.int 1]
  | _ => .tup [.int 2, .int 1]
def sgP : Nat → PyData
  | 0 => .tuple [.str "over", .int 0]
  | 1 => .tuple [.str "letter", .str "late"]
  | _ => .tuple [.str "letter", .tuple [.str "list"]]
def sgD : Nat → D
  | 0 => .tup [.str "over", .int 0]
  | 1 => .tup [.str "letter", .str "late"]
  | _ => .tup [.str "letter", .tup [.str "list"]]
def rowD (r : Tm) : D := .tup [keyD r.k, .int r.m, toD r.t, sgD r.s]
def rowP (r : Tm) : PyData := .tuple [keyP r.k, .int r.m, toP r.t, sgP r.s]
theorem r0_one {n : Nat} {a : D} {p : PyData} (x : Reads0 n a p) : Reads0 (n + 3) (.tup [a]) (.tuple [p]) := r0_tup (ds := [a]) (ps := [p]) ⟨x, trivial⟩
theorem r0_nil : Reads0 3 (.tup []) (.tuple []) := r0_tup (n := 1) (ds := []) (ps := []) trivial
theorem r0_three {n : Nat} {a b c : D} {p q r : PyData} (x : Reads0 n a p) (y : Reads0 n b q) (z : Reads0 n c r) : Reads0 (n + 5) (.tup [a, b, c]) (.tuple [p, q, r]) := r0_tup (ds := [a, b, c]) (ps := [p, q, r]) ⟨x, y, z, trivial⟩
theorem r0_four {n : Nat} {a b c d : D} {p q r s : PyData} (x : Reads0 n a p) (y : Reads0 n b q) (z : Reads0 n c r) (u : Reads0 n d s) : Reads0 (n + 6) (.tup [a, b, c, d]) (.tuple [p, q, r, s]) := r0_tup (ds := [a, b, c, d]) (ps := [p, q, r, s]) ⟨x, y, z, u, trivial⟩
theorem key_reads (k : Nat) : Reads0 20 (keyD k) (keyP k) := by
  match k with
  | 0 => exact (r0_three (n := 3) (r0_str.up (by decide)) r0_nil (r0_int.up (by decide))).up (by decide)
  | 1 => exact (r0_three (n := 4) (r0_str.up (by decide)) (r0_one r0_int) (r0_int.up (by decide))).up (by decide)
  | 2 => exact (r0_three (n := 3) (r0_str.up (by decide)) r0_nil (r0_int.up (by decide))).up (by decide)
  | 3 => exact (r0_three (n := 3) (r0_str.up (by decide)) r0_nil (r0_int.up (by decide))).up (by decide)
  | 4 => exact (r0_three (n := 3) (r0_str.up (by decide)) r0_nil (r0_int.up (by decide))).up (by decide)
  | 5 => exact r0_str.up (by decide)
  | 6 => exact r0_int.up (by decide)
  | n + 7 => exact r0_str.up (by decide)
theorem to_reads (k : Nat) : Reads0 20 (toD k) (toP k) := by
  match k with
  | 0 => exact r0_nil.up (by decide)
  | 1 => exact (r0_one r0_int).up (by decide)
  | n + 2 => exact (r0_two r0_int r0_int).up (by decide)
theorem sg_reads (k : Nat) : Reads0 20 (sgD k) (sgP k) := by
  match k with
  | 0 => exact (r0_two r0_str r0_int).up (by decide)
  | 1 => exact (r0_two r0_str r0_str).up (by decide)
  | n + 2 => exact (r0_two (n := 4) (r0_str.up (by decide)) (r0_one r0_str)).up (by decide)
theorem row_reads (r : Tm) : Reads0 30 (rowD r) (rowP r) := (r0_four (n := 20) (key_reads _) (r0_int.up (by decide)) (to_reads _) (sg_reads _)).up (by decide)
theorem rows_reads {l : List Tm} (hl : l.length ≤ 100) : Reads0 200 (.tup (l.map rowD)) (.tuple (l.map rowP)) := by
  have := r0_tup (rl_map (f := rowD) (g := rowP) (l := l) fun r hr => row_reads r)
  rw [List.length_map] at this
  exact this.up (by omega)
def kinds8 : List Nat := [0, 1, 2, 3, 4, 5, 6, 7]
def kinds3 : List Nat := [0, 1, 2]
theorem key_fine' : ∀ k ∈ kinds8, (keyP k).canLay0 = true ∧ (keyP k).depth ≤ 2 ∧ (keyP k).weight ≤ 40 ∧ (keyP k).showable = true ∧ (keyP k).intsShort 13 = true ∧ pln (keyP k) = true := by decide +kernel
theorem to_fine' : ∀ k ∈ kinds3, (toP k).canLay0 = true ∧ (toP k).depth ≤ 2 ∧ (toP k).weight ≤ 40 ∧ (toP k).showable = true ∧ (toP k).intsShort 13 = true ∧ pln (toP k) = true := by decide +kernel
theorem sg_fine' : ∀ k ∈ kinds3, (sgP k).canLay0 = true ∧ (sgP k).depth ≤ 2 ∧ (sgP k).weight ≤ 40 ∧ (sgP k).showable = true ∧ (sgP k).intsShort 13 = true ∧ pln (sgP k) = true := by decide +kernel
theorem key_fine {k : Nat} (h : k ∈ kinds8) : Fine 40 2 (keyP k) := let ⟨a, b, c, d, e, _⟩ := key_fine' k h; ⟨a, b, c, d, e⟩
theorem to_fine {k : Nat} (h : k ∈ kinds3) : Fine 40 2 (toP k) := let ⟨a, b, c, d, e, _⟩ := to_fine' k h; ⟨a, b, c, d, e⟩
theorem sg_fine {k : Nat} (h : k ∈ kinds3) : Fine 40 2 (sgP k) := let ⟨a, b, c, d, e, _⟩ := sg_fine' k h; ⟨a, b, c, d, e⟩
theorem key_eqv : ∀ a ∈ kinds8, ∀ b ∈ kinds8, PyData.eqv (keyP a) (keyP b) = decide (a = b) := by decide +kernel
/-- times that can be shown -/
def Sm (i : Int) : Prop := -10000000000 < i ∧ i < 10000000000
theorem int_len {i : Int} (h : Sm i) : (cl (Str.ofString (toString i))).length ≤ 13 := by
  have nat : ∀ m : Nat, m < 10 ^ 10 → m.repr.toList.length ≤ 10 := fun m hm => by
    rw [String.length_toList]
    exact (Nat.length_repr_le_iff (by decide)).mpr hm
  unfold Sm at h
  rw [cl_lit, List.length_map, int_repr]
  cases i with
  | ofNat m =>
    have := nat m (by simp only [Int.ofNat_eq_natCast] at h; omega)
    show m.repr.toList.length ≤ 13
    omega
  | negSucc m =>
    have := nat m.succ (by omega)
    have e : (Int.negSucc m).repr = "-" ++ m.succ.repr := rfl
    rw [e, String.toList_append, List.length_append]
    have : ("-" : String).toList.length = 1 := rfl
    omega
theorem int_fine {i : Int} (h : Sm i) : Fine 64 0 (.int i) := by
  refine ⟨by simp [PyData.canLay0], by simp [PyData.depth], ?_, ?_, ?_⟩
  · simp only [PyData.weight]
    have : i.natAbs.log2 < 63 := log_lt (by unfold Sm at h; omega) (by decide)
    split <;> omega
  · simp only [PyData.showable, decide_eq_true_eq]
    exact log_lt (Nat.lt_of_lt_of_le (show i.natAbs < 2 ^ 64 by unfold Sm at h; omega) (Nat.pow_le_pow_right (by decide) (by decide))) (by decide)
  · simp only [PyData.intsShort, PyData.shown]
    exact decide_eq_true (int_len h)
structure TmOk (r : Tm) : Prop where
  k : r.k ∈ kinds8
  m : Sm r.m
  t : r.t ∈ kinds3
  s : r.s ∈ kinds3
theorem row_fine {r : Tm} (h : TmOk r) : Fine 200 3 (rowP r) := (Fine.tup (.cons (key_fine h.k) (.cons ((int_fine h.m).up (Nat.le_refl 64) (by decide)) (.cons (to_fine h.t) (.cons (sg_fine h.s) (.nil (w := 0))))))).up (by decide) (by decide)
theorem row_pln {r : Tm} (h : TmOk r) : pln (rowP r) = true := by
  have h1 := (key_fine' _ h.k).2.2.2.2.2
  have h2 := (to_fine' _ h.t).2.2.2.2.2
  have h3 := (sg_fine' _ h.s).2.2.2.2.2
  simp [rowP, pln, plnAll, h1, h2, h3]
/-- the timers of a clock, as the lines tell of them -/
structure Tms (l : List Tm) : Prop where
  ok : ∀ r ∈ l, TmOk r
  len : l.length ≤ 40
  nd : (l.map (·.k)).Nodup
def tmsD (l : List Tm) : D := .tup (l.map rowD)
def tmsP (l : List Tm) : PyData := .tuple (l.map rowP)
theorem tms_fine {l : List Tm} (h : Tms l) : Fine 9000 4 (tmsP l) := by
  have := FineL.map (g := rowP) (l := l) fun r hr => row_fine (h.ok r hr)
  exact (Fine.tup this).up (by have := h.len; omega) (by decide)
theorem tms_repr {l : List Tm} {M : Mem} (h : Tms l) : fRepr [tmsD l] M = some (.str (tmsP l).shown, M) := repr_plain (rows_reads (by have := h.len; omega)) (by decide) (tms_fine h) (by decide) (by decide)
theorem tms_list {l : List Tm} {M : Mem} {n : Nat} (h : M[n]? = some (.lst (l.map rowD))) : fTuple [.ref n] M = some (tmsD l, M) := by
  have e : itemsOf M (.ref n) = some (l.map rowD) := lstAt_of h
  show (match itemsOf M (.ref n) with
    | some xs => some (D.tup xs, M)
    | none => none) = _
  rw [e]
  rfl
theorem bnt : (Str.ofString "timers" == Str.ofString "now") = false := by decide +kernel
theorem clk_now {now : Int} {ts : List D} : List.lookup (Str.ofString "now") [(Str.ofString "now", D.int now), (Str.ofString "timers", D.tup ts)] = some (.int now) := rfl
theorem clk_tms {now : Int} {ts : List D} : List.lookup (Str.ofString "timers") [(Str.ofString "now", D.int now), (Str.ofString "timers", D.tup ts)] = some (.tup ts) := by
  rw [List.lookup_cons, bnt]; rfl
theorem fld_now {c : Nat} {now : Int} {ts : List D} {M : Mem} {ρ : Mi.Loc} {ev : Ev} (e : ev ρ M = some (.ref c, M)) (hc : M[c]? = some (clk now ts)) : eFld ct "now" ev ρ M = some (.int now, M) := by
  unfold eFld
  rw [e]
  simp [bindO, hc, clk, ct, clk_now]
theorem fld_tms {c : Nat} {now : Int} {ts : List D} {M : Mem} {ρ : Mi.Loc} {ev : Ev} (e : ev ρ M = some (.ref c, M)) (hc : M[c]? = some (clk now ts)) : eFld ct "timers" ev ρ M = some (.tup ts, M) := by
  unfold eFld
  rw [e]
  simp [bindO, hc, clk, ct, clk_tms]
theorem eqD_int {M : Mem} {a b : Int} : eqD M (.int a) (.int b) = some (decide (a = b)) := by
  rw [eq_plain r0_int r0_int (by decide) (by decide) (by simp [SeqAt.shaped, PyData.canLay0, PyData.depth]) (by simp [SeqAt.shaped, PyData.canLay0, PyData.depth])]
  simp only [PyData.eqv]
  congr 1
theorem told {j : Nat} {M : Mem} {c ln : Nat} {now : Int} {l : List Tm} (hc : M[c]? = some (clk now (l.map rowD))) (hl : M[ln]? = some (.lst (l.map rowD))) (h : Tms l) : callD (j + 1) 8 [.ref c, .int now, .ref ln] M = some (.bl true, M) := by
  show dnX (runX 3 (b__law_is_so_told (callP j) (callN j))) [.ref c, .int now, .ref ln] M = _
  have e := tms_repr (M := M) h
  have e2 := tms_list (M := M) hl
  unfold tmsD at e e2
  have f1 := fld_now (ρ := [some (.ref c), some (.int now), some (.ref ln)]) (ev := eVar 0) rfl hc
  have f2 := fld_tms (ρ := [some (.ref c), some (.int now), some (.ref ln)]) (ev := eVar 0) rfl hc
  simp [dnX, runX, b__law_is_so_told, startD, sRet, eAnd, bOf, eCall, eCons, eNil, eVar, bindO, eBin, f1, f2, oEq, eqD_int, e, e2]
theorem to_eqv : ∀ a ∈ kinds3, ∀ b ∈ kinds3, PyData.eqv (toP a) (toP b) = decide (a = b) := by decide +kernel
theorem sg_eqv : ∀ a ∈ kinds3, ∀ b ∈ kinds3, PyData.eqv (sgP a) (sgP b) = decide (a = b) := by decide +kernel
theorem row_eqv {r q : Tm} (h : TmOk r) (h' : TmOk q) : PyData.eqv (rowP r) (rowP q) = decide (r = q) := by
  unfold rowP
  simp only [PyData.eqv, PyData.eqvAll, key_eqv _ h.k _ h'.k, to_eqv _ h.t _ h'.t, sg_eqv _ h.s _ h'.s]
  obtain ⟨a, b, c, d⟩ := r
  obtain ⟨a', b', c', d'⟩ := q
  rw [Bool.eq_iff_iff]
  simp
theorem tms_eqv : ∀ {l q : List Tm}, (∀ r ∈ l, TmOk r) → (∀ r ∈ q, TmOk r) → PyData.eqvAll (l.map rowP) (q.map rowP) = decide (l = q)
  | [], [], _, _ => by simp [PyData.eqvAll]
  | [], y :: q, _, _ => by simp [PyData.eqvAll]
  | x :: l, [], _, _ => by simp [PyData.eqvAll]
  | x :: l, y :: q, h, h' => by
    rw [List.map_cons, List.map_cons, PyData.eqvAll, row_eqv (h x List.mem_cons_self) (h' y List.mem_cons_self), tms_eqv (fun r hr => h r (List.mem_cons_of_mem _ hr)) (fun r hr => h' r (List.mem_cons_of_mem _ hr)), Bool.eq_iff_iff]
    simp
theorem eqD_tms {M : Mem} {l q : List Tm} (h : Tms l) (h' : Tms q) : eqD M (.tup (l.map rowD)) (.tup (q.map rowD)) = some (decide (l = q)) := by
  rw [eq_plain (rows_reads (by have := h.len; omega)) (rows_reads (by have := h'.len; omega)) (by decide) (by decide) ((tms_fine h).shaped (by decide)) ((tms_fine h').shaped (by decide)), PyData.eqv, tms_eqv h.ok h'.ok]
theorem p_eq {j : Nat} {M : Mem} {a b : Nat} {now now' : Int} {l q : List Tm} (ha : M[a]? = some (clk now (l.map rowD))) (hb : M[b]? = some (clk now' (q.map rowD))) (h : Tms l) (h' : Tms q) : callP (j + 1) 15 [.ref a, .ref b] M = some (.val (.bl (decide (now = now' ∧ l = q))), M) := by
  show runX 2 (b_Clock_eq_own (callP j)) [.ref a, .ref b] M = _
  have f1 := fld_now (ρ := [some (.ref a), some (.ref b)]) (ev := eVar 0) rfl ha
  have f2 := fld_tms (ρ := [some (.ref a), some (.ref b)]) (ev := eVar 0) rfl ha
  have f3 := fld_now (ρ := [some (.ref a), some (.ref b)]) (ev := eVar 1) rfl hb
  have f4 := fld_tms (ρ := [some (.ref a), some (.ref b)]) (ev := eVar 1) rfl hb
  have f5 : eIsC ct xc ty_Clock (eVar 1) [some (.ref a), some (.ref b)] M = some (.bl true, M) := by
    unfold clk at hb
    simp [eIsC, eVar, bindO, tyC, hb, okC, ct, ty_Clock]
  by_cases e : now = now'
  · simp [runX, b_Clock_eq_own, startD, sRet, eAnd, bOf, bindO, eBin, f1, f2, f3, f4, f5, oEq, eqD_int, eqD_tms h h', e]
  · simp [runX, b_Clock_eq_own, startD, sRet, eAnd, bOf, bindO, eBin, f1, f2, f3, f4, f5, oEq, eqD_int, eqD_tms h h', e]
theorem o_eq {j : Nat} {M : Mem} {a b : Nat} {now now' : Int} {l q : List Tm} (ha : M[a]? = some (clk now (l.map rowD))) (hb : M[b]? = some (clk now' (q.map rowD))) (h : Tms l) (h' : Tms q) : oEqO ct tab (callN (j + 1)) nf (.ref a) (.ref b) M = some (.bl (decide (now = now' ∧ l = q)), M) := by
  have e : callN (j + 1) 15 [.ref a, .ref b] M = some (.val (.bl (decide (now = now' ∧ l = q))), M) := p_eq (j := j) ha hb h h'
  unfold clk at ha hb
  unfold oEqO
  simp only [ha]
  have e1 : ct.me 22 "__eq__" = some 15 := by decide +kernel
  have e2 : tab[15]? = some ((Str.ofString "__eq__"), P_Clock_eq_own) := rfl
  have e3 : tyE M (.ref b) = some (.inr 22) := by unfold tyE; simp only [hb]
  have e4 : nf 22 (.inr 22) = true := rfl
  simp only [e1, e2, e3, e4, e]
  rfl
theorem o_ne {j : Nat} {M : Mem} {a b : Nat} {now now' : Int} {l q : List Tm} (ha : M[a]? = some (clk now (l.map rowD))) (hb : M[b]? = some (clk now' (q.map rowD))) (h : Tms l) (h' : Tms q) : oNeO ct tab (callN (j + 1)) ne (.ref a) (.ref b) M = some (.bl (!decide (now = now' ∧ l = q)), M) := by
  have e : callN (j + 1) 15 [.ref a, .ref b] M = some (.val (.bl (decide (now = now' ∧ l = q))), M) := p_eq (j := j) ha hb h h'
  unfold clk at ha hb
  unfold oNeO
  simp only [ha, hb]
  have e1 : ct.me 22 "__eq__" = some 15 := by decide +kernel
  have e2 : tab[15]? = some ((Str.ofString "__eq__"), P_Clock_eq_own) := rfl
  have e4 : ne 22 = true := rfl
  simp only [e1, e2, e4, e]
  rfl
theorem atk {k m : D} {r : List D} : atD (k :: m :: r) 1 = some m := atr1
theorem key_ix {r : Tm} {ev1 ev2 : Ev} {ρ : Mi.Loc} {M : Mem} (e1 : ev1 ρ M = some (rowD r, M)) (e2 : ev2 ρ M = some (.int 0, M)) : eBin oIx ev1 ev2 ρ M = some (keyD r.k, M) := by
  unfold eBin
  rw [e1]
  simp only [bindO, e2]
  show (atD [keyD r.k, .int r.m, toD r.t, sgD r.s] 0).map (fun d => (d, M)) = _
  rw [atr0]; rfl
theorem eqD_key {M : Mem} {a b : Nat} (ha : a ∈ kinds8) (hb : b ∈ kinds8) : eqD M (keyD a) (keyD b) = some (decide (a = b)) := by
  rw [eq_plain (key_reads a) (key_reads b) (by decide) (by decide) ((key_fine ha).shaped (by decide)) ((key_fine hb).shaped (by decide)), key_eqv a ha b hb]
theorem oEq_key {M : Mem} {a b : Nat} (ha : a ∈ kinds8) (hb : b ∈ kinds8) : oEq (keyD a) (keyD b) M = some (.bl (decide (a = b)), M) := by
  have e := eqD_key (M := M) ha hb
  unfold oEq
  split
  · rename_i x y e1 e2
    rw [e1, e2] at e
    have h : eqD M (.str x) (.str y) = some (decide (x = y)) := by
      rw [eq_plain r0_str r0_str (by decide) (by decide) (by
        simp only [kinds8, List.mem_cons, List.not_mem_nil, or_false] at ha
        rcases ha with rfl | rfl | rfl | rfl | rfl | rfl | rfl | rfl <;> simp only [keyD] at e1 <;> first | (cases e1; decide +kernel) | cases e1) (by
        simp only [kinds8, List.mem_cons, List.not_mem_nil, or_false] at hb
        rcases hb with rfl | rfl | rfl | rfl | rfl | rfl | rfl | rfl <;> simp only [keyD] at e2 <;> first | (cases e2; decide +kernel) | cases e2)]
      simp only [PyData.eqv]
      congr 1
    rw [h] at e
    rw [Option.some.inj e]
  · rw [e]; rfl
/-- the search for a key among the timers: what is raised or nothing -/
theorem for_key {M : Mem} {c k : Nat} {now : Int} {l : List Tm} {x2 x3 x4 x5 : Option D} (hc : M[c]? = some (clk now (l.map rowD))) (h : Tms l) (hk : k ∈ kinds8) :
    Ok (sFor (iSq (eFld ct "timers" (eVar 0))) (gN 5) (sIf (bOf (eBin oEq (eBin oIx (eVar 5) (eC (.int 0))) (eVar 1))) (sRaise 21 (eVar 1)) sNil) [some (.ref c), some (keyD k), x2, x3, x4, x5] M) fun o M' => M' = M ∧
      ((k ∈ l.map (·.k) ∧ ∃ ρ, o = .exc ρ 21 (keyD k)) ∨ (k ∉ l.map (·.k) ∧ ∃ x, o = .next [some (.ref c), some (keyD k), x2, x3, x4, x])) := by
  have f2 := fld_tms (ρ := [some (.ref c), some (keyD k), x2, x3, x4, x5]) (ev := eVar 0) rfl hc
  refine ok_for l.length (fun i ρ M' => M' = M ∧ (∃ x, ρ = [some (.ref c), some (keyD k), x2, x3, x4, x]) ∧ ∀ r ∈ l.take i, r.k ≠ k) ⟨fun _ => some (l.map rowD), M, by unfold iSq; rw [f2]; rfl, ⟨rfl, ⟨_, rfl⟩, fun r hr => by simp at hr⟩, ⟨_, rfl, by simp⟩, ?_⟩ ?_
  · rintro i _ M1 hi ⟨hM, ⟨x, rfl⟩, hno⟩
    rw [hM]
    refine ⟨l.map rowD, rfl, by simp, fun d hd => ?_⟩
    obtain ⟨r, hr, rfl⟩ := by rw [List.getElem?_map, Option.map_eq_some_iff] at hd; exact hd
    have hm := List.mem_of_getElem? hr
    have ht : l.take (i + 1) = l.take i ++ [r] := by rw [List.take_add_one, hr]; rfl
    refine ⟨[some (.ref c), some (keyD k), x2, x3, x4, some (rowD r)], rfl, ?_⟩
    have e1 := key_ix (r := r) (ρ := [some (.ref c), some (keyD k), x2, x3, x4, some (rowD r)]) (M := M) (ev1 := eVar 5) (ev2 := eC (.int 0)) rfl rfl
    have e2 : bOf (eBin oEq (eBin oIx (eVar 5) (eC (.int 0))) (eVar 1)) [some (.ref c), some (keyD k), x2, x3, x4, some (rowD r)] M = some (decide (r.k = k), M) := by
      unfold bOf
      rw [show eBin oEq (eBin oIx (eVar 5) (eC (.int 0))) (eVar 1) [some (.ref c), some (keyD k), x2, x3, x4, some (rowD r)] M = some (.bl (decide (r.k = k)), M) from by
        show bindO (eBin oIx (eVar 5) (eC (.int 0)) _ M) _ = _
        rw [e1]
        exact oEq_key (h.ok r hm).k hk]
      rfl
    by_cases hq : r.k = k
    · have e3 : (decide (r.k = k)) = true := decide_eq_true hq
      rw [e3] at e2
      have : k ∈ l.map (·.k) := List.mem_map.mpr ⟨r, hm, hq⟩
      unfold sIf
      rw [ok_bind, e2]
      refine ok_some.mpr ?_
      simp [sRaise, eVar, bindO, Mi.Turn]
      exact ⟨r, hm, hq⟩
    · have e3 : (decide (r.k = k)) = false := decide_eq_false hq
      rw [e3] at e2
      unfold sIf
      rw [ok_bind, e2]
      refine ok_some.mpr ?_
      simp [sNil, Mi.Turn]
      intro a ha
      rw [ht, List.mem_append, List.mem_singleton] at ha
      rcases ha with ha | ha
      · exact hno _ ha
      · rw [ha]; exact hq
  · rintro _ _ ⟨rfl, ⟨x, rfl⟩, hno⟩
    rw [List.take_length] at hno
    refine ⟨rfl, .inr ⟨fun hx => ?_, x, rfl⟩⟩
    obtain ⟨r, hr, e⟩ := List.mem_map.mp hx
    exact hno r hr e
theorem sz_small {n : Nat} (h : n ≤ 1000) : n ≤ sizeLine := by rw [sizeLine_eq]; omega
theorem p_with {j : Nat} {M : Mem} {c k t s : Nat} {now time : Int} {l : List Tm} (hc : M[c]? = some (clk now (l.map rowD))) (h : Tms l) (hk : k ∈ kinds8) (ht : 0 ≤ time) :
    callP (j + 4) 16 [.ref c, keyD k, .int time, toD t, sgD s] M = if k ∈ l.map (·.k) then some (.exc 21 (keyD k), M) else if time = 0 then some (.val (.tup [.ref c, .tup [.tup [toD t, sgD s]]]), M) else some (.val (.tup [.ref M.length, .tup []]), M ++ [clk now ((l ++ [(Tm.mk k (now + time) t s)]).map rowD)]) := by
  show runX 6 (b_Clock_with_timer (callP (j + 3))) [.ref c, keyD k, .int time, toD t, sgD s] M = _
  have g1 : (sIf (bNot (bOf (eCall (dnX (callP (j + 3) 1)) (eCons (eVar 2) (eCons (eC (.int 0)) eNil))))) (sRaise 20 (eVar 2)) sNil) [some (.ref c), some (keyD k), some (.int time), some (toD t), some (sgD s), none] M = some (.next [some (.ref c), some (keyD k), some (.int time), some (toD t), some (sgD s), none], M) := by
    have e : dnX (callP (j + 3) 1) [.int time, .int 0] M = some (.bl true, M) := by
      unfold dnX
      rw [p_is_count (j := j + 1) ht]
    simp [sIf, bNot, bOf, eCall, eCons, eNil, eVar, eC, bindO, e, sNil]
  obtain ⟨o, M', e, hM, ho⟩ := for_key (x2 := some (.int time)) (x3 := some (toD t)) (x4 := some (sgD s)) (x5 := none) hc h hk
  subst hM
  have st : startD 6 [.ref c, keyD k, .int time, toD t, sgD s] = [some (.ref c), some (keyD k), some (.int time), some (toD t), some (sgD s), none] := rfl
  unfold runX b_Clock_with_timer
  rw [st]
  rcases ho with ⟨hin, ρ, rfl⟩ | ⟨hin, x, rfl⟩
  · rw [if_pos hin]
    unfold sSeq
    rw [g1]
    simp only [bindO, e]
  · rw [if_neg hin]
    unfold sSeq
    rw [g1]
    simp only [bindO, e]
    have f1 := fld_now (ρ := [some (.ref c), some (keyD k), some (.int time), some (toD t), some (sgD s), x]) (ev := eVar 0) rfl hc
    have f2 := fld_tms (ρ := [some (.ref c), some (keyD k), some (.int time), some (toD t), some (sgD s), x]) (ev := eVar 0) rfl hc
    have z1 := sz_small (n := 1) (by decide)
    have z2 := sz_small (n := 2) (by decide)
    have z4 := sz_small (n := 4) (by decide)
    have z0 := sz_small (n := 0) (by decide)
    have zl := sz_small (n := l.length + 1) (by have := h.len; omega)
    by_cases h0 : time = 0
    · rw [if_pos h0]
      simp [sIf, bOf, eBin, eVar, eC, bindO, oEq, eqD_int, h0, sRet, eTup, eCons, eNil, z1, z2]
    · rw [if_neg h0]
      have e3 : ∀ ts, dnX (callP (j + 3) 2) [.int now, .tup ts] M' = some (.ref M'.length, M' ++ [clk now ts]) := fun ts => by
        unfold dnX
        rw [p_clock_at]
      simp [sIf, bOf, eBin, eVar, eC, bindO, oEq, eqD_int, h0, sRet, eTup, eCons, eConsS, eNil, z0, z1, z2, z4, zl, f1, f2, eCall, oAdd, sNil, itemsOf, e3, rowD]
def sigD (r : Tm) : D := .tup [toD r.t, sgD r.s]
abbrev dueD (t : Int) (l : List Tm) : List D := (l.filter fun r => decide (r.m = t)).map sigD
abbrev rest (t : Int) (l : List Tm) : List Tm := l.filter fun r => !decide (r.m = t)
theorem mom_ix {r : Tm} {ev1 ev2 : Ev} {ρ : Mi.Loc} {M : Mem} (e1 : ev1 ρ M = some (rowD r, M)) (e2 : ev2 ρ M = some (.int 1, M)) : eBin oIx ev1 ev2 ρ M = some (.int r.m, M) := by
  unfold eBin
  rw [e1]
  simp only [bindO, e2]
  show (atD [keyD r.k, .int r.m, toD r.t, sgD r.s] 1).map (fun d => (d, M)) = _
  rw [atr1]; rfl
theorem oEq_int {M : Mem} {a b : Int} : oEq (.int a) (.int b) M = some (.bl (decide (a = b)), M) := by
  show (eqD M (.int a) (.int b)).map (fun b => (Mi.D.bl b, M)) = _
  rw [eqD_int]; rfl
theorem oNe_int {M : Mem} {a b : Int} : oNe (.int a) (.int b) M = some (.bl (!decide (a = b)), M) := by
  show (eqD M (.int a) (.int b)).map (fun b => (Mi.D.bl (!b), M)) = _
  rw [eqD_int]; rfl
theorem p_ticked {j : Nat} {M : Mem} {c : Nat} {now : Int} {l : List Tm} (hc : M[c]? = some (clk now (l.map rowD))) (h : Tms l) :
    callP (j + 4) 18 [.ref c] M = some (.val (.tup [.ref (M.length + 2), .tup (dueD (now + 1) l)]), M ++ [.lst (dueD (now + 1) l), .lst ((rest (now + 1) l).map rowD), clk (now + 1) ((rest (now + 1) l).map rowD)]) := by
  show runX 8 (b_Clock_ticked (callP (j + 3))) [.ref c] M = _
  have hlen := h.len
  have zl := sz_small (n := l.length) (by omega)
  have z2 := sz_small (n := 2) (by decide)
  have g1 : (sSet 1 (eBin oAdd (eFld ct "now" (eVar 0)) (eC (.int 1)))) [some (.ref c), none, none, none, none, none, none, none] M = some (.next [some (.ref c), some (.int (now + 1)), none, none, none, none, none, none], M) := by
    have f1 := fld_now (ρ := [some (.ref c), none, none, none, none, none, none, none]) (ev := eVar 0) rfl hc
    simp [sSet, eBin, eC, bindO, f1, oAdd]
  have f2 := fld_tms (ρ := [some (.ref c), some (.int (now + 1)), none, none, none, none, none, none]) (ev := eVar 0) rfl hc
  have g2 : eLc (iSq (eFld ct "timers" (eVar 0))) [3, 4, 5, 6] (gT (gsCons (gN 3) (gsCons (gN 4) (gsCons (gN 5) (gsCons (gN 6) gsNil))))) (bOf (eBin oEq (eVar 4) (eVar 1))) (eTup (eCons (eVar 5) (eCons (eVar 6) eNil))) [some (.ref c), some (.int (now + 1)), none, none, none, none, none, none] M = some (.ref M.length, M ++ [.lst (dueD (now + 1) l)]) := by
    refine lc_map (get := fun _ => some (l.map rowD)) l rowD (fun r => decide (r.m = now + 1)) sigD (by unfold iSq; rw [f2]; rfl) zl (fun _ => rfl) fun r hr => ⟨[some (.ref c), some (.int (now + 1)), none, some (keyD r.k), some (.int r.m), some (toD r.t), some (sgD r.s), none], rfl, fun acc => ⟨?_, fun _ => ?_⟩⟩
    · simp [bOf, eBin, eVar, bindO, oEq_int]
    · simp [eTup, eCons, eNil, eVar, bindO, z2, sigD]
  obtain ⟨M2, hM2⟩ : ∃ M2, M2 = M ++ [MO.lst (dueD (now + 1) l)] := ⟨_, rfl⟩
  have hc1 : M2[c]? = some (clk now (l.map rowD)) := by rw [hM2]; exact append_get hc
  have hd1 : M2[M.length]? = some (.lst (dueD (now + 1) l)) := by rw [hM2]; exact push_last
  have hl2 : M2.length = M.length + 1 := by rw [hM2, List.length_append]; rfl
  rw [← hM2] at g2
  have f3 := fld_tms (ρ := [some (.ref c), some (.int (now + 1)), some (.ref M.length), none, none, none, none, none]) (ev := eVar 0) rfl hc1
  have g3 : eLc (iSq (eFld ct "timers" (eVar 0))) [7] (gN 7) (bOf (eBin oNe (eBin oIx (eVar 7) (eC (.int 1))) (eVar 1))) (eVar 7) [some (.ref c), some (.int (now + 1)), some (.ref M.length), none, none, none, none, none] M2 = some (.ref M2.length, M2 ++ [MO.lst ((rest (now + 1) l).map rowD)]) := by
    refine lc_map (get := fun _ => some (l.map rowD)) (M1 := M2) l rowD (fun r => !decide (r.m = now + 1)) rowD (by unfold iSq; rw [f3]; rfl) zl (fun _ => rfl) fun r hr => ⟨[some (.ref c), some (.int (now + 1)), some (.ref M.length), none, none, none, none, some (rowD r)], rfl, fun acc => ⟨?_, fun _ => rfl⟩⟩
    have e1 := mom_ix (r := r) (ρ := [some (.ref c), some (.int (now + 1)), some (.ref M.length), none, none, none, none, some (rowD r)]) (M := M2 ++ [MO.lst acc]) (ev1 := eVar 7) (ev2 := eC (.int 1)) rfl rfl
    have e2 : eBin oNe (eBin oIx (eVar 7) (eC (.int 1))) (eVar 1) [some (.ref c), some (.int (now + 1)), some (.ref M.length), none, none, none, none, some (rowD r)] (M2 ++ [MO.lst acc]) = some (.bl (!decide (r.m = now + 1)), M2 ++ [MO.lst acc]) := by
      show bindO (eBin oIx (eVar 7) (eC (.int 1)) _ _) _ = _
      rw [e1]
      exact oNe_int
    show bindO (eBin oNe (eBin oIx (eVar 7) (eC (.int 1))) (eVar 1) _ _) _ = _
    rw [e2]
    rfl
  obtain ⟨M3, hM3⟩ : ∃ M3, M3 = M2 ++ [MO.lst ((rest (now + 1) l).map rowD)] := ⟨_, rfl⟩
  have hr3 : M3[M2.length]? = some (.lst ((rest (now + 1) l).map rowD)) := by rw [hM3]; exact push_last
  have hd3 : M3[M.length]? = some (.lst (dueD (now + 1) l)) := by rw [hM3]; exact append_get hd1
  have hl3 : M3.length = M.length + 2 := by rw [hM3, List.length_append, hl2]; rfl
  rw [← hM3] at g3
  have t1 : fTuple [.ref M2.length] M3 = some (.tup ((rest (now + 1) l).map rowD), M3) := by
    show (match itemsOf M3 (.ref M2.length) with
      | some xs => some (Mi.D.tup xs, M3)
      | none => none) = _
    rw [show itemsOf M3 (.ref M2.length) = some ((rest (now + 1) l).map rowD) from lstAt_of hr3]
  have t2 : fTuple [.ref M.length] (M3 ++ [clk (now + 1) ((rest (now + 1) l).map rowD)]) = some (.tup (dueD (now + 1) l), M3 ++ [clk (now + 1) ((rest (now + 1) l).map rowD)]) := by
    show (match itemsOf (M3 ++ [clk (now + 1) ((rest (now + 1) l).map rowD)]) (.ref M.length) with
      | some xs => some (Mi.D.tup xs, M3 ++ [clk (now + 1) ((rest (now + 1) l).map rowD)])
      | none => none) = _
    rw [show itemsOf (M3 ++ [clk (now + 1) ((rest (now + 1) l).map rowD)]) (.ref M.length) = some (dueD (now + 1) l) from lstAt_of (append_get hd3)]
  have e3 : dnX (callP (j + 3) 2) [.int (now + 1), .tup ((rest (now + 1) l).map rowD)] M3 = some (.ref M3.length, M3 ++ [clk (now + 1) ((rest (now + 1) l).map rowD)]) := by
    unfold dnX
    rw [p_clock_at]
  have fin : M ++ [MO.lst (dueD (now + 1) l), .lst ((rest (now + 1) l).map rowD), clk (now + 1) ((rest (now + 1) l).map rowD)] = M3 ++ [clk (now + 1) ((rest (now + 1) l).map rowD)] := by
    rw [hM3, hM2]; simp
  rw [fin]
  have st : startD 8 [.ref c] = [some (.ref c), none, none, none, none, none, none, none] := rfl
  unfold runX b_Clock_ticked
  rw [st]
  unfold sSeq
  rw [g1]
  simp only [bindO, sSet, g2, List.set]
  simp only [sRet, eTup, eCons, eCall, eNil, eVar, bindO, g3, t1, e3, t2, hl3, List.getElem?_cons_succ, List.getElem?_cons_zero]
  simp [z2]
def sigP (r : Tm) : PyData := .tuple [toP r.t, sgP r.s]
theorem due_repr {l : List Tm} {M : Mem} (h : Tms l) (t : Int) : fRepr [.tup (dueD t l)] M = some (.str (PyData.tuple ((l.filter fun r => decide (r.m = t)).map sigP)).shown, M) := by
  have hl : (l.filter fun r => decide (r.m = t)).length ≤ 40 := Nat.le_trans (List.length_filter_le _ _) h.len
  have rd := r0_tup (rl_map (f := sigD) (g := sigP) (n := 30) (l := l.filter fun r => decide (r.m = t)) fun r hr => (r0_two (to_reads _) (sg_reads _)).up (by decide))
  rw [List.length_map] at rd
  have fl := FineL.map (g := sigP) (l := l.filter fun r => decide (r.m = t)) (w := 82) (dp := 3) fun r hr => (Fine.tup (.cons (to_fine (h.ok r (List.mem_filter.mp hr).1).t) (.cons (sg_fine (h.ok r (List.mem_filter.mp hr).1).s) (.nil (w := 0))))).up (Nat.le_refl 82) (by decide)
  exact repr_plain (n := 200) (w := 9000) (dp := 4) (rd.up (by omega)) (by decide) ((Fine.tup fl).up (by omega) (by decide)) (by decide) (by decide)
theorem at3 {a b c d : D} : atD [a, b, c, d] 3 = some d := rfl
theorem at2' {a b c d : D} : atD [a, b, c, d] 2 = some c := rfl
theorem meth_ticked {j : Nat} {M : Mem} {c : Nat} {now : Int} {l : List Tm} {ρ : Mi.Loc} {evo : Ev} (he : evo ρ M = some (.ref c, M)) (hc : M[c]? = some (clk now (l.map rowD))) (h : Tms l) :
    eMeth ct tab "ticked" (callN (j + 4)) evo eNil ρ M = some (.tup [.ref (M.length + 2), .tup (dueD (now + 1) l)], M ++ [.lst (dueD (now + 1) l), .lst ((rest (now + 1) l).map rowD), clk (now + 1) ((rest (now + 1) l).map rowD)]) := by
  have e : callN (j + 4) 18 [.ref c] M = _ := p_ticked (j := j) hc h
  have hc' := hc
  unfold clk at hc'
  have e1 : ct.me 22 "ticked" = some 18 := by decide +kernel
  have e2 : tab[18]? = some ((Str.ofString "ticked"), P_Clock_ticked) := rfl
  have e4 : (List.lookup (Str.ofString "ticked") [(Str.ofString "now", D.int now), (Str.ofString "timers", D.tup (l.map rowD))]).isNone = true := by
    rw [List.lookup_cons, show (Str.ofString "ticked" == Str.ofString "now") = false by decide +kernel, List.lookup_cons, show (Str.ofString "ticked" == Str.ofString "timers") = false by decide +kernel]
    rfl
  unfold eMeth
  simp only [he, bindO, eNil]
  unfold dnX gMeth
  simp only [hc', e4, e1, e2, if_true]
  rw [if_pos (show P_Clock_ticked.length = ([] : List D).length + 1 from rfl), e]
theorem c_ticked {j : Nat} {M : Mem} {c ln : Nat} {now : Int} {l : List Tm} (hc : M[c]? = some (clk now (l.map rowD))) (hl : M[ln]? = some (.lst (l.map rowD))) (h : Tms l) (h' : Tms (rest (now + 1) l)) :
    callD (j + 5) 11 [.ref c, .int now, .ref ln] M = some (.tup [.ref (M.length + 2), .ref (M.length + 4)], M ++ [.lst (dueD (now + 1) l), .lst ((rest (now + 1) l).map rowD), clk (now + 1) ((rest (now + 1) l).map rowD), .lst (dueD (now + 1) l), .lst ((rest (now + 1) l).map rowD)]) := by
  have hlen := h.len
  have zl := sz_small (n := l.length) (by omega)
  have z2 := sz_small (n := 2) (by decide)
  obtain ⟨M1, hM1⟩ : ∃ M1, M1 = M ++ [.lst (dueD (now + 1) l), .lst ((rest (now + 1) l).map rowD), clk (now + 1) ((rest (now + 1) l).map rowD)] := ⟨_, rfl⟩
  have g0 := meth_ticked (j := j) (ρ := [some (.ref c), some (.int now), some (.ref ln), none, none, none, none, none, none]) (evo := eVar 0) rfl hc h
  rw [← hM1] at g0
  have l1 : M1.length = M.length + 3 := by rw [hM1, List.length_append]; rfl
  have hl1 : M1[ln]? = some (.lst (l.map rowD)) := by rw [hM1]; exact append_get hl
  have hc1 : M1[c]? = some (clk now (l.map rowD)) := by rw [hM1]; exact append_get hc
  have hk1 : M1[M.length + 2]? = some (clk (now + 1) ((rest (now + 1) l).map rowD)) := by
    rw [hM1, List.getElem?_append_right (by omega)]
    rw [show M.length + 2 - M.length = 2 by omega]; rfl
  obtain ⟨ρ1, hρ1⟩ : ∃ ρ1 : Mi.Loc, ρ1 = [some (.ref c), some (.int now), some (.ref ln), some (.ref (M.length + 2)), some (.tup (dueD (now + 1) l)), none, none, none, none] := ⟨_, rfl⟩
  have g1 : eLc (iSq (eVar 2)) [6] (gN 6) (bOf (eBin oEq (eBin oIx (eVar 6) (eC (.int 1))) (eBin oAdd (eVar 1) (eC (.int 1))))) (eTup (eCons (eBin oIx (eVar 6) (eC (.int 2))) (eCons (eBin oIx (eVar 6) (eC (.int 3))) eNil))) ρ1 M1 = some (.ref M1.length, M1 ++ [.lst (dueD (now + 1) l)]) := by
    refine lc_map (get := fun M2 => Mi.lstAt M2 ln) (M1 := M1) l rowD (fun r => decide (r.m = now + 1)) sigD (by subst hρ1; simp [iSq, eVar, bindO, lstAt_of hl1]) zl (fun acc => lstAt_of (append_get hl1)) fun r hr => ⟨[some (.ref c), some (.int now), some (.ref ln), some (.ref (M.length + 2)), some (.tup (dueD (now + 1) l)), none, some (rowD r), none, none], by subst hρ1; rfl, fun acc => ⟨?_, fun _ => ?_⟩⟩
    · have e1 := mom_ix (r := r) (ρ := [some (.ref c), some (.int now), some (.ref ln), some (.ref (M.length + 2)), some (.tup (dueD (now + 1) l)), none, some (rowD r), none, none]) (M := M1 ++ [MO.lst acc]) (ev1 := eVar 6) (ev2 := eC (.int 1)) rfl rfl
      simp only [bOf, eBin, bindO] at e1 ⊢
      rw [e1]
      simp [eVar, eC, oAdd, oEq_int]
    · simp [eTup, eCons, eNil, eVar, bindO, z2, sigD, eBin, eC, rowD, oIx, itemsOf, at3, at2']
  have hk2 : ∀ g, (M1 ++ g)[M.length + 2]? = some (clk (now + 1) ((rest (now + 1) l).map rowD)) := fun g => append_get hk1
  obtain ⟨M2, hM2⟩ : ∃ M2, M2 = M1 ++ [MO.lst (dueD (now + 1) l)] := ⟨_, rfl⟩
  rw [← hM2] at g1
  have l2 : M2.length = M.length + 4 := by rw [hM2, List.length_append, l1]; rfl
  have hl2 : M2[ln]? = some (.lst (l.map rowD)) := by rw [hM2]; exact append_get hl1
  have t1 : fTuple [.ref M1.length] M2 = some (.tup (dueD (now + 1) l), M2) := by
    show (match itemsOf M2 (.ref M1.length) with
      | some xs => some (Mi.D.tup xs, M2)
      | none => none) = _
    rw [show itemsOf M2 (.ref M1.length) = some (dueD (now + 1) l) from lstAt_of (by rw [hM2]; exact push_last)]
  obtain ⟨ρ2, hρ2⟩ : ∃ ρ2 : Mi.Loc, ρ2 = [some (.ref c), some (.int now), some (.ref ln), some (.ref (M.length + 2)), some (.tup (dueD (now + 1) l)), some (.tup (dueD (now + 1) l)), none, none, none] := ⟨_, rfl⟩
  have g2 : eLc (iSq (eVar 2)) [6] (gN 6) (bOf (eBin oNe (eBin oIx (eVar 6) (eC (.int 1))) (eBin oAdd (eVar 1) (eC (.int 1))))) (eVar 6) ρ2 M2 = some (.ref M2.length, M2 ++ [.lst ((rest (now + 1) l).map rowD)]) := by
    refine lc_map (get := fun M2 => Mi.lstAt M2 ln) (M1 := M2) l rowD (fun r => !decide (r.m = now + 1)) rowD (by subst hρ2; simp [iSq, eVar, bindO, lstAt_of hl2]) zl (fun acc => lstAt_of (append_get hl2)) fun r hr => ⟨[some (.ref c), some (.int now), some (.ref ln), some (.ref (M.length + 2)), some (.tup (dueD (now + 1) l)), some (.tup (dueD (now + 1) l)), some (rowD r), none, none], by subst hρ2; rfl, fun acc => ⟨?_, fun _ => rfl⟩⟩
    have e1 := mom_ix (r := r) (ρ := [some (.ref c), some (.int now), some (.ref ln), some (.ref (M.length + 2)), some (.tup (dueD (now + 1) l)), some (.tup (dueD (now + 1) l)), some (rowD r), none, none]) (M := M2 ++ [MO.lst acc]) (ev1 := eVar 6) (ev2 := eC (.int 1)) rfl rfl
    simp only [bOf, eBin, bindO] at e1 ⊢
    rw [e1]
    simp [eVar, eC, oAdd, oNe_int]
  obtain ⟨M3, hM3⟩ : ∃ M3, M3 = M2 ++ [MO.lst ((rest (now + 1) l).map rowD)] := ⟨_, rfl⟩
  rw [← hM3] at g2
  have hr3 : M3[M2.length]? = some (.lst ((rest (now + 1) l).map rowD)) := by rw [hM3]; exact push_last
  have hk3 : M3[M.length + 2]? = some (clk (now + 1) ((rest (now + 1) l).map rowD)) := by rw [hM3, hM2]; exact append_get (append_get hk1)
  have hc3 : M3[c]? = some (clk now (l.map rowD)) := by rw [hM3, hM2]; exact append_get (append_get hc1)
  have r1 := due_repr (M := M3) h (now + 1)
  have r2 : dnX (callN (j + 4) 8) [.ref (M.length + 2), .int (now + 1), .ref M2.length] M3 = some (.bl true, M3) := told (j := j + 3) hk3 hr3 h'
  have r3 : oNeO ct tab (callN (j + 4)) ne (.ref (M.length + 2)) (.ref c) M3 = some (.bl true, M3) := by
    rw [o_ne (j := j + 3) hk3 hc3 h' h]
    have : ¬ (now + 1 = now ∧ rest (now + 1) l = l) := fun z => by omega
    rw [decide_eq_false this]; rfl
  have fin : M ++ [MO.lst (dueD (now + 1) l), .lst ((rest (now + 1) l).map rowD), clk (now + 1) ((rest (now + 1) l).map rowD), .lst (dueD (now + 1) l), .lst ((rest (now + 1) l).map rowD)] = M3 := by
    rw [hM3, hM2, hM1]; simp
  rw [fin, ← l2]
  have key : runX 9 (b__law_ticked (callP (j + 4)) (callN (j + 4))) [.ref c, .int now, .ref ln] M = some (.val (.tup [.ref (M.length + 2), .ref M2.length]), M3) := by
    have st : startD 9 [.ref c, .int now, .ref ln] = [some (.ref c), some (.int now), some (.ref ln), none, none, none, none, none, none] := rfl
    unfold runX b__law_ticked
    rw [st]
    have a1 : (sAsg (gT (gsCons (gN 3) (gsCons (gN 4) gsNil))) (eMeth ct tab "ticked" (callN (j + 4)) (eVar 0) eNil)) [some (.ref c), some (.int now), some (.ref ln), none, none, none, none, none, none] M = some (.next ρ1, M1) := by
      unfold sAsg
      rw [g0, hρ1]
      rfl
    have a2 : (sSet 5 (eCall fTuple (eCons (eLc (iSq (eVar 2)) [6] (gN 6) (bOf (eBin oEq (eBin oIx (eVar 6) (eC (.int 1))) (eBin oAdd (eVar 1) (eC (.int 1))))) (eTup (eCons (eBin oIx (eVar 6) (eC (.int 2))) (eCons (eBin oIx (eVar 6) (eC (.int 3))) eNil)))) eNil))) ρ1 M1 = some (.next ρ2, M2) := by
      simp only [sSet, eCall, eCons, eNil, bindO, g1, t1]
      rw [hρ1, hρ2]; rfl
    have a3 : (sSet 7 (eLc (iSq (eVar 2)) [6] (gN 6) (bOf (eBin oNe (eBin oIx (eVar 6) (eC (.int 1))) (eBin oAdd (eVar 1) (eC (.int 1))))) (eVar 6))) ρ2 M2 = some (.next [some (.ref c), some (.int now), some (.ref ln), some (.ref (M.length + 2)), some (.tup (dueD (now + 1) l)), some (.tup (dueD (now + 1) l)), none, some (.ref M2.length), none], M3) := by
      simp only [sSet, bindO, g2]
      rw [hρ2]; rfl
    unfold sSeq
    rw [a1]
    simp only [bindO]
    rw [a2]
    simp only [bindO]
    rw [a3]
    simp [bindO, sSet, eAnd, eBin, bOf, eCall, eCons, eNil, eVar, eC, r1, r2, r3, oEq, oAdd, sRet, eIf, eTup, z2]
  show dnX (runX 9 (b__law_ticked (callP (j + 4)) (callN (j + 4)))) [.ref c, .int now, .ref ln] M = _
  unfold dnX
  rw [key]
end Pr
set_option Elab.async false
set_option linter.all false
set_option maxRecDepth 100000
set_option maxHeartbeats 2000000
namespace Pr
open PySem PySem.Spec PyProof.Rows L2 Mi
abbrev lamQ : Str := "_law_set.<locals>.<lambda>"
theorem tabs_in {M : Mem} {n i : Nat} {q : Str} (h : M[n]? = some (.tab i q)) : (tabsIn M).contains (i, q) = true := List.contains_iff_mem.mpr (tabsIn_mem.mpr ⟨n, h⟩)
/-- the timer asked for, heard -/
theorem heard_set {j : Nat} {M : Mem} {c k t s n : Nat} {now time : Int} {l : List Tm} {ρ : Mi.Loc} {e1 e5 e6 e7 e8 : Ev} (hT : M[n]? = some (.tab 23 lamQ)) (hc : M[c]? = some (clk now (l.map rowD))) (h : Tms l) (hk : k ∈ kinds8) (ht : 0 ≤ time)
    (h1 : e1 ρ M = some (.ref c, M)) (h5 : e5 ρ M = some (keyD k, M)) (h6 : e6 ρ M = some (.int time, M)) (h7 : e7 ρ M = some (toD t, M)) (h8 : e8 ρ M = some (sgD s, M)) :
    eHeard 23 lamQ ecl (bMethK ct tab "with_timer" (callP (j + 4)) ["key", "time", "to", "signal"] e1 (eCons e5 (eCons e6 (eCons e7 (eCons e8 eNil))))) ρ M =
      if k ∈ l.map (·.k) then some (.tup [.ref M.length, .non], M ++ [.xo 21 (keyD k)]) else if time = 0 then some (.tup [.non, .tup [.ref c, .tup [.tup [toD t, sgD s]]]], M) else some (.tup [.non, .tup [.ref M.length, .tup []]], M ++ [clk now ((l ++ [(Tm.mk k (now + time) t s)]).map rowD)]) := by
  have e := p_with (j := j) (t := t) (s := s) (time := time) hc h hk ht
  have hc' := hc
  unfold clk at hc'
  have a1 : ct.me 22 "with_timer" = some 16 := by decide +kernel
  have a2 : tab[16]? = some ((Str.ofString "with_timer"), P_Clock_with_timer) := rfl
  have a4 : (List.lookup (Str.ofString "with_timer") [(Str.ofString "now", D.int now), (Str.ofString "timers", D.tup (l.map rowD))]).isNone = true := by
    rw [List.lookup_cons, show (Str.ofString "with_timer" == Str.ofString "now") = false by decide +kernel, List.lookup_cons, show (Str.ofString "with_timer" == Str.ofString "timers") = false by decide +kernel]
    rfl
  have b : bMethK ct tab "with_timer" (callP (j + 4)) ["key", "time", "to", "signal"] e1 (eCons e5 (eCons e6 (eCons e7 (eCons e8 eNil)))) ρ M = callP (j + 4) 16 [.ref c, keyD k, .int time, toD t, sgD s] M := by
    unfold bMethK
    simp only [h1, eCons, eNil, bindO, h5, h6, h7, h8, hc', a4, a1, a2, if_true]
    rw [if_pos ⟨rfl, rfl⟩]
  unfold eHeard
  rw [if_pos (tabs_in hT), b, e]
  have x1 : ecl 21 = some true := by decide +kernel
  by_cases hin : k ∈ l.map (·.k)
  · rw [if_pos hin, if_pos hin]
    simp only [x1, if_true]
  · rw [if_neg hin, if_neg hin]
    by_cases h0 : time = 0
    · rw [if_pos h0, if_pos h0]
    · rw [if_neg h0, if_neg h0]
/-- timers of so many -/
structure TmsN (n : Nat) (now : Int) (l : List Tm) : Prop where
  ok : ∀ r ∈ l, TmOk r
  len : l.length ≤ n
  nd : (l.map (·.k)).Nodup
theorem TmsN.tms {n : Nat} {now : Int} {l : List Tm} (h : TmsN n now l) (hn : n ≤ 40) : Tms l := ⟨h.ok, Nat.le_trans h.len hn, h.nd⟩
theorem TmsN.up {n m : Nat} {now now' : Int} {l : List Tm} (h : TmsN n now l) (hn : n ≤ m) : TmsN m now' l := ⟨h.ok, Nat.le_trans h.len hn, h.nd⟩
theorem TmsN.rest {n : Nat} {now : Int} {l : List Tm} (h : TmsN n now l) (p : Tm → Bool) : TmsN n now (l.filter p) := ⟨fun r hr => h.ok r (List.mem_filter.mp hr).1, Nat.le_trans (List.length_filter_le _ _) h.len, h.nd.sublist (List.filter_sublist.map _)⟩
theorem TmsN.more {n : Nat} {now : Int} {l : List Tm} {r : Tm} (h : TmsN n now l) (hr : TmOk r) (hk : r.k ∉ l.map (·.k)) : TmsN (n + 1) now (l ++ [r]) := by
  refine ⟨fun q hq => ?_, by rw [List.length_append]; have := h.len; simp; omega, ?_⟩
  · rcases List.mem_append.mp hq with hq | hq
    · exact h.ok q hq
    · rw [List.mem_singleton.mp hq]; exact hr
  · rw [List.map_append, List.nodup_append]
    refine ⟨h.nd, by simp, fun a ha b hb => ?_⟩
    rw [List.map_singleton, List.mem_singleton] at hb
    intro z
    rw [z, hb] at ha
    exact hk ha
/-- where a clock and its lines stand -/
structure At (M : Mem) (c ln : Nat) (n : Nat) (now : Int) (l : List Tm) : Prop where
  hc : M[c]? = some (clk now (l.map rowD))
  hl : M[ln]? = some (.lst (l.map rowD))
  ok : TmsN n now l
theorem At.keep {M M' : Mem} {c ln n : Nat} {now : Int} {l : List Tm} {p : Nat} (h : At M c ln n now l) (k : Kp [p] M M') (h1 : c ≠ p) (h2 : ln ≠ p) : At M' c ln n now l := ⟨k.get h.hc (by simpa using h1), k.get h.hl (by simpa using h2), h.ok⟩
abbrev keys7 : List D := [keyD 0, keyD 1, keyD 2, keyD 3, keyD 4, keyD 5, keyD 6]
abbrev times7 : List D := [.int 0, .int 1, .int 1, .int 2, .int 2, .int 3, .int 1000000000]
abbrev tos3 : List D := [toD 0, toD 1, toD 2]
abbrev sgs3 : List D := [sgD 0, sgD 1, sgD 2]
theorem key7_of {d : D} (h : d ∈ keys7) : ∃ k, k ∈ kinds8 ∧ k < 7 ∧ d = keyD k := by
  simp only [keys7, List.mem_cons, List.not_mem_nil, or_false] at h
  rcases h with rfl | rfl | rfl | rfl | rfl | rfl | rfl
  · exact ⟨0, by decide, by decide, rfl⟩
  · exact ⟨1, by decide, by decide, rfl⟩
  · exact ⟨2, by decide, by decide, rfl⟩
  · exact ⟨3, by decide, by decide, rfl⟩
  · exact ⟨4, by decide, by decide, rfl⟩
  · exact ⟨5, by decide, by decide, rfl⟩
  · exact ⟨6, by decide, by decide, rfl⟩
theorem time7_of {d : D} (h : d ∈ times7) : ∃ t : Int, 0 ≤ t ∧ t ≤ 1000000000 ∧ d = .int t := by
  simp only [times7, List.mem_cons, List.not_mem_nil, or_false] at h
  rcases h with rfl | rfl | rfl | rfl | rfl | rfl | rfl <;> exact ⟨_, by decide, by decide, rfl⟩
theorem to3_of {d : D} (h : d ∈ tos3) : ∃ t, t ∈ kinds3 ∧ d = toD t := by
  simp only [tos3, List.mem_cons, List.not_mem_nil, or_false] at h
  rcases h with rfl | rfl | rfl
  · exact ⟨0, by decide, rfl⟩
  · exact ⟨1, by decide, rfl⟩
  · exact ⟨2, by decide, rfl⟩
theorem sg3_of {d : D} (h : d ∈ sgs3) : ∃ t, t ∈ kinds3 ∧ d = sgD t := by
  simp only [sgs3, List.mem_cons, List.not_mem_nil, or_false] at h
  rcases h with rfl | rfl | rfl
  · exact ⟨0, by decide, rfl⟩
  · exact ⟨1, by decide, rfl⟩
  · exact ⟨2, by decide, rfl⟩
/-- one of a list that is written there -/
theorem pick {j : Nat} {M : Mem} {p k : Nat} {xs : List D} (h : PotR M p k) (hk : k < 1000000000) (h0 : 0 < xs.length) (h1 : xs.length < 1000) :
    Ok (callD (j + 2) 5 [.ref p, .ref M.length] (M ++ [.lst xs])) fun x M' => x ∈ xs ∧ PotR M' p (k + 1) ∧ Kp [p] (M ++ [.lst xs]) M' :=
  c_of (h.keep (Kp.push (ps := [])) (by simp)) hk (lstAt_of push_last) (fun M' k' => lstAt_of (k'.get push_last (by
    simp only [List.mem_singleton]
    have := h.lt
    omega))) h0 (by omega)
end Pr
set_option Elab.async false
set_option linter.all false
set_option maxRecDepth 100000
set_option maxHeartbeats 4000000
namespace Pr
open PySem PySem.Spec PyProof.Rows L2 Mi
theorem ok_ret {n : Nat} {ev : Es} {ds : List D} {M : Mem} {Q : D → Mem → Prop} (h : Ok (ev (startD n ds) M) fun o M' => ∃ d, o = .ret d ∧ Q d M') : Ok (dnX (runX n ev) ds M) Q := by
  obtain ⟨o, M', e, d, rfl, q⟩ := h
  refine ⟨d, M', ?_, q⟩
  unfold dnX runX
  rw [e]
theorem lst_times {ρ : Mi.Loc} {M : Mem} : eLst (eCons (eC (.int 0)) (eCons (eC (.int 1)) (eCons (eC (.int 1)) (eCons (eC (.int 2)) (eCons (eC (.int 2)) (eCons (eC (.int 3)) (eCons (eBin oPow (eC (.int 10)) (eC (.int 9))) eNil))))))) ρ M = some (.ref M.length, M ++ [.lst times7]) := by
  have pw : (eBin oPow (eC (.int 10)) (eC (.int 9))) = fun _ M => some (.int 1000000000, M) := by
    funext ρ M
    rfl
  rw [pw]
  have z7 := sz_small (n := 7) (by decide)
  simp [eLst, eCons, eNil, eC, bindO, z7]
theorem lst_tos {ρ : Mi.Loc} {M : Mem} : eLst (eCons (eTup eNil) (eCons (eTup (eCons (eC (.int 1)) eNil)) (eCons (eTup (eCons (eC (.int 2)) (eCons (eC (.int 1)) eNil))) eNil))) ρ M = some (.ref M.length, M ++ [.lst tos3]) := by
  have z0 := sz_small (n := 0) (by decide)
  have z1 := sz_small (n := 1) (by decide)
  have z2 := sz_small (n := 2) (by decide)
  have z3 := sz_small (n := 3) (by decide)
  simp [eLst, eCons, eTup, eNil, eC, bindO, z0, z1, z2, z3, toD]
theorem lst_sgs {ρ : Mi.Loc} {M : Mem} : eLst (eCons (eTup (eCons (eC (.str "over")) (eCons (eC (.int 0)) eNil))) (eCons (eTup (eCons (eC (.str "letter")) (eCons (eC (.str "late")) eNil))) (eCons (eTup (eCons (eC (.str "letter")) (eCons (eTup (eCons (eC (.str "list")) eNil)) eNil))) eNil))) ρ M = some (.ref M.length, M ++ [.lst sgs3]) := by
  have z1 := sz_small (n := 1) (by decide)
  have z2 := sz_small (n := 2) (by decide)
  have z3 := sz_small (n := 3) (by decide)
  simp [eLst, eCons, eTup, eNil, eC, bindO, z1, z2, z3, sgD]
/-- what _law_set draws -/
theorem set_draw {j : Nat} {M : Mem} {p K : Nat} {c now ln : D} (hp : PotR M p K) (hK : K < 1000000) (rest : Es) {Q : Fl → Mem → Prop}
    (h : ∀ (k t s : Nat) (time : Int) (M' : Mem), k ∈ kinds8 → t ∈ kinds3 → s ∈ kinds3 → 0 ≤ time → time ≤ 1000000000 → PotR M' p (K + 4) → Kp [p] M M' →
      Ok (rest [some (.ref p), some c, some now, some ln, some (.ref M.length), some (keyD k), some (.int time), some (toD t), some (sgD s), none, none, none, none, none, none, none] M') Q) :
    Ok ((sSeq (sSet 4 (eLst (eCons (eTup (eCons (eC (.str "ref")) (eCons (eTup eNil) (eCons (eC (.int 1)) eNil)))) (eCons (eTup (eCons (eC (.str "ref")) (eCons (eTup (eCons (eC (.int 1)) eNil)) (eCons (eC (.int 1)) eNil)))) (eCons (eTup (eCons (eC (.str "wait")) (eCons (eTup eNil) (eCons (eC (.int 0)) eNil)))) (eCons (eTup (eCons (eC (.str "wait")) (eCons (eTup eNil) (eCons (eC (.int 1)) eNil)))) (eCons (eTup (eCons (eC (.str "ref")) (eCons (eTup eNil) (eCons (eC (.int 2)) eNil)))) (eCons (eC (.str "any")) (eCons (eC (.int 7)) eNil)))))))))
    (sSeq (sAsg (gT (gsCons (gN 5) (gsCons (gN 6) gsNil))) (eTup (eCons (eCall (dnX (callN (j + 4) 5)) (eCons (eVar 0) (eCons (eVar 4) eNil))) (eCons (eCall (dnX (callN (j + 4) 5)) (eCons (eVar 0) (eCons (eLst (eCons (eC (.int 0)) (eCons (eC (.int 1)) (eCons (eC (.int 1)) (eCons (eC (.int 2)) (eCons (eC (.int 2)) (eCons (eC (.int 3)) (eCons (eBin oPow (eC (.int 10)) (eC (.int 9))) eNil)))))))) eNil))) eNil))))
    (sSeq (sSet 7 (eCall (dnX (callN (j + 4) 5)) (eCons (eVar 0) (eCons (eLst (eCons (eTup eNil) (eCons (eTup (eCons (eC (.int 1)) eNil)) (eCons (eTup (eCons (eC (.int 2)) (eCons (eC (.int 1)) eNil))) eNil)))) eNil))))
    (sSeq (sSet 8 (eCall (dnX (callN (j + 4) 5)) (eCons (eVar 0) (eCons (eLst (eCons (eTup (eCons (eC (.str "over")) (eCons (eC (.int 0)) eNil))) (eCons (eTup (eCons (eC (.str "letter")) (eCons (eC (.str "late")) eNil))) (eCons (eTup (eCons (eC (.str "letter")) (eCons (eTup (eCons (eC (.str "list")) eNil)) eNil))) eNil)))) eNil)))) rest)))) (startD 16 [.ref p, c, now, ln]) M) Q := by
  have z0 := sz_small (n := 0) (by decide)
  have z1 := sz_small (n := 1) (by decide)
  have z2 := sz_small (n := 2) (by decide)
  have z3 := sz_small (n := 3) (by decide)
  have z7 := sz_small (n := 7) (by decide)
  have st : startD 16 [.ref p, c, now, ln] = [some (.ref p), some c, some now, some ln, none, none, none, none, none, none, none, none, none, none, none, none] := rfl
  rw [st, ok_seq]
  have a1 : (sSet 4 (eLst (eCons (eTup (eCons (eC (.str "ref")) (eCons (eTup eNil) (eCons (eC (.int 1)) eNil)))) (eCons (eTup (eCons (eC (.str "ref")) (eCons (eTup (eCons (eC (.int 1)) eNil)) (eCons (eC (.int 1)) eNil)))) (eCons (eTup (eCons (eC (.str "wait")) (eCons (eTup eNil) (eCons (eC (.int 0)) eNil)))) (eCons (eTup (eCons (eC (.str "wait")) (eCons (eTup eNil) (eCons (eC (.int 1)) eNil)))) (eCons (eTup (eCons (eC (.str "ref")) (eCons (eTup eNil) (eCons (eC (.int 2)) eNil)))) (eCons (eC (.str "any")) (eCons (eC (.int 7)) eNil))))))))) [some (.ref p), some c, some now, some ln, none, none, none, none, none, none, none, none, none, none, none, none] M = some (.next [some (.ref p), some c, some now, some ln, some (.ref M.length), none, none, none, none, none, none, none, none, none, none, none], M ++ [.lst keys7]) := by
    simp [sSet, eLst, eCons, eTup, eNil, eC, bindO, z0, z1, z3, z7, keyD]
  rw [a1]
  refine ok_some.mpr ?_
  show Ok (sSeq _ _ _ _) Q
  rw [ok_seq]
  have b1 : Ok (sAsg (gT (gsCons (gN 5) (gsCons (gN 6) gsNil))) (eTup (eCons (eCall (dnX (callN (j + 4) 5)) (eCons (eVar 0) (eCons (eVar 4) eNil))) (eCons (eCall (dnX (callN (j + 4) 5)) (eCons (eVar 0) (eCons (eLst (eCons (eC (.int 0)) (eCons (eC (.int 1)) (eCons (eC (.int 1)) (eCons (eC (.int 2)) (eCons (eC (.int 2)) (eCons (eC (.int 3)) (eCons (eBin oPow (eC (.int 10)) (eC (.int 9))) eNil)))))))) eNil))) eNil))) [some (.ref p), some c, some now, some ln, some (.ref M.length), none, none, none, none, none, none, none, none, none, none, none] (M ++ [.lst keys7])) fun o M' => ∃ k time, k ∈ kinds8 ∧ (0 : Int) ≤ time ∧ time ≤ 1000000000 ∧ PotR M' p (K + 2) ∧ Kp [p] M M' ∧ o = .next [some (.ref p), some c, some now, some ln, some (.ref M.length), some (keyD k), some (.int time), none, none, none, none, none, none, none, none, none] := by
    simp only [sAsg, eTup, eCons, eCall, eNil, eVar, ok_bind, ok_some, List.getElem?_cons_zero, List.getElem?_cons_succ]
    refine (pick hp (by omega) (by decide) (by decide)).mono ?_
    rintro d1 M1 ⟨hd1, hp1, hk1⟩
    obtain ⟨k, k1, k2, rfl⟩ := key7_of hd1
    have lt := lst_times (ρ := [some (.ref p), some c, some now, some ln, some (.ref M.length), none, none, none, none, none, none, none, none, none, none, none]) (M := M1)
    rw [eLst] at lt
    refine ⟨_, _, lst_times, ?_⟩
    refine (pick hp1 (by omega) (by decide) (by decide)).mono ?_
    rintro d2 M2 ⟨hd2, hp2, hk2⟩
    obtain ⟨time, t1, t2, rfl⟩ := time7_of hd2
    rw [show ([keyD k, Mi.D.int time] : List D).length = 2 from rfl, if_pos z2]
    refine ok_some.mpr ?_
    refine ⟨_, _, rfl, k, time, k1, t1, t2, hp2, ?_, rfl⟩
    exact ((Kp.push (ps := [p])).trans hk1).trans ((Kp.push (ps := [p])).trans hk2)
  refine b1.mono ?_
  rintro _ M2 ⟨k, time, hk, t1, t2, hp2, hk2, rfl⟩
  show Ok (sSeq _ _ _ _) Q
  rw [ok_seq]
  have b2 : Ok (sSet 7 (eCall (dnX (callN (j + 4) 5)) (eCons (eVar 0) (eCons (eLst (eCons (eTup eNil) (eCons (eTup (eCons (eC (.int 1)) eNil)) (eCons (eTup (eCons (eC (.int 2)) (eCons (eC (.int 1)) eNil))) eNil)))) eNil))) [some (.ref p), some c, some now, some ln, some (.ref M.length), some (keyD k), some (.int time), none, none, none, none, none, none, none, none, none] M2) fun o M' => ∃ t, t ∈ kinds3 ∧ PotR M' p (K + 3) ∧ Kp [p] M2 M' ∧ o = .next [some (.ref p), some c, some now, some ln, some (.ref M.length), some (keyD k), some (.int time), some (toD t), none, none, none, none, none, none, none, none] := by
    simp only [sSet, eCall, eCons, eNil, eVar, ok_bind, ok_some, List.getElem?_cons_zero, List.getElem?_cons_succ]
    refine ⟨_, _, lst_tos, ?_⟩
    refine (pick hp2 (by omega) (by decide) (by decide)).mono ?_
    rintro d3 M3 ⟨hd3, hp3, hk3⟩
    obtain ⟨t, ht, rfl⟩ := to3_of hd3
    exact ⟨t, ht, hp3, (Kp.push (ps := [p])).trans hk3, rfl⟩
  refine b2.mono ?_
  rintro _ M3 ⟨t, ht, hp3, hk3, rfl⟩
  show Ok (sSeq _ _ _ _) Q
  rw [ok_seq]
  have b3 : Ok (sSet 8 (eCall (dnX (callN (j + 4) 5)) (eCons (eVar 0) (eCons (eLst (eCons (eTup (eCons (eC (.str "over")) (eCons (eC (.int 0)) eNil))) (eCons (eTup (eCons (eC (.str "letter")) (eCons (eC (.str "late")) eNil))) (eCons (eTup (eCons (eC (.str "letter")) (eCons (eTup (eCons (eC (.str "list")) eNil)) eNil))) eNil)))) eNil))) [some (.ref p), some c, some now, some ln, some (.ref M.length), some (keyD k), some (.int time), some (toD t), none, none, none, none, none, none, none, none] M3) fun o M' => ∃ s, s ∈ kinds3 ∧ PotR M' p (K + 4) ∧ Kp [p] M3 M' ∧ o = .next [some (.ref p), some c, some now, some ln, some (.ref M.length), some (keyD k), some (.int time), some (toD t), some (sgD s), none, none, none, none, none, none, none] := by
    simp only [sSet, eCall, eCons, eNil, eVar, ok_bind, ok_some, List.getElem?_cons_zero, List.getElem?_cons_succ]
    refine ⟨_, _, lst_sgs, ?_⟩
    refine (pick hp3 (by omega) (by decide) (by decide)).mono ?_
    rintro d4 M4 ⟨hd4, hp4, hk4⟩
    obtain ⟨s, hs, rfl⟩ := sg3_of hd4
    exact ⟨s, hs, hp4, (Kp.push (ps := [p])).trans hk4, rfl⟩
  refine b3.mono ?_
  rintro _ M4 ⟨s, hs, hp4, hk4, rfl⟩
  exact h k t s time M4 hk ht hs t1 t2 hp4 ((hk2.trans hk3).trans hk4)
end Pr
set_option Elab.async false
set_option linter.all false
set_option maxRecDepth 100000
set_option maxHeartbeats 4000000
namespace Pr
open PySem PySem.Spec PyProof.Rows L2 Mi
theorem in_keys {M : Mem} {n k : Nat} {l : List Tm} (q : M[n]? = some (.lst (l.map fun r => keyD r.k))) (h : Tms l) (hk : k ∈ kinds8) : inD M (keyD k) (.ref n) = some (decide (k ∈ l.map (·.k))) := by
  have e1 : toPy M fuelD (keyD k) = some (keyP k) := key_reads k M _ (by decide)
  have e2 : toPy M fuelD (.ref n) = some (.list (l.map fun r => keyP r.k)) := by
    show (match lstAt M n with
      | some xs => (toPys M 99999 xs).map PyData.list
      | none => none) = _
    rw [lstAt_of q]
    simp only
    rw [rl_toPys (n := 20) _ (rl_map (g := fun r : Tm => keyP r.k) fun r hr => key_reads r.k) (by rw [List.length_map]; have := h.len; omega)]
    rfl
  have f : Fine 9000 3 (.list (l.map fun r => keyP r.k)) := by
    have fl : FineL ((40 + 1) * l.length) 2 (l.map fun r => keyP r.k) := FineL.map fun r hr => key_fine (h.ok r hr).k
    have := Nat.mul_le_mul_left 41 h.len
    exact ⟨by simpa [PyData.canLay0] using fl.lay, by simp only [PyData.depth]; have := fl.deep; omega, by simp only [PyData.weight]; have := fl.size; omega, by simpa [PyData.showable] using fl.show_, by simpa [PyData.intsShort] using fl.short⟩
  unfold inD
  simp only [q, e1, e2, (key_fine hk).shaped (by decide), f.shaped (by decide), and_self, if_true]
  congr 1
  rw [List.any_map]
  have : ∀ l' : List Tm, (∀ r ∈ l', r ∈ l) → (l'.any ((fun z => PyData.eqv z (keyP k)) ∘ fun r => keyP r.k)) = decide (k ∈ l'.map (·.k)) := by
    intro l' hl
    induction l' with
    | nil => simp
    | cons r l' ih =>
      rw [List.any_cons, ih fun x hx => hl x (List.mem_cons_of_mem _ hx)]
      show (PyData.eqv (keyP r.k) (keyP k) || _) = _
      rw [key_eqv _ (h.ok r (hl r List.mem_cons_self)).k _ hk, Bool.eq_iff_iff]
      rw [Bool.or_eq_true, decide_eq_true_eq, decide_eq_true_eq, decide_eq_true_eq, List.map_cons, List.mem_cons]
      exact ⟨fun z => z.imp Eq.symm id, fun z => z.imp Eq.symm id⟩
  exact this l fun _ hr => hr
theorem sAsg2 {i j : Nat} {ev : Ev} {ρ : Mi.Loc} {M M' : Mem} {a b : D} (e : ev ρ M = some (.tup [a, b], M')) : sAsg (gT (gsCons (gN i) (gsCons (gN j) gsNil))) ev ρ M = some (.next ((ρ.set i (some a)).set j (some b)), M') := by
  unfold sAsg
  rw [e]
  rfl
/-- the keys of the lines, as the law lists them -/
theorem lines_keys {M : Mem} {ln : Nat} {l : List Tm} {a0 a1 a2 a4 a5 a6 a7 a8 a9 a10 a11 a13 a14 a15 : Option D} (hl : M[ln]? = some (.lst (l.map rowD))) (h : Tms l) :
    eLc (iSq (eVar 3)) [12] (gN 12) bYes (eBin oIx (eVar 12) (eC (.int 0))) [a0, a1, a2, some (.ref ln), a4, a5, a6, a7, a8, a9, a10, a11, none, a13, a14, a15] M = some (.ref M.length, M ++ [.lst (l.map fun r => keyD r.k)]) := by
  have zl := sz_small (n := l.length) (by have := h.len; omega)
  have z := lc_map (src := iSq (eVar 3)) (vs := [12]) (g := gN 12) (t := bYes) (el := eBin oIx (eVar 12) (eC (.int 0))) (ρ := [a0, a1, a2, some (.ref ln), a4, a5, a6, a7, a8, a9, a10, a11, none, a13, a14, a15]) (M := M) (get := fun M2 => Mi.lstAt M2 ln) (M1 := M) l rowD (fun _ => true) (fun r => keyD r.k) (by simp [iSq, eVar, bindO, lstAt_of hl]) zl (fun acc => lstAt_of (append_get hl)) fun r hr => ⟨[a0, a1, a2, some (.ref ln), a4, a5, a6, a7, a8, a9, a10, a11, some (rowD r), a13, a14, a15], rfl, fun acc => ⟨rfl, fun _ => key_ix rfl rfl⟩⟩
  rw [z, List.filter_eq_self.mpr fun _ _ => rfl]
/-- whether the key is taken, as the law asks it -/
theorem asks_key {M : Mem} {ln k : Nat} {l : List Tm} {a0 a1 a2 a4 a6 a7 a8 a9 a10 a11 a13 a14 a15 : Option D} (hl : M[ln]? = some (.lst (l.map rowD))) (h : Tms l) (hk : k ∈ kinds8) :
    bOf (eBin (oIn false) (eVar 5) (eLc (iSq (eVar 3)) [12] (gN 12) bYes (eBin oIx (eVar 12) (eC (.int 0))))) [a0, a1, a2, some (.ref ln), a4, some (keyD k), a6, a7, a8, a9, a10, a11, none, a13, a14, a15] M = some (decide (k ∈ l.map (·.k)), M ++ [.lst (l.map fun r => keyD r.k)]) := by
  have e1 := lines_keys (a0 := a0) (a1 := a1) (a2 := a2) (a4 := a4) (a5 := some (keyD k)) (a6 := a6) (a7 := a7) (a8 := a8) (a9 := a9) (a10 := a10) (a11 := a11) (a13 := a13) (a14 := a14) (a15 := a15) hl h
  have e2 := in_keys (M := M ++ [.lst (l.map fun r => keyD r.k)]) (n := M.length) push_last h hk
  have e3 : eBin (oIn false) (eVar 5) (eLc (iSq (eVar 3)) [12] (gN 12) bYes (eBin oIx (eVar 12) (eC (.int 0)))) [a0, a1, a2, some (.ref ln), a4, some (keyD k), a6, a7, a8, a9, a10, a11, none, a13, a14, a15] M = some (.bl (decide (k ∈ l.map (·.k))), M ++ [.lst (l.map fun r => keyD r.k)]) := by
    show bindO (eLc (iSq (eVar 3)) [12] (gN 12) bYes (eBin oIx (eVar 12) (eC (.int 0))) _ M) (fun y M2 => oIn false (keyD k) y M2) = _
    rw [e1]
    show oIn false (keyD k) (.ref M.length) _ = _
    unfold oIn
    rw [e2]
    rfl
  unfold bOf
  rw [e3]
  rfl
end Pr
set_option Elab.async false
set_option linter.all false
set_option maxRecDepth 100000
set_option maxHeartbeats 4000000
namespace Pr
open PySem PySem.Spec PyProof.Rows L2 Mi
theorem key_repr {k : Nat} {M : Mem} (hk : k ∈ kinds8) : fRepr [keyD k] M = some (.str (keyP k).shown, M) := repr_plain (key_reads k) (by decide) (key_fine hk) (by decide) (by decide)
abbrev if1 (j : Nat) : Es := (sIf (bOf (eBin (oIn false) (eVar 5) (eLc (iSq (eVar 3)) [12] (gN 12) bYes (eBin oIx (eVar 12) (eC (.int 0)))))) (sSeq (sSet 11 (eAnd (eIsC ct xc ty_Held (eVar 9)) (eAnd (eBin oEq (eCall fRepr (eCons (eXv xc (eVar 9)) eNil)) (eCall fRepr (eCons (eVar 5) eNil))) (eCall (dnX (callN (j + 4) 8)) (eCons (eVar 1) (eCons (eVar 2) (eCons (eVar 3) eNil)))))))
    (sRet (eIf (bOf (eVar 11)) (eTup (eCons (eVar 1) (eCons (eVar 3) eNil))) (eTup (eCons (eC .non) (eCons (eLst eNil) eNil)))))) sNil)
/-- the key is taken: the error is heard, nothing has changed -/
theorem if1_in {j : Nat} {M : Mem} {c ln k x n : Nat} {now : Int} {l : List Tm} {a0 a4 a6 a7 a8 a10 : Option D} (A : At M c ln n now l) (hn : n ≤ 40) (hk : k ∈ kinds8) (hx : M[x]? = some (.xo 21 (keyD k))) (hin : k ∈ l.map (·.k)) :
    if1 j [a0, some (.ref c), some (.int now), some (.ref ln), a4, some (keyD k), a6, a7, a8, some (.ref x), a10, none, none, none, none, none] M = some (.ret (.tup [.ref c, .ref ln]), M ++ [.lst (l.map fun r => keyD r.k)]) := by
  have T := A.ok.tms hn
  have e1 := asks_key (a0 := a0) (a1 := some (.ref c)) (a2 := some (.int now)) (a4 := a4) (a6 := a6) (a7 := a7) (a8 := a8) (a9 := some (.ref x)) (a10 := a10) (a11 := none) (a13 := none) (a14 := none) (a15 := none) A.hl T hk
  rw [decide_eq_true hin] at e1
  obtain ⟨M2, hM2⟩ : ∃ M2, M2 = M ++ [MO.lst (l.map fun r => keyD r.k)] := ⟨_, rfl⟩
  rw [← hM2] at e1 ⊢
  have hx2 : M2[x]? = some (.xo 21 (keyD k)) := by rw [hM2]; exact append_get hx
  have hc2 : M2[c]? = some (clk now (l.map rowD)) := by rw [hM2]; exact append_get A.hc
  have hl2 : M2[ln]? = some (.lst (l.map rowD)) := by rw [hM2]; exact append_get A.hl
  have z2 := sz_small (n := 2) (by decide)
  have t1 : dnX (callN (j + 4) 8) [.ref c, .int now, .ref ln] M2 = some (.bl true, M2) := told (j := j + 3) hc2 hl2 T
  have r1 := key_repr (M := M2) hk
  have i1 : eIsC ct xc ty_Held (eVar 9) [a0, some (.ref c), some (.int now), some (.ref ln), a4, some (keyD k), a6, a7, a8, some (.ref x), a10, none, none, none, none, none] M2 = some (.bl true, M2) := by
    have x1 : xc 21 = true := by decide +kernel
    have x2 : ty_Held (.inl 21) = some true := by decide +kernel
    simp [eIsC, eVar, bindO, tyC, hx2, okC, x1, x2]
  have v1 : eXv xc (eVar 9) [a0, some (.ref c), some (.int now), some (.ref ln), a4, some (keyD k), a6, a7, a8, some (.ref x), a10, none, none, none, none, none] M2 = some (keyD k, M2) := by
    have x1 : xc 21 = true := by decide +kernel
    simp [eXv, eVar, bindO, hx2, x1]
  unfold if1 sIf
  rw [e1]
  simp only [bindO, if_true]
  simp [sSeq, sSet, eAnd, bOf, eBin, bindO, i1, eCall, eCons, eNil, v1, r1, t1, eVar, oEq, sRet, eIf, eTup, z2]
theorem if1_out {j : Nat} {M : Mem} {ln k : Nat} {l : List Tm} {a0 a1 a2 a4 a6 a7 a8 a9 a10 : Option D} (hl : M[ln]? = some (.lst (l.map rowD))) (T : Tms l) (hk : k ∈ kinds8) (hin : k ∉ l.map (·.k)) :
    if1 j [a0, a1, a2, some (.ref ln), a4, some (keyD k), a6, a7, a8, a9, a10, none, none, none, none, none] M = some (.next [a0, a1, a2, some (.ref ln), a4, some (keyD k), a6, a7, a8, a9, a10, none, none, none, none, none], M ++ [.lst (l.map fun r => keyD r.k)]) := by
  have e1 := asks_key (a0 := a0) (a1 := a1) (a2 := a2) (a4 := a4) (a6 := a6) (a7 := a7) (a8 := a8) (a9 := a9) (a10 := a10) (a11 := none) (a13 := none) (a14 := none) (a15 := none) hl T hk
  rw [decide_eq_false hin] at e1
  unfold if1 sIf
  rw [e1]
  rfl
abbrev if2 : Es := (sIf (bOr (bOf (eBin (oIs true) (eVar 9) (eC .non))) (bOr (bNot (bOf (eIsi .tuple (eVar 10)))) (bOf (eBin oNe (eCall fLen (eCons (eVar 10) eNil)) (eC (.int 2)))))) (sRet (eTup (eCons (eC .non) (eCons (eLst eNil) eNil)))) sNil)
theorem if2_out {M : Mem} {b1 b2 : D} {a0 a1 a2 a3 a4 a5 a6 a7 a8 : Option D} :
    if2 [a0, a1, a2, a3, a4, a5, a6, a7, a8, some .non, some (.tup [b1, b2]), none, none, none, none, none] M = some (.next [a0, a1, a2, a3, a4, a5, a6, a7, a8, some .non, some (.tup [b1, b2]), none, none, none, none, none], M) := by
  have t2 : (bOf (eIsi .tuple (eVar 10))) [a0, a1, a2, a3, a4, a5, a6, a7, a8, some .non, some (.tup [b1, b2]), none, none, none, none, none] M = some (true, M) := rfl
  have t1 : (bOf (eBin (oIs true) (eVar 9) (eC .non))) [a0, a1, a2, a3, a4, a5, a6, a7, a8, some .non, some (.tup [b1, b2]), none, none, none, none, none] M = some (false, M) := rfl
  have t3 : (bOf (eBin oNe (eCall fLen (eCons (eVar 10) eNil)) (eC (.int 2)))) [a0, a1, a2, a3, a4, a5, a6, a7, a8, some .non, some (.tup [b1, b2]), none, none, none, none, none] M = some (false, M) := by
    have l : fLen [Mi.D.tup [b1, b2]] M = some (.int 2, M) := fLen_items (xs := [b1, b2]) rfl
    simp [bOf, eBin, eCall, eCons, eNil, eVar, eC, bindO, l, oNe_int]
  unfold if2 sIf
  simp [bOr, bNot, t1, t2, t3, bindO, sNil]
abbrev if3 (j : Nat) : Es := (sIf (bOf (eBin oEq (eVar 6) (eC (.int 0)))) (sSeq (sSet 11 (eAnd (eBin oEq (eCall fRepr (eCons (eVar 14) eNil)) (eCall fRepr (eCons (eTup (eCons (eTup (eCons (eVar 7) (eCons (eVar 8) eNil))) eNil)) eNil))) (eAnd (eBin (oEqO ct tab (callN (j + 4)) nf) (eVar 13) (eVar 1)) (eCall (dnX (callN (j + 4) 8)) (eCons (eVar 13) (eCons (eVar 2) (eCons (eVar 3) eNil)))))))
    (sRet (eIf (bOf (eVar 11)) (eTup (eCons (eVar 13) (eCons (eVar 3) eNil))) (eTup (eCons (eC .non) (eCons (eLst eNil) eNil)))))) sNil)
theorem one_sig_repr {t s : Nat} {M : Mem} (ht : t ∈ kinds3) (hs : s ∈ kinds3) : fRepr [.tup [.tup [toD t, sgD s]]] M = some (.str (PyData.tuple [.tuple [toP t, sgP s]]).shown, M) :=
  repr_plain (n := 100) (w := 9000) (dp := 5) ((r0_one (r0_two (to_reads t) (sg_reads s))).up (by decide)) (by decide) ((Fine.tup (.cons (Fine.tup (.cons (to_fine ht) (.cons (sg_fine hs) (.nil (w := 0))))) (.nil (w := 0)))).up (by decide) (by decide)) (by decide) (by decide)
theorem if3_zero {j : Nat} {M : Mem} {c ln n t s : Nat} {now : Int} {l : List Tm} {a0 a4 a5 a9 a10 : Option D} (A : At M c ln n now l) (hn : n ≤ 40) (ht : t ∈ kinds3) (hs : s ∈ kinds3) :
    if3 j [a0, some (.ref c), some (.int now), some (.ref ln), a4, a5, some (.int 0), some (toD t), some (sgD s), a9, a10, none, none, some (.ref c), some (.tup [.tup [toD t, sgD s]]), none] M = some (.ret (.tup [.ref c, .ref ln]), M) := by
  have T := A.ok.tms hn
  have z1 := sz_small (n := 1) (by decide)
  have z2 := sz_small (n := 2) (by decide)
  have t1 : dnX (callN (j + 4) 8) [.ref c, .int now, .ref ln] M = some (.bl true, M) := told (j := j + 3) A.hc A.hl T
  have q1 : oEqO ct tab (callN (j + 4)) nf (.ref c) (.ref c) M = some (.bl true, M) := by
    rw [o_eq (j := j + 3) A.hc A.hc T T, decide_eq_true ⟨rfl, rfl⟩]
  have r1 := one_sig_repr (M := M) ht hs
  unfold if3 sIf
  simp [bOf, eBin, eVar, eC, bindO, oEq_int, sSeq, sSet, eAnd, eCall, eCons, eNil, eTup, z1, z2, r1, oEq, eqD_int, q1, t1, sRet, eIf]
theorem if3_more {j : Nat} {M : Mem} {time : Int} {a0 a1 a2 a3 a4 a5 a7 a8 a9 a10 a13 a14 : Option D} (h0 : time ≠ 0) :
    if3 j [a0, a1, a2, a3, a4, a5, some (.int time), a7, a8, a9, a10, none, none, a13, a14, none] M = some (.next [a0, a1, a2, a3, a4, a5, some (.int time), a7, a8, a9, a10, none, none, a13, a14, none], M) := by
  unfold if3 sIf
  simp [bOf, eBin, eVar, eC, bindO, oEq_int, h0, sNil]
theorem eqD_nil {M : Mem} : eqD M (.tup []) (.tup []) = some true := by
  rw [eq_plain r0_nil r0_nil (by decide) (by decide) (by simp [SeqAt.shaped, PyData.canLay0, PyData.canLayAll0, PyData.depth, PyData.depthAll]) (by simp [SeqAt.shaped, PyData.canLay0, PyData.canLayAll0, PyData.depth, PyData.depthAll])]
  simp [PyData.eqv, PyData.eqvAll]
abbrev moreS : Es := (sSet 15 (eBin oAdd (eVar 3) (eLst (eCons (eTup (eCons (eVar 5) (eCons (eBin oAdd (eVar 2) (eVar 6)) (eCons (eVar 7) (eCons (eVar 8) eNil))))) eNil))))
abbrev retS (j : Nat) : Es := (sRet (eIf (bAnd (bOf (eBin oEq (eVar 14) (eTup eNil))) (bOf (eCall (dnX (callN (j + 4) 8)) (eCons (eVar 13) (eCons (eVar 2) (eCons (eVar 15) eNil)))))) (eTup (eCons (eVar 13) (eCons (eVar 15) eNil))) (eTup (eCons (eC .non) (eCons (eLst eNil) eNil)))))
theorem eBin_at {f : D → D → Mem → Mi.R D} {eva evb : Ev} {ρ : Mi.Loc} {M M1 M2 : Mem} {x y : D} (e1 : eva ρ M = some (x, M1)) (e2 : evb ρ M1 = some (y, M2)) : eBin f eva evb ρ M = f x y M2 := by
  unfold eBin
  rw [e1]
  simp only [bindO, e2]
theorem more_ok {M : Mem} {ln k t s : Nat} {now time : Int} {l : List Tm} {a0 a1 a4 a9 a10 a13 a14 : Option D} (hl : M[ln]? = some (.lst (l.map rowD))) (T : Tms l) :
    moreS [a0, a1, some (.int now), some (.ref ln), a4, some (keyD k), some (.int time), some (toD t), some (sgD s), a9, a10, none, none, a13, a14, none] M = some (.next [a0, a1, some (.int now), some (.ref ln), a4, some (keyD k), some (.int time), some (toD t), some (sgD s), a9, a10, none, none, a13, a14, some (.ref (M.length + 1))], M ++ [.lst [rowD (Tm.mk k (now + time) t s)], .lst ((l ++ [Tm.mk k (now + time) t s]).map rowD)]) := by
  have z1 := sz_small (n := 1) (by decide)
  have z4 := sz_small (n := 4) (by decide)
  have zl := sz_small (n := l.length + 1) (by have := T.len; omega)
  obtain ⟨r, hr⟩ : ∃ r, r = Tm.mk k (now + time) t s := ⟨_, rfl⟩
  have el1 : (eLst (eCons (eTup (eCons (eVar 5) (eCons (eBin oAdd (eVar 2) (eVar 6)) (eCons (eVar 7) (eCons (eVar 8) eNil))))) eNil)) [a0, a1, some (.int now), some (.ref ln), a4, some (keyD k), some (.int time), some (toD t), some (sgD s), a9, a10, none, none, a13, a14, none] M = some (.ref M.length, M ++ [.lst [rowD r]]) := by
    subst hr
    simp [eBin, eVar, bindO, eLst, eCons, eTup, eNil, z1, z4, oAdd, rowD]
  have g1 : (M ++ [MO.lst [rowD r]])[ln]? = some (.lst (l.map rowD)) := append_get hl
  have g2 : (M ++ [MO.lst [rowD r]])[M.length]? = some (.lst [rowD r]) := push_last
  have el2 : oAdd (.ref ln) (.ref M.length) (M ++ [MO.lst [rowD r]]) = some (.ref (M.length + 1), M ++ [.lst [rowD r], .lst ((l ++ [r]).map rowD)]) := by
    unfold oAdd
    simp only [g1, g2]
    rw [if_pos (by simpa using zl)]
    simp
  rw [← hr]
  have el3 : (eBin oAdd (eVar 3) (eLst (eCons (eTup (eCons (eVar 5) (eCons (eBin oAdd (eVar 2) (eVar 6)) (eCons (eVar 7) (eCons (eVar 8) eNil))))) eNil))) [a0, a1, some (.int now), some (.ref ln), a4, some (keyD k), some (.int time), some (toD t), some (sgD s), a9, a10, none, none, a13, a14, none] M = some (.ref (M.length + 1), M ++ [.lst [rowD r], .lst ((l ++ [r]).map rowD)]) := by
    exact (eBin_at rfl el1).trans el2
  show bindO ((eBin oAdd (eVar 3) (eLst (eCons (eTup (eCons (eVar 5) (eCons (eBin oAdd (eVar 2) (eVar 6)) (eCons (eVar 7) (eCons (eVar 8) eNil))))) eNil))) _ M) _ = _
  rw [el3]
  rfl
theorem ret_ok {j : Nat} {M : Mem} {c ln n : Nat} {now : Int} {l : List Tm} {a0 a1 a3 a4 a5 a6 a7 a8 a9 a10 : Option D} (A : At M c ln n now l) (hn : n ≤ 40) :
    retS j [a0, a1, some (.int now), a3, a4, a5, a6, a7, a8, a9, a10, none, none, some (.ref c), some (.tup []), some (.ref ln)] M = some (.ret (.tup [.ref c, .ref ln]), M) := by
  have z0 := sz_small (n := 0) (by decide)
  have z2 := sz_small (n := 2) (by decide)
  have t1 : dnX (callN (j + 4) 8) [.ref c, .int now, .ref ln] M = some (.bl true, M) := told (j := j + 3) A.hc A.hl (A.ok.tms hn)
  simp [sRet, eIf, bAnd, bOf, eBin, eVar, bindO, eTup, eCons, eNil, z0, z2, eCall, t1, oEq, eqD_nil]
end Pr
set_option Elab.async false
set_option linter.all false
set_option maxRecDepth 100000
set_option maxHeartbeats 4000000
namespace Pr
open PySem PySem.Spec PyProof.Rows L2 Mi
abbrev hearS (j : Nat) : Es := (sAsg (gT (gsCons (gN 9) (gsCons (gN 10) gsNil))) (eHeard 23 "_law_set.<locals>.<lambda>" ecl (bMethK ct tab "with_timer" (callP (j + 4)) ["key", "time", "to", "signal"] (eVar 1) (eCons (eVar 5) (eCons (eVar 6) (eCons (eVar 7) (eCons (eVar 8) eNil)))))))
abbrev backS : Es := (sAsg (gT (gsCons (gN 13) (gsCons (gN 14) gsNil))) (eVar 10))
/-- the clock and the lines behind a lap -/
def Lapped (p K n : Nat) (now : Int) (M : Mem) (d : D) (M' : Mem) : Prop := ∃ c' ln' l', d = .tup [.ref c', .ref ln'] ∧ At M' c' ln' n now l' ∧ c' ≠ p ∧ ln' ≠ p ∧ PotR M' p K ∧ Kp [p] M M'
theorem kp_app {p : Nat} {M g : Mem} : Kp [p] M (M ++ g) := Kp.push
theorem c_set {j : Nat} {M : Mem} {p K c ln n nt : Nat} {now : Int} {l : List Tm} (hp : PotR M p K) (hK : K < 1000000) (A : At M c ln n now l) (hn : n < 40) (h1 : c ≠ p) (h2 : ln ≠ p) (hT : M[nt]? = some (.tab 23 lamQ)) (h3 : nt ≠ p) (h0 : 0 ≤ now) (hb : now ≤ 1000) :
    Ok (callD (j + 5) 9 [.ref p, .ref c, .int now, .ref ln] M) (Lapped p (K + 4) (n + 1) now M) := by
  show Ok (dnX (runX 16 (b__law_set (callP (j + 4)) (callN (j + 4)))) [.ref p, .ref c, .int now, .ref ln] M) _
  refine ok_ret ?_
  refine set_draw (j := j) hp hK (sSeq (hearS j) (sSeq (if1 j) (sSeq if2 (sSeq backS (sSeq (if3 j) (sSeq moreS (retS j))))))) fun k t s time M4 hk ht hs t0 t1 hp4 hk4 => ?_
  have A4 := A.keep hk4 h1 h2
  have T := A4.ok.tms (by omega)
  have hT4 : M4[nt]? = some (.tab 23 lamQ) := hk4.get hT (by simpa using h3)
  have H := heard_set (j := j) (t := t) (s := s) (time := time) (ρ := [some (.ref p), some (.ref c), some (.int now), some (.ref ln), some (.ref M.length), some (keyD k), some (.int time), some (toD t), some (sgD s), none, none, none, none, none, none, none]) (e1 := eVar 1) (e5 := eVar 5) (e6 := eVar 6) (e7 := eVar 7) (e8 := eVar 8) hT4 A4.hc T hk t0 rfl rfl rfl rfl rfl
  rw [ok_seq]
  by_cases hin : k ∈ l.map (·.k)
  · rw [if_pos hin] at H
    have h5 : hearS j [some (.ref p), some (.ref c), some (.int now), some (.ref ln), some (.ref M.length), some (keyD k), some (.int time), some (toD t), some (sgD s), none, none, none, none, none, none, none] M4 = some (.next [some (.ref p), some (.ref c), some (.int now), some (.ref ln), some (.ref M.length), some (keyD k), some (.int time), some (toD t), some (sgD s), some (.ref M4.length), some .non, none, none, none, none, none], M4 ++ [.xo 21 (keyD k)]) := sAsg2 H
    rw [h5]
    refine ok_some.mpr ?_
    show Ok (sSeq _ _ _ _) _
    rw [ok_seq]
    have A5 : At (M4 ++ [.xo 21 (keyD k)]) c ln n now l := A4.keep (p := p) kp_app h1 h2
    rw [show if1 j _ _ = _ from if1_in (j := j) A5 (by omega) hk push_last hin]
    refine ok_some.mpr ⟨_, rfl, c, ln, l, rfl, ?_, h1, h2, ?_, ?_⟩
    · have := A5.keep (p := p) (kp_app (g := [.lst (l.map fun r => keyD r.k)])) h1 h2
      exact ⟨this.hc, this.hl, this.ok.up (by omega)⟩
    · exact (hp4.keep (Kp.push (ps := [])) (by simp)).keep (Kp.push (ps := [])) (by simp)
    · exact (hk4.trans kp_app).trans kp_app
  · rw [if_neg hin] at H
    have rest_ok : ∀ (b1 b2 : D) (M5 : Mem), (∃ g, M5 = M4 ++ g) → hearS j [some (.ref p), some (.ref c), some (.int now), some (.ref ln), some (.ref M.length), some (keyD k), some (.int time), some (toD t), some (sgD s), none, none, none, none, none, none, none] M4 = some (.next [some (.ref p), some (.ref c), some (.int now), some (.ref ln), some (.ref M.length), some (keyD k), some (.int time), some (toD t), some (sgD s), some .non, some (.tup [b1, b2]), none, none, none, none, none], M5) →
        Ok (sSeq (if3 j) (sSeq moreS (retS j)) [some (.ref p), some (.ref c), some (.int now), some (.ref ln), some (.ref M.length), some (keyD k), some (.int time), some (toD t), some (sgD s), some .non, some (.tup [b1, b2]), none, none, some b1, some b2, none] (M5 ++ [.lst (l.map fun r => keyD r.k)])) (fun o M' => ∃ d, o = .ret d ∧ Lapped p (K + 4) (n + 1) now M d M') →
        Ok (hearS j [some (.ref p), some (.ref c), some (.int now), some (.ref ln), some (.ref M.length), some (keyD k), some (.int time), some (toD t), some (sgD s), none, none, none, none, none, none, none] M4) fun o M1 => match o with
          | .next ρ1 => Ok ((sSeq (if1 j) (sSeq if2 (sSeq backS (sSeq (if3 j) (sSeq moreS (retS j)))))) ρ1 M1) fun o M' => ∃ d, o = .ret d ∧ Lapped p (K + 4) (n + 1) now M d M'
          | o => ∃ d, o = .ret d ∧ Lapped p (K + 4) (n + 1) now M d M1 := by
      rintro b1 b2 M5 ⟨g, rfl⟩ h5 hrest
      rw [h5]
      refine ok_some.mpr ?_
      show Ok (sSeq _ _ _ _) _
      rw [ok_seq, show if1 j _ _ = _ from if1_out (j := j) (append_get A4.hl) T hk hin]
      refine ok_some.mpr ?_
      show Ok (sSeq _ _ _ _) _
      rw [ok_seq, show if2 _ _ = _ from if2_out]
      refine ok_some.mpr ?_
      show Ok (sSeq _ _ _ _) _
      rw [ok_seq]
      have h6 : backS [some (.ref p), some (.ref c), some (.int now), some (.ref ln), some (.ref M.length), some (keyD k), some (.int time), some (toD t), some (sgD s), some .non, some (.tup [b1, b2]), none, none, none, none, none] (M4 ++ g ++ [.lst (l.map fun r => keyD r.k)]) = some (.next [some (.ref p), some (.ref c), some (.int now), some (.ref ln), some (.ref M.length), some (keyD k), some (.int time), some (toD t), some (sgD s), some .non, some (.tup [b1, b2]), none, none, some b1, some b2, none], M4 ++ g ++ [.lst (l.map fun r => keyD r.k)]) := sAsg2 rfl
      rw [h6]
      exact ok_some.mpr hrest
    by_cases ht0 : time = 0
    · rw [if_pos ht0] at H
      subst ht0
      refine rest_ok (.ref c) (.tup [.tup [toD t, sgD s]]) M4 ⟨[], by simp⟩ (sAsg2 H) ?_
      have A6 : At (M4 ++ [.lst (l.map fun r => keyD r.k)]) c ln n now l := A4.keep (p := p) kp_app h1 h2
      rw [ok_seq, show if3 j _ _ = _ from if3_zero (j := j) A6 (by omega) ht hs]
      refine ok_some.mpr ⟨_, rfl, c, ln, l, rfl, ⟨A6.hc, A6.hl, A6.ok.up (by omega)⟩, h1, h2, hp4.keep (Kp.push (ps := [])) (by simp), hk4.trans kp_app⟩
    · rw [if_neg ht0] at H
      refine rest_ok (.ref M4.length) (.tup []) (M4 ++ [clk now ((l ++ [(Tm.mk k (now + time) t s)]).map rowD)]) ⟨_, rfl⟩ (sAsg2 H) ?_
      obtain ⟨M6, hM6⟩ : ∃ M6, M6 = M4 ++ [clk now ((l ++ [(Tm.mk k (now + time) t s)]).map rowD)] ++ [.lst (l.map fun r => keyD r.k)] := ⟨_, rfl⟩
      rw [← hM6]
      have hl6 : M6[ln]? = some (.lst (l.map rowD)) := by rw [hM6]; exact append_get (append_get A4.hl)
      have hc6 : M6[M4.length]? = some (clk now ((l ++ [(Tm.mk k (now + time) t s)]).map rowD)) := by rw [hM6]; exact append_get push_last
      have hk6 : Kp [p] M4 M6 := by rw [hM6, List.append_assoc]; exact kp_app
      have hp6 : PotR M6 p (K + 4) := by rw [hM6, List.append_assoc]; exact hp4.keep (Kp.push (ps := [])) (by simp)
      have hr : TmOk (Tm.mk k (now + time) t s) := ⟨hk, ⟨by show -10000000000 < now + time; omega, by show now + time < 10000000000; omega⟩, ht, hs⟩
      have ok' := A4.ok.more hr hin
      rw [ok_seq, show if3 j _ _ = _ from if3_more (j := j) ht0]
      refine ok_some.mpr ?_
      show Ok (sSeq _ _ _ _) _
      rw [ok_seq, show moreS _ _ = _ from more_ok hl6 T]
      refine ok_some.mpr ?_
      have A7 : At (M6 ++ [.lst [rowD (Tm.mk k (now + time) t s)], .lst ((l ++ [Tm.mk k (now + time) t s]).map rowD)]) M4.length (M6.length + 1) (n + 1) now (l ++ [Tm.mk k (now + time) t s]) := ⟨append_get hc6, by rw [List.getElem?_append_right (by omega), show M6.length + 1 - M6.length = 1 by omega]; rfl, ok'⟩
      show Ok (retS j _ _) _
      rw [show retS j _ _ = _ from ret_ok (j := j) A7 (by omega)]
      have hlt := hp4.lt
      have hlt6 := hp6.lt
      exact ok_some.mpr ⟨_, rfl, M4.length, M6.length + 1, _, rfl, A7, by omega, by omega, hp6.keep (Kp.push (ps := [])) (by simp), (hk4.trans hk6).trans kp_app⟩
end Pr
set_option Elab.async false
set_option linter.all false
set_option maxRecDepth 100000
set_option maxHeartbeats 4000000
namespace Pr
open PySem PySem.Spec PyProof.Rows L2 Mi
theorem c_tick {j : Nat} {M : Mem} {p K c ln n : Nat} {now : Int} {l : List Tm} (hp : PotR M p K) (A : At M c ln n now l) (hn : n ≤ 40) :
    Ok (callD (j + 5) 11 [.ref c, .int now, .ref ln] M) (Lapped p K n (now + 1) M) := by
  have ok' : TmsN n (now + 1) (rest (now + 1) l) := (A.ok.rest _).up (Nat.le_refl _)
  have e := c_ticked (j := j) A.hc A.hl (A.ok.tms hn) (ok'.tms hn)
  rw [e]
  have hlt := hp.lt
  refine ok_some.mpr ⟨M.length + 2, M.length + 4, rest (now + 1) l, rfl, ⟨?_, ?_, ok'⟩, by omega, by omega, hp.keep (Kp.push (ps := [])) (by simp), kp_app⟩
  · rw [List.getElem?_append_right (by omega), show M.length + 2 - M.length = 2 by omega]; rfl
  · rw [List.getElem?_append_right (by omega), show M.length + 4 - M.length = 4 by omega]; rfl
def twoP (now : Int) (l : List Tm) : PyData := .tuple [.int now, .list (l.map rowP)]
theorem two_reads {M : Mem} {e : Nat} {now : Int} {l : List Tm} (he : M[e]? = some (.lst (l.map rowD))) (h : Tms l) : toPy M fuelD (.tup [.int now, .ref e]) = some (twoP now l) := by
  have q : toPys M 99996 (l.map rowD) = some (l.map rowP) := rl_toPys (n := 30) _ (rl_map (g := rowP) fun r hr => row_reads r) (by rw [List.length_map]; have := h.len; omega)
  have q2 : toPy M 99997 (.ref e) = some (.list (l.map rowP)) := by
    show (match lstAt M e with
      | some xs => (toPys M 99996 xs).map PyData.list
      | none => none) = _
    rw [lstAt_of he]
    simp only [q]
    rfl
  have q3 : toPys M 99998 [.ref e] = some [.list (l.map rowP)] := by
    show (match toPy M 99997 (.ref e) with
      | some d => (toPys M 99997 []).map (d :: ·)
      | none => none) = _
    rw [q2]
    rfl
  show (match toPy M 99998 (.int now) with
    | some d => (toPys M 99998 [.ref e]).map (d :: ·)
    | none => none).map PyData.tuple = _
  rw [q3]
  rfl
theorem two_fine {now : Int} {l : List Tm} (h : Tms l) (hs : Sm now) : Fine 20000 5 (twoP now l) := by
  have fl := FineL.map (g := rowP) (l := l) fun r hr => row_fine (h.ok r hr)
  have hlen := h.len
  have f : Fine 9000 4 (.list (l.map rowP)) := ⟨by simpa [PyData.canLay0] using fl.lay, by simp only [PyData.depth]; have := fl.deep; omega, by simp only [PyData.weight]; have := fl.size; omega, by simpa [PyData.showable] using fl.show_, by simpa [PyData.intsShort] using fl.short⟩
  exact (Fine.tup (.cons ((int_fine hs).up (Nat.le_refl 64) (by decide)) (.cons f (.nil (w := 0))))).up (by decide) (by decide)
theorem two_repr {M : Mem} {e : Nat} {now : Int} {l : List Tm} (he : M[e]? = some (.lst (l.map rowD))) (h : Tms l) (hs : Sm now) : fRepr [.tup [.int now, .ref e]] M = some (.str (twoP now l).shown, M) := by
  unfold fRepr
  simp only [two_reads he h, (two_fine h hs).can (by decide) (by decide), if_true]
theorem rows_pln : ∀ {l : List Tm}, (∀ r ∈ l, TmOk r) → plnAll (l.map rowP) = true
  | [], _ => rfl
  | r :: l, h => by
    rw [List.map_cons, plnAll, row_pln (h r List.mem_cons_self), rows_pln fun x hx => h x (List.mem_cons_of_mem _ hx)]
    rfl
theorem rows_inj : ∀ {l q : List Tm}, (∀ r ∈ l, TmOk r) → (∀ r ∈ q, TmOk r) → l.map rowP = q.map rowP → l = q := fun h h' e => by
  have z := tms_eqv h h'
  rw [e, tms_eqv h' h'] at z
  exact of_decide_eq_true (z.symm.trans (decide_eq_true rfl))
/-- the texts tell the tellings apart -/
theorem two_apart {now now' : Int} {l q : List Tm} (h : Tms l) (h' : Tms q) : decide ((twoP now l).shown = (twoP now' q).shown) = decide (now = now' ∧ l = q) := by
  rw [decide_eq_decide]
  refine ⟨fun e => ?_, fun ⟨e1, e2⟩ => by rw [e1, e2]⟩
  have p1 : pln (twoP now l) = true := by simp [twoP, pln, plnAll, rows_pln h.ok]
  have p2 : pln (twoP now' q) = true := by simp [twoP, pln, plnAll, rows_pln h'.ok]
  have e2 := shown_inj p1 p2 e
  simp only [twoP, PyData.tuple.injEq, List.cons.injEq, PyData.int.injEq, PyData.list.injEq, and_true] at e2
  exact ⟨e2.1, rows_inj h.ok h'.ok e2.2⟩
end Pr
set_option Elab.async false
set_option linter.all false
set_option maxRecDepth 100000
set_option maxHeartbeats 4000000
namespace Pr
open PySem PySem.Spec PyProof.Rows L2 Mi
theorem cut_take {xs : List D} {i : Nat} (h : i ≤ xs.length) : Mi.cutD xs none (some (i : Int)) = xs.take i := by
  unfold Mi.cutD
  rw [HT.sIx_nat, HT.sIx_none, Nat.min_eq_left h]
  simp
theorem cut_drop {xs : List D} {i : Nat} (h : i ≤ xs.length) : Mi.cutD xs (some (i : Int)) none = xs.drop i := by
  unfold Mi.cutD
  rw [HT.sIx_nat, HT.sIx_none, Nat.min_eq_left h, List.take_of_length_le (by rw [List.length_drop]; omega)]
/-- the rows of other keys -/
abbrev oth (k : Nat) (l : List Tm) : List Tm := l.filter fun r => !decide (r.k = k)
theorem filter_all {α : Type} {p : α → Bool} : ∀ {l : List α}, (∀ a ∈ l, p a = true) → l.filter p = l := fun h => List.filter_eq_self.mpr h
theorem oth_at {l : List Tm} {i : Nat} {r : Tm} (nd : (l.map (·.k)).Nodup) (h : l[i]? = some r) : l.take i ++ l.drop (i + 1) = oth r.k l ∧ l.filter (fun q => decide (q.k = r.k)) = [r] := by
  have hi : i < l.length := (List.getElem?_eq_some_iff.mp h).1
  have hr : l[i] = r := (List.getElem?_eq_some_iff.mp h).2
  have e : l = l.take i ++ r :: l.drop (i + 1) := by
    rw [← hr, ← List.drop_eq_getElem_cons hi, List.take_append_drop]
  have nd2 := nd
  rw [e, List.map_append, List.map_cons, List.nodup_append] at nd2
  obtain ⟨_, n2, n3⟩ := nd2
  rw [List.nodup_cons] at n2
  have a1 : ∀ a ∈ l.take i, a.k ≠ r.k := fun a ha => n3 _ (List.mem_map.mpr ⟨a, ha, rfl⟩) _ List.mem_cons_self
  have a2 : ∀ a ∈ l.drop (i + 1), a.k ≠ r.k := fun a ha z => n2.1 (List.mem_map.mpr ⟨a, ha, z⟩)
  constructor
  · have : oth r.k l = oth r.k (l.take i ++ r :: l.drop (i + 1)) := by rw [← e]
    rw [this]
    unfold oth
    rw [List.filter_append, List.filter_cons, if_neg (by simp), filter_all fun a ha => by simp [a1 a ha], filter_all fun a ha => by simp [a2 a ha]]
  · have : l.filter (fun q => decide (q.k = r.k)) = (l.take i ++ r :: l.drop (i + 1)).filter (fun q => decide (q.k = r.k)) := by rw [← e]
    rw [this, List.filter_append, List.filter_cons, if_pos (by simp), List.filter_eq_nil_iff.mpr fun a ha => by simp [a1 a ha], List.filter_eq_nil_iff.mpr fun a ha => by simp [a2 a ha]]
    rfl
theorem oth_none {l : List Tm} {k : Nat} (h : k ∉ l.map (·.k)) : oth k l = l ∧ l.filter (fun q => decide (q.k = k)) = [] := by
  have a : ∀ q ∈ l, q.k ≠ k := fun q hq z => h (List.mem_map.mpr ⟨q, hq, z⟩)
  exact ⟨filter_all fun q hq => by simp [a q hq], List.filter_eq_nil_iff.mpr fun q hq => by simp [a q hq]⟩
theorem oEq_row {M : Mem} {k : Nat} {r : Tm} {ρ : Mi.Loc} (e3 : ρ[3]? = some (some (rowD r))) (e1 : ρ[1]? = some (some (keyD k))) (h : TmOk r) (hk : k ∈ kinds8) :
    bOf (eBin oEq (eBin oIx (eVar 3) (eC (.int 0))) (eVar 1)) ρ M = some (decide (r.k = k), M) := by
  have v3 : eVar 3 ρ M = some (rowD r, M) := by unfold eVar; rw [e3]
  have v1 : eVar 1 ρ M = some (keyD k, M) := by unfold eVar; rw [e1]
  unfold bOf
  rw [show eBin oEq (eBin oIx (eVar 3) (eC (.int 0))) (eVar 1) ρ M = some (.bl (decide (r.k = k)), M) from by
    rw [eBin_at (key_ix v3 rfl) v1]
    exact oEq_key h.k hk]
  rfl
theorem p_without {j : Nat} {M : Mem} {c k : Nat} {now : Int} {l : List Tm} (hc : M[c]? = some (clk now (l.map rowD))) (h : Tms l) (hk : k ∈ kinds8) :
    (k ∉ l.map (·.k) ∧ callP (j + 4) 17 [.ref c, keyD k] M = some (.val (.tup [.non, .ref c]), M)) ∨
    ∃ r ∈ l, r.k = k ∧ l.filter (fun q => decide (q.k = k)) = [r] ∧ callP (j + 4) 17 [.ref c, keyD k] M = some (.val (.tup [.int (r.m - now), .ref M.length]), M ++ [clk now ((oth k l).map rowD)]) := by
  have z2 := sz_small (n := 2) (by decide)
  have loop : Ok ((sFor (iEnT (eCons (eFld ct "timers" (eVar 0)) eNil)) (gT (gsCons (gN 2) (gsCons (gN 3) gsNil))) (sIf (bOf (eBin oEq (eBin oIx (eVar 3) (eC (.int 0))) (eVar 1))) (sRet (eTup (eCons (eBin oSub (eBin oIx (eVar 3) (eC (.int 1))) (eFld ct "now" (eVar 0))) (eCons (eCall (dnX (callP (j + 3) 2)) (eCons (eFld ct "now" (eVar 0)) (eCons (eBin oAdd (eSl (eFld ct "timers" (eVar 0)) poNone (poSome (eVar 2))) (eSl (eFld ct "timers" (eVar 0)) (poSome (eBin oAdd (eVar 2) (eC (.int 1)))) poNone)) eNil))) eNil)))) sNil)) [some (.ref c), some (keyD k), none, none] M)
      fun o M' => (k ∉ l.map (·.k) ∧ M' = M ∧ ∃ x y, o = .next [some (.ref c), some (keyD k), x, y]) ∨ ∃ r ∈ l, r.k = k ∧ l.filter (fun q => decide (q.k = k)) = [r] ∧ o = .ret (.tup [.int (r.m - now), .ref M.length]) ∧ M' = M ++ [clk now ((oth k l).map rowD)] := by
    have f2 := fld_tms (ρ := [some (.ref c), some (keyD k), none, none]) (ev := eVar 0) rfl hc
    refine ok_for l.length (fun i ρ M' => M' = M ∧ (∃ x y, ρ = [some (.ref c), some (keyD k), x, y]) ∧ ∀ r ∈ l.take i, r.k ≠ k) ?_ ?_
    · refine ⟨fun _ => some (enumD (l.map rowD)), M, by unfold iEnT; simp only [eCons, eNil, bindO, f2], ⟨rfl, ⟨_, _, rfl⟩, by simp⟩, ⟨_, rfl, by simp [enumD]⟩, ?_⟩
      rintro i _ M1 hi ⟨rfl, ⟨x, y, rfl⟩, hno⟩
      refine ⟨_, rfl, by simp [enumD], fun d hd => ?_⟩
      obtain ⟨dr, hdr, rfl⟩ := enum_get hd
      obtain ⟨r, hr, rfl⟩ := by rw [List.getElem?_map, Option.map_eq_some_iff] at hdr; exact hdr
      have hm := List.mem_of_getElem? hr
      have hil : i < l.length := (List.getElem?_eq_some_iff.mp hr).1
      refine ⟨[some (.ref c), some (keyD k), some (.int (i : Nat)), some (rowD r)], rfl, ?_⟩
      have e2 := oEq_row (M := M1) (k := k) (r := r) (ρ := [some (.ref c), some (keyD k), some (.int (i : Nat)), some (rowD r)]) rfl rfl (h.ok r hm) hk
      unfold sIf
      rw [ok_bind, e2]
      refine ok_some.mpr ?_
      by_cases hq : r.k = k
      · rw [decide_eq_true hq, if_pos rfl]
        obtain ⟨o1, o2⟩ := oth_at h.nd hr
        have g1 := mom_ix (r := r) (ρ := [some (.ref c), some (keyD k), some (.int (i : Nat)), some (rowD r)]) (M := M1) (ev1 := eVar 3) (ev2 := eC (.int 1)) rfl rfl
        have f1 := fld_now (ρ := [some (.ref c), some (keyD k), some (.int (i : Nat)), some (rowD r)]) (ev := eVar 0) rfl hc
        have f3 := fld_tms (ρ := [some (.ref c), some (keyD k), some (.int (i : Nat)), some (rowD r)]) (ev := eVar 0) rfl hc
        have hlen := h.len
        have c1 : Mi.cutD (l.map rowD) none (some (i : Int)) = (l.take i).map rowD := by rw [cut_take (by rw [List.length_map]; omega), List.map_take]
        have c2 : Mi.cutD (l.map rowD) (some ((i : Int) + 1)) none = (l.drop (i + 1)).map rowD := by
          rw [show ((i : Int) + 1) = ((i + 1 : Nat) : Int) by omega, cut_drop (by rw [List.length_map]; omega), List.map_drop]
        have zl := sz_small (n := (l.take i).length + (l.drop (i + 1)).length) (by simp; omega)
        have e3 : dnX (callP (j + 3) 2) [.int now, .tup ((oth r.k l).map rowD)] M1 = some (.ref M1.length, M1 ++ [clk now ((oth r.k l).map rowD)]) := by
          unfold dnX
          rw [p_clock_at]
        have s1 : eSl (eFld ct "timers" (eVar 0)) poNone (poSome (eVar 2)) [some (.ref c), some (keyD k), some (.int (i : Nat)), some (rowD r)] M1 = some (.tup ((l.take i).map rowD), M1) := by
          unfold eSl
          rw [f3]
          simp [bindO, poNone, poSome, eVar, c1]
        have s2 : eSl (eFld ct "timers" (eVar 0)) (poSome (eBin oAdd (eVar 2) (eC (.int 1)))) poNone [some (.ref c), some (keyD k), some (.int (i : Nat)), some (rowD r)] M1 = some (.tup ((l.drop (i + 1)).map rowD), M1) := by
          unfold eSl
          rw [f3]
          simp [bindO, poNone, poSome, eVar, eBin, eC, oAdd, c2]
        have s3 : eBin oAdd (eSl (eFld ct "timers" (eVar 0)) poNone (poSome (eVar 2))) (eSl (eFld ct "timers" (eVar 0)) (poSome (eBin oAdd (eVar 2) (eC (.int 1)))) poNone) [some (.ref c), some (keyD k), some (.int (i : Nat)), some (rowD r)] M1 = some (.tup ((oth r.k l).map rowD), M1) := by
          rw [eBin_at s1 s2, ← o1, List.map_append]
          exact if_pos (by rw [List.length_map, List.length_map]; exact zl)
        have s4 : eBin oSub (eBin oIx (eVar 3) (eC (.int 1))) (eFld ct "now" (eVar 0)) [some (.ref c), some (keyD k), some (.int (i : Nat)), some (rowD r)] M1 = some (.int (r.m - now), M1) := eBin_at g1 f1
        subst hq
        refine ⟨.ret (.tup [.int (r.m - now), .ref M1.length]), M1 ++ [clk now ((oth r.k l).map rowD)], ?_, ?_⟩
        · simp only [sRet, eTup, eCons, eCall, eNil, bindO, s4, s3, f1, e3]
          rw [if_pos (by simpa using z2)]
        · exact .inr ⟨r, hm, rfl, o2, rfl, rfl⟩
      · rw [decide_eq_false hq, if_neg (by decide)]
        refine ok_some.mpr ⟨rfl, ⟨_, _, rfl⟩, fun a ha => ?_⟩
        have ht : l.take (i + 1) = l.take i ++ [r] := by rw [List.take_add_one, hr]; rfl
        rw [ht, List.mem_append, List.mem_singleton] at ha
        rcases ha with ha | ha
        · exact hno _ ha
        · rw [ha]; exact hq
    · rintro _ _ ⟨rfl, ⟨x, y, rfl⟩, hno⟩
      rw [List.take_length] at hno
      exact .inl ⟨fun hx => by obtain ⟨r, hr, e⟩ := List.mem_map.mp hx; exact hno r hr e, rfl, x, y, rfl⟩
  obtain ⟨o, M', e, ho⟩ := loop
  have st : startD 4 [.ref c, keyD k] = [some (.ref c), some (keyD k), none, none] := rfl
  rcases ho with ⟨hn, rfl, x, y, rfl⟩ | ⟨r, hr, hq, hf, rfl, rfl⟩
  · refine .inl ⟨hn, ?_⟩
    show runX 4 (b_Clock_without (callP (j + 3))) [.ref c, keyD k] M' = _
    unfold runX b_Clock_without
    rw [st]
    unfold sSeq
    rw [e]
    simp [bindO, sRet, eTup, eCons, eNil, eC, eVar, z2]
  · refine .inr ⟨r, hr, hq, hf, ?_⟩
    show runX 4 (b_Clock_without (callP (j + 3))) [.ref c, keyD k] M = _
    unfold runX b_Clock_without
    rw [st]
    unfold sSeq
    rw [e]
    rfl
end Pr
set_option Elab.async false
set_option linter.all false
set_option maxRecDepth 100000
set_option maxHeartbeats 4000000
namespace Pr
open PySem PySem.Spec PyProof.Rows L2 Mi
theorem ne_of_eq {x y : D} {M : Mem} {b : Bool} (e : oEq x y M = some (.bl b, M)) : oNe x y M = some (.bl (!b), M) := by
  have g : ∀ o : Option Bool, (o.map fun b => (Mi.D.bl b, M)) = some (.bl b, M) → (o.map fun b => (Mi.D.bl (!b), M)) = some (.bl (!b), M) := fun o q => by
    cases o with
    | none => cases q
    | some c => cases q; rfl
  cases x <;> cases y <;> (simp only [oEq] at e; simp only [oNe]) <;> first
    | exact g _ e
    | (simp only [Option.some.injEq, Prod.mk.injEq, D.bl.injEq, and_true] at e
       simp only [e])
theorem int_len' {i : Int} (h : -100000000000 < i ∧ i < 100000000000) : (cl (Str.ofString (toString i))).length ≤ 13 := by
  have nat : ∀ m : Nat, m < 10 ^ 11 → m.repr.toList.length ≤ 11 := fun m hm => by
    rw [String.length_toList]
    exact (Nat.length_repr_le_iff (by decide)).mpr hm
  rw [cl_lit, List.length_map, int_repr]
  cases i with
  | ofNat m =>
    have := nat m (by simp only [Int.ofNat_eq_natCast] at h; omega)
    show m.repr.toList.length ≤ 13
    omega
  | negSucc m =>
    have := nat m.succ (by omega)
    have e : (Int.negSucc m).repr = "-" ++ m.succ.repr := rfl
    rw [e, String.toList_append, List.length_append]
    have : ("-" : String).toList.length = 1 := rfl
    omega
theorem int_fine2 {i : Int} (h : -100000000000 < i ∧ i < 100000000000) : Fine 64 0 (.int i) := by
  refine ⟨by simp [PyData.canLay0], by simp [PyData.depth], ?_, ?_, ?_⟩
  · simp only [PyData.weight]
    have : i.natAbs.log2 < 63 := log_lt (by omega) (by decide)
    split <;> omega
  · simp only [PyData.showable, decide_eq_true_eq]
    exact log_lt (Nat.lt_of_lt_of_le (show i.natAbs < 2 ^ 64 by omega) (Nat.pow_le_pow_right (by decide) (by decide))) (by decide)
  · simp only [PyData.intsShort, PyData.shown]
    exact decide_eq_true (int_len' h)
theorem non_fine : Fine 64 0 .none := by
  refine ⟨by simp [PyData.canLay0], by simp [PyData.depth], by simp [PyData.weight], by simp [PyData.showable], by simp [PyData.intsShort]⟩
theorem repr_int {M : Mem} {i : Int} (h : -100000000000 < i ∧ i < 100000000000) : fRepr [.int i] M = some (.str (PyData.int i).shown, M) := repr_plain r0_int (by decide) (int_fine2 h) (by decide) (by decide)
theorem repr_non {M : Mem} : fRepr [.non] M = some (.str (PyData.none).shown, M) := repr_plain r0_non (by decide) non_fine (by decide) (by decide)
theorem back_keys {M : Mem} {ln : Nat} {l : List Tm} {a0 a1 a2 a4 a6 a7 a8 a9 a10 : Option D} (hl : M[ln]? = some (.lst (l.map rowD))) (h : Tms l) :
    eLc (iSq (eVar 3)) [5] (gN 5) bYes (eBin oIx (eVar 5) (eC (.int 0))) [a0, a1, a2, some (.ref ln), a4, none, a6, a7, a8, a9, a10] M = some (.ref M.length, M ++ [.lst (l.map fun r => keyD r.k)]) := by
  have zl := sz_small (n := l.length) (by have := h.len; omega)
  have e := lc_map (vs := [5]) (g := gN 5) (t := bYes) (el := eBin oIx (eVar 5) (eC (.int 0))) (src := iSq (eVar 3)) (ρ := [a0, a1, a2, some (.ref ln), a4, none, a6, a7, a8, a9, a10]) (M := M) (M1 := M) (get := fun M2 => Mi.lstAt M2 ln) l rowD (fun _ => true) (fun r => keyD r.k) (by simp [iSq, eVar, bindO, lstAt_of hl]) zl (fun acc => lstAt_of (append_get hl)) fun r hr => ⟨[a0, a1, a2, some (.ref ln), a4, some (rowD r), a6, a7, a8, a9, a10], rfl, fun acc => ⟨rfl, fun _ => key_ix rfl rfl⟩⟩
  rw [e, filter_all fun _ _ => rfl]
theorem back_due {M : Mem} {ln k : Nat} {now : Int} {l : List Tm} {a0 a1 a6 a7 a8 a9 a10 : Option D} (hl : M[ln]? = some (.lst (l.map rowD))) (h : Tms l) (hk : k ∈ kinds8) :
    eLc (iSq (eVar 3)) [5] (gN 5) (bOf (eBin oEq (eBin oIx (eVar 5) (eC (.int 0))) (eVar 4))) (eBin oSub (eBin oIx (eVar 5) (eC (.int 1))) (eVar 2)) [a0, a1, some (.int now), some (.ref ln), some (keyD k), none, a6, a7, a8, a9, a10] M = some (.ref M.length, M ++ [.lst ((l.filter fun r => decide (r.k = k)).map fun r => .int (r.m - now))]) := by
  have zl := sz_small (n := l.length) (by have := h.len; omega)
  refine lc_map (M1 := M) (get := fun M2 => Mi.lstAt M2 ln) l rowD (fun r => decide (r.k = k)) (fun r => .int (r.m - now)) (by simp [iSq, eVar, bindO, lstAt_of hl]) zl (fun acc => lstAt_of (append_get hl)) fun r hr => ⟨[a0, a1, some (.int now), some (.ref ln), some (keyD k), some (rowD r), a6, a7, a8, a9, a10], rfl, fun acc => ⟨?_, fun _ => ?_⟩⟩
  · unfold bOf
    rw [eBin_at (key_ix (r := r) rfl rfl) rfl, oEq_key (h.ok r hr).k hk]
    rfl
  · rw [eBin_at (mom_ix (r := r) rfl rfl) rfl]
    rfl
theorem back_rest {M : Mem} {ln k : Nat} {now : Int} {l : List Tm} {a0 a1 a2 a6 a7 a8 a9 a10 : Option D} (hl : M[ln]? = some (.lst (l.map rowD))) (h : Tms l) (hk : k ∈ kinds8) :
    eLc (iSq (eVar 3)) [5] (gN 5) (bOf (eBin oNe (eBin oIx (eVar 5) (eC (.int 0))) (eVar 4))) (eVar 5) [a0, a1, a2, some (.ref ln), some (keyD k), none, a6, a7, a8, a9, a10] M = some (.ref M.length, M ++ [.lst ((oth k l).map rowD)]) := by
  have zl := sz_small (n := l.length) (by have := h.len; omega)
  refine lc_map (M1 := M) (get := fun M2 => Mi.lstAt M2 ln) l rowD (fun r => !decide (r.k = k)) rowD (by simp [iSq, eVar, bindO, lstAt_of hl]) zl (fun acc => lstAt_of (append_get hl)) fun r hr => ⟨[a0, a1, a2, some (.ref ln), some (keyD k), some (rowD r), a6, a7, a8, a9, a10], rfl, fun acc => ⟨?_, fun _ => rfl⟩⟩
  have ne : ∀ M : Mem, oNe (keyD r.k) (keyD k) M = some (.bl (!decide (r.k = k)), M) := fun M => ne_of_eq (oEq_key (h.ok r hr).k hk)
  unfold bOf
  rw [eBin_at (key_ix (r := r) rfl rfl) rfl, ne]
  rfl
theorem meth_without {j : Nat} {M : Mem} {c k : Nat} {now : Int} {l : List Tm} {ρ : Mi.Loc} {evo ev1 : Ev} (he : evo ρ M = some (.ref c, M)) (he1 : ev1 ρ M = some (keyD k, M)) (hc : M[c]? = some (clk now (l.map rowD))) (h : Tms l) (hk : k ∈ kinds8) :
    (k ∉ l.map (·.k) ∧ eMeth ct tab "without" (callN (j + 4)) evo (eCons ev1 eNil) ρ M = some (.tup [.non, .ref c], M)) ∨
    ∃ r ∈ l, r.k = k ∧ l.filter (fun q => decide (q.k = k)) = [r] ∧ eMeth ct tab "without" (callN (j + 4)) evo (eCons ev1 eNil) ρ M = some (.tup [.int (r.m - now), .ref M.length], M ++ [clk now ((oth k l).map rowD)]) := by
  have hc' := hc
  unfold clk at hc'
  have e1 : ct.me 22 "without" = some 17 := by decide +kernel
  have e2 : tab[17]? = some ((Str.ofString "without"), P_Clock_without) := rfl
  have e4 : (List.lookup (Str.ofString "without") [(Str.ofString "now", D.int now), (Str.ofString "timers", D.tup (l.map rowD))]).isNone = true := by
    rw [List.lookup_cons, show (Str.ofString "without" == Str.ofString "now") = false by decide +kernel, List.lookup_cons, show (Str.ofString "without" == Str.ofString "timers") = false by decide +kernel]
    rfl
  have b : ∀ v M', callP (j + 4) 17 [.ref c, keyD k] M = some (.val v, M') → eMeth ct tab "without" (callN (j + 4)) evo (eCons ev1 eNil) ρ M = some (v, M') := fun v M' e => by
    have e' : callN (j + 4) 17 [.ref c, keyD k] M = some (.val v, M') := e
    unfold eMeth
    simp only [he, bindO, eCons, he1, eNil]
    unfold dnX gMeth
    simp only [hc', e4, e1, e2, if_true]
    rw [if_pos (show P_Clock_without.length = ([keyD k] : List D).length + 1 from rfl), e']
  rcases p_without (j := j) (M := M) hc h hk with ⟨n1, n2⟩ | ⟨r, r1, r2, r3, r4⟩
  · exact .inl ⟨n1, b _ _ n2⟩
  · exact .inr ⟨r, r1, r2, r3, b _ _ r4⟩
end Pr
set_option Elab.async false
set_option linter.all false
set_option maxRecDepth 100000
set_option maxHeartbeats 4000000
namespace Pr
open PySem PySem.Spec PyProof.Rows L2 Mi
theorem py_nil {M : Mem} {d : Nat} (h : M[d]? = some (.lst [])) : toPy M fuelD (.ref d) = some (.list []) := by
  show (match lstAt M d with
    | some xs => (toPys M 99999 xs).map PyData.list
    | none => none) = _
  rw [lstAt_of h]
  rfl
theorem py_one {M : Mem} {d : Nat} {x : Int} (h : M[d]? = some (.lst [.int x])) : toPy M fuelD (.ref d) = some (.list [.int x]) := by
  show (match lstAt M d with
    | some xs => (toPys M 99999 xs).map PyData.list
    | none => none) = _
  rw [lstAt_of h]
  rfl
theorem sh_nil : SeqAt.shaped (.list []) = true := by simp [SeqAt.shaped, PyData.canLay0, PyData.canLayAll0, PyData.depth, PyData.depthAll]
theorem sh_one {x : Int} : SeqAt.shaped (.list [.int x]) = true := by simp [SeqAt.shaped, PyData.canLay0, PyData.canLayAll0, PyData.depth, PyData.depthAll]
theorem eq_nil_nil {M : Mem} {d e : Nat} (h : M[d]? = some (.lst [])) (h' : M[e]? = some (.lst [])) : eqD M (.ref d) (.ref e) = some true := by
  unfold eqD
  simp only [py_nil h, py_nil h', sh_nil, and_self, if_true]
  simp [PyData.eqv, PyData.eqvAll]
theorem eq_one_nil {M : Mem} {d e : Nat} {x : Int} (h : M[d]? = some (.lst [.int x])) (h' : M[e]? = some (.lst [])) : eqD M (.ref d) (.ref e) = some false := by
  unfold eqD
  simp only [py_one h, py_nil h', sh_nil, sh_one, and_self, if_true]
  simp [PyData.eqv, PyData.eqvAll]
theorem eqD_bl {M : Mem} {a : Bool} : eqD M (.bl a) (.bl a) = some true := by
  have r0 : Reads0 1 (.bl a) (.bool a) := fun M f h => by cases f with | zero => omega | succ f => rfl
  rw [eq_plain r0 r0 (by decide) (by decide) (by simp [SeqAt.shaped, PyData.canLay0, PyData.depth]) (by simp [SeqAt.shaped, PyData.canLay0, PyData.depth])]
  cases a <;> rfl
abbrev wellS (j : Nat) : Es := (sSet 10 (eAnd (eBin oEq (eCall fRepr (eCons (eVar 8) eNil)) (eCall fRepr (eCons (eIf (bOf (eBin oNe (eVar 6) (eLst eNil))) (eBin oIx (eVar 6) (eC (.int 0))) (eC .non)) eNil))) (eCall (dnX (callN (j + 4) 8)) (eCons (eVar 9) (eCons (eVar 2) (eCons (eVar 7) eNil))))))
abbrev bretS (j : Nat) : Es := (sRet (eIf (bAnd (bOf (eVar 10)) (bOf (eBin oEq (eBin (oEqO ct tab (callN (j + 4)) nf) (eVar 9) (eVar 1)) (eBin oEq (eVar 6) (eLst eNil))))) (eTup (eCons (eVar 9) (eCons (eVar 7) eNil))) (eTup (eCons (eC .non) (eCons (eLst eNil) eNil)))))
theorem lst_nil {ρ : Mi.Loc} {M : Mem} : eLst eNil ρ M = some (.ref M.length, M ++ [.lst []]) := by
  have z0 := sz_small (n := 0) (by decide)
  simp [eLst, eNil, bindO, z0]
/-- the end, whatever was taken back -/
theorem back_end {j : Nat} {M : Mem} {c cl q r : Nat} {now : Int} {l lr : List Tm} {dv : D} {ds : List D} {a0 a3 a4 a5 : Option D} {x : Str} (hc : M[c]? = some (clk now (l.map rowD))) (h : Tms l) (hcl : M[cl]? = some (clk now (lr.map rowD))) (hq : M[q]? = some (.lst ds)) (hr : M[r]? = some (.lst (lr.map rowD))) (h' : Tms lr)
    (hdv : ∀ M, fRepr [dv] M = some (.str x, M)) (hds : (ds = [] ∧ dv = .non ∧ lr = l) ∨ ∃ i, ds = [.int i] ∧ dv = .int i ∧ lr ≠ l) :
    ∃ g, (sSeq (wellS j) (bretS j)) [a0, some (.ref c), some (.int now), a3, a4, a5, some (.ref q), some (.ref r), some dv, some (.ref cl), none] M = some (.ret (.tup [.ref cl, .ref r]), M ++ g) := by
  have z2 := sz_small (n := 2) (by decide)
  obtain ⟨b, hb⟩ : ∃ b, b = decide (now = now ∧ lr = l) := ⟨_, rfl⟩
  obtain ⟨M1, hM1⟩ : ∃ M1, M1 = M ++ [MO.lst []] := ⟨_, rfl⟩
  have e1 : M1[M.length]? = some (.lst []) := by rw [hM1]; exact push_last
  have q1 : M1[q]? = some (.lst ds) := by rw [hM1]; exact append_get hq
  have c1 : M1[c]? = some (clk now (l.map rowD)) := by rw [hM1]; exact append_get hc
  have cl1 : M1[cl]? = some (clk now (lr.map rowD)) := by rw [hM1]; exact append_get hcl
  have r1 : M1[r]? = some (.lst (lr.map rowD)) := by rw [hM1]; exact append_get hr
  have t1 : dnX (callN (j + 4) 8) [.ref cl, .int now, .ref r] M1 = some (.bl true, M1) := told (j := j + 3) cl1 r1 h'
  have ln : eLst eNil [a0, some (.ref c), some (.int now), a3, a4, a5, some (.ref q), some (.ref r), some dv, some (.ref cl), none] M = some (.ref M.length, M1) := by rw [hM1]; exact lst_nil
  have dq : eqD M1 (.ref q) (.ref M.length) = some b ∧ eIf (bOf (eBin oNe (eVar 6) (eLst eNil))) (eBin oIx (eVar 6) (eC (.int 0))) (eC .non) [a0, some (.ref c), some (.int now), a3, a4, a5, some (.ref q), some (.ref r), some dv, some (.ref cl), none] M = some (dv, M1) := by
    rcases hds with ⟨rfl, rfl, rfl⟩ | ⟨i, rfl, rfl, hne⟩
    · have := eq_nil_nil q1 e1
      refine ⟨by rw [this, hb]; simp, ?_⟩
      unfold eIf bOf
      rw [eBin_at rfl ln]
      simp [oNe, this, bindO, eC]
    · have := eq_one_nil q1 e1
      refine ⟨by rw [this, hb]; simp [hne], ?_⟩
      unfold eIf bOf
      rw [eBin_at rfl ln]
      simp [oNe, this, bindO]
      rw [eBin_at rfl rfl]
      simp [oIx, lstAt_of q1, atD, ixN]
  have w1 : wellS j [a0, some (.ref c), some (.int now), a3, a4, a5, some (.ref q), some (.ref r), some dv, some (.ref cl), none] M = some (.next [a0, some (.ref c), some (.int now), a3, a4, a5, some (.ref q), some (.ref r), some dv, some (.ref cl), some (.bl true)], M1) := by
    simp [sSet, eAnd, bOf, eBin, eCall, eCons, eNil, bindO, eVar, hdv, dq.2, oEq, t1]
  obtain ⟨M2, hM2⟩ : ∃ M2, M2 = M1 ++ [MO.lst []] := ⟨_, rfl⟩
  have e2 : M2[M1.length]? = some (.lst []) := by rw [hM2]; exact push_last
  have q2 : M2[q]? = some (.lst ds) := by rw [hM2]; exact append_get q1
  have ln2 : eLst eNil [a0, some (.ref c), some (.int now), a3, a4, a5, some (.ref q), some (.ref r), some dv, some (.ref cl), some (.bl true)] M1 = some (.ref M1.length, M2) := by rw [hM2]; exact lst_nil
  have dq2 : eqD M2 (.ref q) (.ref M1.length) = some b := by
    rcases hds with ⟨rfl, _, rfl⟩ | ⟨i, rfl, _, hne⟩
    · rw [eq_nil_nil q2 e2, hb]; simp
    · rw [eq_one_nil q2 e2, hb]; simp [hne]
  have o1 : eBin (oEqO ct tab (callN (j + 4)) nf) (eVar 9) (eVar 1) [a0, some (.ref c), some (.int now), a3, a4, a5, some (.ref q), some (.ref r), some dv, some (.ref cl), some (.bl true)] M1 = some (.bl b, M1) := by
    rw [eBin_at rfl rfl, o_eq (j := j + 3) cl1 c1 h' h, hb]
  have o2 : eBin oEq (eVar 6) (eLst eNil) [a0, some (.ref c), some (.int now), a3, a4, a5, some (.ref q), some (.ref r), some dv, some (.ref cl), some (.bl true)] M1 = some (.bl b, M2) := by
    rw [eBin_at rfl ln2]
    show (eqD M2 (.ref q) (.ref M1.length)).map (fun b => (Mi.D.bl b, M2)) = _
    rw [dq2]; rfl
  have o3 : eBin oEq (eBin (oEqO ct tab (callN (j + 4)) nf) (eVar 9) (eVar 1)) (eBin oEq (eVar 6) (eLst eNil)) [a0, some (.ref c), some (.int now), a3, a4, a5, some (.ref q), some (.ref r), some dv, some (.ref cl), some (.bl true)] M1 = some (.bl true, M2) := by
    rw [eBin_at o1 o2]
    show (eqD M2 (.bl b) (.bl b)).map (fun b => (Mi.D.bl b, M2)) = _
    rw [eqD_bl]; rfl
  refine ⟨[.lst [], .lst []], ?_⟩
  unfold sSeq
  rw [w1]
  simp only [bindO]
  show bretS j _ _ = _
  unfold bretS sRet eIf bAnd
  rw [show bOf (eVar 10) [a0, some (.ref c), some (.int now), a3, a4, a5, some (.ref q), some (.ref r), some dv, some (.ref cl), some (.bl true)] M1 = some (true, M1) from rfl]
  simp only [bindO, if_true]
  rw [show bOf (eBin oEq (eBin (oEqO ct tab (callN (j + 4)) nf) (eVar 9) (eVar 1)) (eBin oEq (eVar 6) (eLst eNil))) [a0, some (.ref c), some (.int now), a3, a4, a5, some (.ref q), some (.ref r), some dv, some (.ref cl), some (.bl true)] M1 = some (true, M2) from by unfold bOf; rw [o3]; rfl]
  simp only [if_true]
  simp [eTup, eCons, eNil, eVar, bindO, z2, hM2, hM1]
end Pr
set_option Elab.async false
set_option linter.all false
set_option maxRecDepth 100000
set_option maxHeartbeats 4000000
namespace Pr
open PySem PySem.Spec PyProof.Rows L2 Mi
abbrev bkeys (l : List Tm) : List D := (l.map fun r => keyD r.k) ++ (l.map fun r => keyD r.k) ++ [keyD 0, keyD 7]
theorem bkeys_of {l : List Tm} (h : Tms l) {d : D} (hd : d ∈ bkeys l) : ∃ k ∈ kinds8, d = keyD k := by
  simp only [bkeys, List.mem_append, List.mem_map, List.mem_cons, List.not_mem_nil, or_false] at hd
  rcases hd with (⟨r, hr, rfl⟩ | ⟨r, hr, rfl⟩) | rfl | rfl
  · exact ⟨_, (h.ok r hr).k, rfl⟩
  · exact ⟨_, (h.ok r hr).k, rfl⟩
  · exact ⟨0, by decide, rfl⟩
  · exact ⟨7, by decide, rfl⟩
/-- the keys that are drawn from -/
theorem back_pool {M : Mem} {ln : Nat} {l : List Tm} {a0 a1 a2 : Option D} (hl : M[ln]? = some (.lst (l.map rowD))) (h : Tms l) :
    ∃ M3, (∃ g, M3 = M ++ g) ∧ eBin oAdd (eBin oMulA (eLc (iSq (eVar 3)) [5] (gN 5) bYes (eBin oIx (eVar 5) (eC (.int 0)))) (eC (.int 2))) (eLst (eCons (eTup (eCons (eC (.str "ref")) (eCons (eTup eNil) (eCons (eC (.int 1)) eNil)))) (eCons (eC (.str "none")) eNil))) [a0, a1, a2, some (.ref ln), none, none, none, none, none, none, none] M = some (.ref M3.length, M3 ++ [.lst (bkeys l)]) := by
  have z0 := sz_small (n := 0) (by decide)
  have z2 := sz_small (n := 2) (by decide)
  have z3 := sz_small (n := 3) (by decide)
  have hlen := h.len
  obtain ⟨ks, hks⟩ : ∃ ks, ks = l.map fun r => keyD r.k := ⟨_, rfl⟩
  have hk : ks.length ≤ 40 := by rw [hks, List.length_map]; exact hlen
  have e1 := back_keys (a0 := a0) (a1 := a1) (a2 := a2) (a4 := none) (a6 := none) (a7 := none) (a8 := none) (a9 := none) (a10 := none) hl h
  rw [← hks] at e1
  obtain ⟨M1, hM1⟩ : ∃ M1, M1 = M ++ [MO.lst ks] := ⟨_, rfl⟩
  rw [← hM1] at e1
  have g1 : M1[M.length]? = some (.lst ks) := by rw [hM1]; exact push_last
  have e2 : eBin oMulA (eLc (iSq (eVar 3)) [5] (gN 5) bYes (eBin oIx (eVar 5) (eC (.int 0)))) (eC (.int 2)) [a0, a1, a2, some (.ref ln), none, none, none, none, none, none, none] M = some (.ref M1.length, M1 ++ [.lst (ks ++ ks)]) := by
    rw [eBin_at e1 rfl]
    have zk := sz_small (n := ks.length * (2 : Int).toNat) (by show ks.length * 2 ≤ 1000; omega)
    show oRep (.ref M.length) (.int 2) M1 = _
    unfold oRep
    simp only [g1]
    rw [if_pos ⟨by decide, by decide, zk⟩]
    simp
  obtain ⟨M2, hM2⟩ : ∃ M2, M2 = M1 ++ [MO.lst (ks ++ ks)] := ⟨_, rfl⟩
  rw [← hM2] at e2
  have g2 : M2[M1.length]? = some (.lst (ks ++ ks)) := by rw [hM2]; exact push_last
  obtain ⟨M3, hM3⟩ : ∃ M3, M3 = M2 ++ [MO.lst [keyD 0, keyD 7]] := ⟨_, rfl⟩
  have e3 : eLst (eCons (eTup (eCons (eC (.str "ref")) (eCons (eTup eNil) (eCons (eC (.int 1)) eNil)))) (eCons (eC (.str "none")) eNil)) [a0, a1, a2, some (.ref ln), none, none, none, none, none, none, none] M2 = some (.ref M2.length, M3) := by
    simp [eLst, eCons, eTup, eNil, eC, bindO, z0, z2, z3, keyD, hM3]
  have g3 : M3[M1.length]? = some (.lst (ks ++ ks)) := by rw [hM3]; exact append_get g2
  have g4 : M3[M2.length]? = some (.lst [keyD 0, keyD 7]) := by rw [hM3]; exact push_last
  refine ⟨M3, ⟨_, by rw [hM3, hM2, hM1, List.append_assoc, List.append_assoc]⟩, ?_⟩
  rw [eBin_at e2 e3]
  unfold oAdd
  simp only [g3, g4]
  rw [if_pos (sz_small (by simp; omega))]
  rw [bkeys, ← hks]
theorem c_back {j : Nat} {M : Mem} {p K c ln n : Nat} {now : Int} {l : List Tm} (hp : PotR M p K) (hK : K < 1000000) (A : At M c ln n now l) (hn : n ≤ 40) (h1 : c ≠ p) (h2 : ln ≠ p) (h0 : 0 ≤ now) (hb : now ≤ 1000) :
    Ok (callD (j + 5) 10 [.ref p, .ref c, .int now, .ref ln] M) (Lapped p (K + 1) n now M) := by
  show Ok (dnX (runX 11 (b__law_back (callP (j + 4)) (callN (j + 4)))) [.ref p, .ref c, .int now, .ref ln] M) _
  refine ok_ret ?_
  have T := A.ok.tms hn
  have st : startD 11 [.ref p, .ref c, .int now, .ref ln] = [some (.ref p), some (.ref c), some (.int now), some (.ref ln), none, none, none, none, none, none, none] := rfl
  rw [st]
  unfold b__law_back
  rw [ok_seq]
  have b1 : Ok (sSet 4 (eCall (dnX (callN (j + 4) 5)) (eCons (eVar 0) (eCons (eBin oAdd (eBin oMulA (eLc (iSq (eVar 3)) [5] (gN 5) bYes (eBin oIx (eVar 5) (eC (.int 0)))) (eC (.int 2))) (eLst (eCons (eTup (eCons (eC (.str "ref")) (eCons (eTup eNil) (eCons (eC (.int 1)) eNil)))) (eCons (eC (.str "none")) eNil)))) eNil))) [some (.ref p), some (.ref c), some (.int now), some (.ref ln), none, none, none, none, none, none, none] M)
      fun o M' => ∃ k ∈ kinds8, PotR M' p (K + 1) ∧ Kp [p] M M' ∧ o = .next [some (.ref p), some (.ref c), some (.int now), some (.ref ln), some (keyD k), none, none, none, none, none, none] := by
    obtain ⟨M3, ⟨g, hg⟩, e⟩ := back_pool (a0 := some (.ref p)) (a1 := some (.ref c)) (a2 := some (.int now)) A.hl T
    have hp3 : PotR M3 p K := by rw [hg]; exact hp.keep (Kp.push (ps := [])) (by simp)
    simp only [sSet, eCall, eCons, eNil, eVar, ok_bind, ok_some, List.getElem?_cons_zero, List.getElem?_cons_succ]
    refine ⟨_, _, e, ?_⟩
    have hlen := T.len
    refine (pick hp3 (by omega) (by simp; omega) (by simp; omega)).mono ?_
    rintro d M4 ⟨hd, hp4, hk4⟩
    obtain ⟨k, hk, rfl⟩ := bkeys_of T hd
    refine ⟨k, hk, hp4, ?_, rfl⟩
    have : Kp [p] M (M3 ++ [MO.lst (bkeys l)]) := by rw [hg, List.append_assoc]; exact kp_app
    exact this.trans hk4
  refine b1.mono ?_
  rintro _ M4 ⟨k, hk, hp4, hk4, rfl⟩
  have A4 := A.keep hk4 h1 h2
  show Ok (sSeq _ _ _ _) _
  rw [ok_seq]
  obtain ⟨M5, hM5⟩ : ∃ M5, M5 = M4 ++ [MO.lst ((l.filter fun r => decide (r.k = k)).map fun r => .int (r.m - now))] := ⟨_, rfl⟩
  have d1 : (sSet 6 (eLc (iSq (eVar 3)) [5] (gN 5) (bOf (eBin oEq (eBin oIx (eVar 5) (eC (.int 0))) (eVar 4))) (eBin oSub (eBin oIx (eVar 5) (eC (.int 1))) (eVar 2)))) [some (.ref p), some (.ref c), some (.int now), some (.ref ln), some (keyD k), none, none, none, none, none, none] M4 = some (.next [some (.ref p), some (.ref c), some (.int now), some (.ref ln), some (keyD k), none, some (.ref M4.length), none, none, none, none], M5) := by
    unfold sSet
    rw [back_due A4.hl T hk, hM5]
    rfl
  rw [d1]
  refine ok_some.mpr ?_
  have A5 : At M5 c ln n now l := by rw [hM5]; exact A4.keep (p := p) kp_app h1 h2
  have q5 : M5[M4.length]? = some (.lst ((l.filter fun r => decide (r.k = k)).map fun r => .int (r.m - now))) := by rw [hM5]; exact push_last
  show Ok (sSeq _ _ _ _) _
  rw [ok_seq]
  obtain ⟨M6, hM6⟩ : ∃ M6, M6 = M5 ++ [MO.lst ((oth k l).map rowD)] := ⟨_, rfl⟩
  have d2 : (sSet 7 (eLc (iSq (eVar 3)) [5] (gN 5) (bOf (eBin oNe (eBin oIx (eVar 5) (eC (.int 0))) (eVar 4))) (eVar 5))) [some (.ref p), some (.ref c), some (.int now), some (.ref ln), some (keyD k), none, some (.ref M4.length), none, none, none, none] M5 = some (.next [some (.ref p), some (.ref c), some (.int now), some (.ref ln), some (keyD k), none, some (.ref M4.length), some (.ref M5.length), none, none, none], M6) := by
    unfold sSet
    rw [back_rest (now := now) A5.hl T hk, hM6]
    rfl
  rw [d2]
  refine ok_some.mpr ?_
  have A6 : At M6 c ln n now l := by rw [hM6]; exact A5.keep (p := p) kp_app h1 h2
  have q6 : M6[M4.length]? = some (.lst ((l.filter fun r => decide (r.k = k)).map fun r => .int (r.m - now))) := by rw [hM6]; exact append_get q5
  have r6 : M6[M5.length]? = some (.lst ((oth k l).map rowD)) := by rw [hM6]; exact push_last
  have k6 : Kp [p] M M6 := by
    rw [hM6, hM5, List.append_assoc]
    exact hk4.trans kp_app
  have hp6 : PotR M6 p (K + 1) := by
    rw [hM6, hM5, List.append_assoc]
    exact hp4.keep (Kp.push (ps := [])) (by simp)
  have ok' : TmsN n now (oth k l) := A.ok.rest _
  have T' := ok'.tms hn
  have hlt := hp4.lt
  have l5 : M5.length = M4.length + 1 := by rw [hM5, List.length_append]; rfl
  have l6 : M6.length = M4.length + 2 := by rw [hM6, List.length_append, l5]; rfl
  show Ok (sSeq _ _ _ _) _
  rw [ok_seq]
  rcases meth_without (j := j) (ρ := [some (.ref p), some (.ref c), some (.int now), some (.ref ln), some (keyD k), none, some (.ref M4.length), some (.ref M5.length), none, none, none]) (evo := eVar 1) (ev1 := eVar 4) rfl rfl A6.hc T hk with ⟨w1, w2⟩ | ⟨r, w0, w1, w3, w2⟩
  · rw [sAsg2 w2]
    refine ok_some.mpr ?_
    obtain ⟨o1, o2⟩ := oth_none w1
    rw [o2] at q6
    rw [o1] at r6
    obtain ⟨g, e⟩ := back_end (j := j) (a0 := some (.ref p)) (a3 := some (.ref ln)) (a4 := some (keyD k)) (a5 := none) (dv := .non) A6.hc T A6.hc q6 r6 T (fun _ => repr_non) (.inl ⟨rfl, rfl, rfl⟩)
    refine (show Ok (sSeq (wellS j) (bretS j) [some (.ref p), some (.ref c), some (.int now), some (.ref ln), some (keyD k), none, some (.ref M4.length), some (.ref M5.length), some .non, some (.ref c), none] M6) _ from ?_)
    rw [e]
    refine ok_some.mpr ⟨_, rfl, c, M5.length, l, rfl, ⟨append_get A6.hc, append_get r6, A.ok⟩, h1, by omega, hp6.keep (Kp.push (ps := [])) (by simp), k6.trans kp_app⟩
  · rw [sAsg2 w2]
    refine ok_some.mpr ?_
    rw [w3] at q6
    have hne : oth k l ≠ l := fun z => by
      have : r ∈ oth k l := by rw [z]; exact w0
      have := (List.mem_filter.mp this).2
      simp [w1] at this
    have sm := (T.ok r w0).m
    unfold Sm at sm
    obtain ⟨g, e⟩ := back_end (j := j) (M := M6 ++ [clk now ((oth k l).map rowD)]) (a0 := some (.ref p)) (a3 := some (.ref ln)) (a4 := some (keyD k)) (a5 := none) (dv := .int (r.m - now)) (append_get A6.hc) T push_last (append_get q6) (append_get r6) T' (fun _ => repr_int ⟨by omega, by omega⟩) (.inr ⟨_, rfl, rfl, hne⟩)
    refine (show Ok (sSeq (wellS j) (bretS j) [some (.ref p), some (.ref c), some (.int now), some (.ref ln), some (keyD k), none, some (.ref M4.length), some (.ref M5.length), some (.int (r.m - now)), some (.ref M6.length), none] (M6 ++ [clk now ((oth k l).map rowD)])) _ from ?_)
    rw [e]
    refine ok_some.mpr ⟨_, rfl, M6.length, M5.length, oth k l, rfl, ⟨append_get push_last, append_get (append_get r6), ok'⟩, by omega, by omega, (hp6.keep (Kp.push (ps := [])) (by simp)).keep (Kp.push (ps := [])) (by simp), (k6.trans kp_app).trans kp_app⟩
end Pr
set_option Elab.async false
set_option linter.all false
set_option maxRecDepth 100000
set_option maxHeartbeats 4000000
namespace Pr
open PySem PySem.Spec PyProof.Rows L2 Mi
structure El where
  c : Nat
  now : Int
  ln : Nat
  l : List Tm
def elD (e : El) : D := .tup [.ref e.c, .int e.now, .ref e.ln]
structure ElOk (M : Mem) (p el n : Nat) (e : El) : Prop where
  at_ : At M e.c e.ln n e.now e.l
  c1 : e.c ≠ p
  c2 : e.c ≠ el
  n1 : e.ln ≠ p
  n2 : e.ln ≠ el
  t0 : 0 ≤ e.now
  t1 : e.now ≤ n
theorem ElOk.keep {M M' : Mem} {p el n : Nat} {e : El} {ps : List Nat} (h : ElOk M p el n e) (k : Kp ps M M') (hs : ∀ q ∈ ps, q = p ∨ q = el) : ElOk M' p el n e := by
  have a : e.c ∉ ps := fun z => (hs _ z).elim h.c1 h.c2
  have b : e.ln ∉ ps := fun z => (hs _ z).elim h.n1 h.n2
  exact ⟨⟨k.get h.at_.hc a, k.get h.at_.hl b, h.at_.ok⟩, h.c1, h.c2, h.n1, h.n2, h.t0, h.t1⟩
theorem ElOk.up {M : Mem} {p el n m : Nat} {e : El} (h : ElOk M p el n e) (hn : n ≤ m) : ElOk M p el m e := ⟨⟨h.at_.hc, h.at_.hl, h.at_.ok.up hn⟩, h.c1, h.c2, h.n1, h.n2, h.t0, Int.le_trans h.t1 (by omega)⟩
theorem tms_nil : Tms [] := ⟨fun r hr => (by cases hr), by simp, by simp⟩
theorem p_eq_int {j : Nat} {M : Mem} {a : Nat} {now i : Int} {l : List Tm} (ha : M[a]? = some (clk now (l.map rowD))) : callP (j + 1) 15 [.ref a, .int i] M = some (.val (.bl false), M) := by
  show runX 2 (b_Clock_eq_own (callP j)) [.ref a, .int i] M = _
  have f5 : eIsC ct xc ty_Clock (eVar 1) [some (.ref a), some (.int i)] M = some (.bl false, M) := by
    rfl
  simp [runX, b_Clock_eq_own, startD, sRet, eAnd, bOf, bindO, f5]
theorem o_eq_int {j : Nat} {M : Mem} {a : Nat} {now i : Int} {l : List Tm} (ha : M[a]? = some (clk now (l.map rowD))) : oEqO ct tab (callN (j + 1)) nf (.ref a) (.int i) M = some (.bl false, M) := by
  have e : callN (j + 1) 15 [.ref a, .int i] M = some (.val (.bl false), M) := p_eq_int (j := j) ha
  unfold clk at ha
  unfold oEqO
  simp only [ha]
  have e1 : ct.me 22 "__eq__" = some 15 := by decide +kernel
  have e2 : tab[15]? = some ((Str.ofString "__eq__"), P_Clock_eq_own) := rfl
  have e3 : tyE M (.int i) = some (.inl "int") := rfl
  have e4 : nf 22 (.inl "int") = true := rfl
  simp only [e1, e2, e3, e4, e]
  rfl
/-- the list of the elder ones, and all that stands beside it -/
structure Lap (nt p el i : Nat) (ρ : Mi.Loc) (M : Mem) : Prop where
  pot : PotR M p (5 * i)
  tab : M[nt]? = some (.tab 23 lamQ)
  ne1 : nt ≠ p
  ne2 : nt ≠ el
  ne3 : el ≠ p
  has : ∃ es : List El, M[el]? = some (.lst (es.map elD)) ∧ es.length = i ∧ ∀ e ∈ es, ElOk M p el i e
  now : ∃ (e : El) (x5 x6 : Option D), ElOk M p el i e ∧ ρ = [some (.ref p), some (.ref e.c), some (.int e.now), some (.ref e.ln), some (.ref el), x5, x6, none, none, none]
abbrev startS (j : Nat) : Es := (sAsg (gT (gsCons (gN 1) (gsCons (gN 2) (gsCons (gN 3) (gsCons (gN 4) gsNil))))) (eTup (eCons (eCall (fMake 22 (callN j 14)) eNil) (eCons (eC (.int 0)) (eCons (eLst eNil) (eCons (eLst eNil) eNil))))))
abbrev askS (j : Nat) : Es := (sIf (bOr (bNot (bOf (eCall (dnX (callN j 8)) (eCons (eVar 1) (eCons (eC (.int 0)) (eCons (eLst eNil) eNil)))))) (bOr (bOf (eBin (oNeO ct tab (callN j) ne) (eVar 1) (eCall (fMake 22 (callN j 14)) eNil))) (bOf (eBin (oEqO ct tab (callN j) nf) (eVar 1) (eC (.int 0)))))) (sRet (eC (.bl false))) sNil)
theorem clock_new {j : Nat} {ρ : Mi.Loc} {M : Mem} : eCall (fMake 22 (callN (j + 1) 14)) eNil ρ M = some (.ref M.length, M ++ [clk 0 []]) := by
  unfold eCall eNil
  simp only [bindO]
  exact n_clock
theorem start_ok {j : Nat} {p : Nat} {M : Mem} : startS (j + 1) [some (.ref p), none, none, none, none, none, none, none, none, none] M = some (.next [some (.ref p), some (.ref M.length), some (.int 0), some (.ref (M.length + 1)), some (.ref (M.length + 2)), none, none, none, none, none], M ++ [clk 0 [], .lst [], .lst []]) := by
  have z4 := sz_small (n := 4) (by decide)
  unfold startS sAsg eTup eCons
  rw [clock_new]
  simp only [bindO, eCons, eC, lst_nil, eNil, List.length_cons, List.length_nil]
  rw [if_pos z4]
  simp [gT, gsCons, gN, gsNil]
theorem ask_ok {j : Nat} {p c ln el : Nat} {M : Mem} (hc : M[c]? = some (clk 0 [])) : askS (j + 5) [some (.ref p), some (.ref c), some (.int 0), some (.ref ln), some (.ref el), none, none, none, none, none] M = some (.next [some (.ref p), some (.ref c), some (.int 0), some (.ref ln), some (.ref el), none, none, none, none, none], M ++ [.lst [], clk 0 []]) := by
  obtain ⟨M1, hM1⟩ : ∃ M1, M1 = M ++ [MO.lst []] := ⟨_, rfl⟩
  have c1 : M1[c]? = some (clk 0 (([] : List Tm).map rowD)) := by rw [hM1]; exact append_get hc
  have l1 : M1[M.length]? = some (.lst (([] : List Tm).map rowD)) := by rw [hM1]; exact push_last
  have t1 : dnX (callN (j + 5) 8) [.ref c, .int 0, .ref M.length] M1 = some (.bl true, M1) := told (j := j + 4) c1 l1 tms_nil
  obtain ⟨M2, hM2⟩ : ∃ M2, M2 = M1 ++ [clk 0 []] := ⟨_, rfl⟩
  have c2 : M2[c]? = some (clk 0 (([] : List Tm).map rowD)) := by rw [hM2]; exact append_get c1
  have k2 : M2[M1.length]? = some (clk 0 (([] : List Tm).map rowD)) := by rw [hM2]; exact push_last
  have b1 : bOf (eCall (dnX (callN (j + 5) 8)) (eCons (eVar 1) (eCons (eC (.int 0)) (eCons (eLst eNil) eNil)))) [some (.ref p), some (.ref c), some (.int 0), some (.ref ln), some (.ref el), none, none, none, none, none] M = some (true, M1) := by
    unfold bOf eCall
    simp only [eCons, eVar, eC, bindO, lst_nil, eNil, ← hM1, List.getElem?_cons_succ, List.getElem?_cons_zero, t1]
  have b2 : bOf (eBin (oNeO ct tab (callN (j + 5)) ne) (eVar 1) (eCall (fMake 22 (callN (j + 5) 14)) eNil)) [some (.ref p), some (.ref c), some (.int 0), some (.ref ln), some (.ref el), none, none, none, none, none] M1 = some (false, M2) := by
    unfold bOf
    rw [eBin_at (M1 := M1) (x := .ref c) rfl (clock_new (j := j + 4)), ← hM2, o_ne (j := j + 4) c2 k2 tms_nil tms_nil]
    rfl
  have b3 : bOf (eBin (oEqO ct tab (callN (j + 5)) nf) (eVar 1) (eC (.int 0))) [some (.ref p), some (.ref c), some (.int 0), some (.ref ln), some (.ref el), none, none, none, none, none] M2 = some (false, M2) := by
    unfold bOf
    rw [eBin_at (M1 := M2) (x := .ref c) rfl rfl, o_eq_int (j := j + 4) c2]
    rfl
  unfold askS sIf bOr bNot
  rw [b1]
  simp only [bindO, Bool.not_true, Bool.false_eq_true, if_false, b2, b3]
  rw [hM2, hM1]
  simp [sNil]
end Pr
set_option Elab.async false
set_option linter.all false
set_option maxRecDepth 100000
set_option maxHeartbeats 4000000
namespace Pr
open PySem PySem.Spec PyProof.Rows L2 Mi
abbrev appS : Es := (sDrop (eApp (eVar 4) (eTup (eCons (eVar 1) (eCons (eVar 2) (eCons (eCall (orD fList fListD) (eCons (eVar 3) eNil)) eNil))))))
abbrev wayS (j : Nat) : Es := (sIf (bOf (eBin oLt (eVar 6) (eC (.int 3)))) (sAsg (gT (gsCons (gN 1) (gsCons (gN 3) gsNil))) (eCall (dnX (callN j 9)) (eCons (eVar 0) (eCons (eVar 1) (eCons (eVar 2) (eCons (eVar 3) eNil)))))) (sIf (bOf (eBin oEq (eVar 6) (eC (.int 3)))) (sAsg (gT (gsCons (gN 1) (gsCons (gN 3) gsNil))) (eCall (dnX (callN j 10)) (eCons (eVar 0) (eCons (eVar 1) (eCons (eVar 2) (eCons (eVar 3) eNil)))))) (sSeq (sAsg (gT (gsCons (gN 1) (gsCons (gN 3) gsNil))) (eCall (dnX (callN j 11)) (eCons (eVar 1) (eCons (eVar 2) (eCons (eVar 3) eNil)))))
    (sSet 2 (eBin oAdd (eVar 2) (eC (.int 1)))))))
abbrev isnS : Es := (sIf (bOf (eBin (oIs false) (eVar 1) (eC .non))) (sRet (eC (.bl false))) sNil)
abbrev bodyS (j : Nat) : Es := (sSeq (sSet 6 (eCall (dnX (callN j 4)) (eCons (eVar 0) (eCons (eC (.int 6)) eNil)))) (sSeq appS (sSeq (wayS j) isnS)))
theorem app_ok {M : Mem} {c ln el : Nat} {now : Int} {xs : List D} {es : List D} {a0 a5 a6 : Option D} (hl : M[ln]? = some (.lst xs)) (he : M[el]? = some (.lst es)) (hs : es.length < 1000) :
    appS [a0, some (.ref c), some (.int now), some (.ref ln), some (.ref el), a5, a6, none, none, none] M = some (.next [a0, some (.ref c), some (.int now), some (.ref ln), some (.ref el), a5, a6, none, none, none], (M ++ [MO.lst xs]).set el (MO.lst (es ++ [D.tup [.ref c, .int now, .ref M.length]]))) := by
  have z3 := sz_small (n := 3) (by decide)
  have zl := sz_small (n := es.length + 1) (by omega)
  have f1 : orD fList fListD [.ref ln] M = some (.ref M.length, M ++ [.lst xs]) := by
    have : fList [.ref ln] M = some (.ref M.length, M ++ [.lst xs]) := by
      show (match itemsOf M (.ref ln) with
        | some xs => some (Mi.D.ref M.length, M ++ [MO.lst xs])
        | none => none) = _
      rw [show itemsOf M (.ref ln) = some xs from lstAt_of hl]
    unfold orD
    rw [this]
  have he' : (M ++ [MO.lst xs])[el]? = some (.lst es) := append_get he
  have lp : Mi.lput (M ++ [MO.lst xs]) el (.tup [.ref c, .int now, .ref M.length]) = some ((M ++ [MO.lst xs]).set el (MO.lst (es ++ [D.tup [.ref c, .int now, .ref M.length]]))) := by
    unfold Mi.lput
    rw [he']
    exact if_pos (by omega)
  unfold appS sDrop eApp
  simp only [eVar, bindO, eTup, eCons, eCall, eNil, List.getElem?_cons_succ, List.getElem?_cons_zero, f1, List.length_cons, List.length_nil]
  rw [if_pos z3]
  simp only [he, lp]
  rfl
theorem ok_asg2 {ev : Ev} {ρ : Mi.Loc} {M : Mem} {i k : Nat} {Q : Fl → Mem → Prop} (h : Ok (ev ρ M) fun d M' => ∃ a b, d = .tup [a, b] ∧ Q (.next ((ρ.set i (some a)).set k (some b))) M') : Ok (sAsg (gT (gsCons (gN i) (gsCons (gN k) gsNil))) ev ρ M) Q := by
  obtain ⟨_, M', e, a, b, rfl, q⟩ := h
  rw [sAsg2 e]
  exact ok_some.mpr q
theorem row_ne {r : Tm} {e : El} : rowD r ≠ elD e := fun z => by
  unfold rowD elD at z
  have := congrArg (fun d : D => match d with
    | .tup xs => xs.length
    | _ => 0) z
  simp at this
/-- what stands at the list of the elder ones is neither a clock nor lines -/
theorem apart {M : Mem} {el c ln n : Nat} {now : Int} {l : List Tm} {es : List El} (he : M[el]? = some (.lst (es.map elD))) (h0 : es ≠ []) (A : At M c ln n now l) : c ≠ el ∧ ln ≠ el := by
  constructor
  · rintro rfl
    have := A.hc
    rw [he] at this
    unfold clk at this
    cases this
  · rintro rfl
    have q := A.hl
    rw [he] at q
    simp only [Option.some.injEq, MO.lst.injEq] at q
    cases es with
    | nil => exact h0 rfl
    | cons e es =>
      cases l with
      | nil => cases q
      | cons r l =>
        rw [List.map_cons, List.map_cons, List.cons.injEq] at q
        exact row_ne q.1.symm
theorem of_lapped {M M' : Mem} {p el i K n : Nat} {now : Int} {es : List El} {d : D} (he : M[el]? = some (.lst (es.map elD))) (h0 : es ≠ []) (hel : el ≠ p) (hn : n ≤ i) (t0 : 0 ≤ now) (t1 : now ≤ i) (h : Lapped p K n now M d M') :
    ∃ e' : El, d = .tup [.ref e'.c, .ref e'.ln] ∧ e'.now = now ∧ ElOk M' p el i e' ∧ PotR M' p K ∧ Kp [p] M M' := by
  obtain ⟨c', ln', l', rfl, A, c1, c2, hp, k⟩ := h
  obtain ⟨d1, d2⟩ := apart (k.get he (by simpa using hel)) h0 A
  exact ⟨⟨c', now, ln', l'⟩, rfl, rfl, ⟨⟨A.hc, A.hl, A.ok.up hn⟩, c1, d1, c2, d2, t0, t1⟩, hp, k⟩
/-- a lap's deed: set, taken back, ticked -/
theorem way_ok {j : Nat} {nt p el i : Nat} {M : Mem} {w : Int} {e : El} {es : List El} {x5 : Option D} (hp : PotR M p (5 * i + 1)) (hi : i < 20) (hT : M[nt]? = some (.tab 23 lamQ)) (h3 : nt ≠ p) (ok : ElOk M p el i e) (hel : el ≠ p) (he : M[el]? = some (.lst (es.map elD))) (h0 : es ≠ []) :
    Ok (wayS (j + 5) [some (.ref p), some (.ref e.c), some (.int e.now), some (.ref e.ln), some (.ref el), x5, some (.int w), none, none, none] M) fun o M' => ∃ e' : El, ElOk M' p el (i + 1) e' ∧ PotR M' p (5 * (i + 1)) ∧ Kp [p] M M' ∧ o = .next [some (.ref p), some (.ref e'.c), some (.int e'.now), some (.ref e'.ln), some (.ref el), x5, some (.int w), none, none, none] := by
  have hT0 := ok.t0
  have hT1 := ok.t1
  have b1 : bOf (eBin oLt (eVar 6) (eC (.int 3))) [some (.ref p), some (.ref e.c), some (.int e.now), some (.ref e.ln), some (.ref el), x5, some (.int w), none, none, none] M = some (decide (w < 3), M) := rfl
  have b2 : bOf (eBin oEq (eVar 6) (eC (.int 3))) [some (.ref p), some (.ref e.c), some (.int e.now), some (.ref e.ln), some (.ref el), x5, some (.int w), none, none, none] M = some (decide (w = 3), M) := by
    unfold bOf
    rw [eBin_at rfl rfl, oEq_int]
    rfl
  unfold wayS sIf
  rw [b1]
  simp only [bindO]
  by_cases w1 : w < 3
  · rw [if_pos (by simpa using w1)]
    refine ok_asg2 ?_
    simp only [eCall, eCons, eNil, eVar, ok_bind, ok_some, List.getElem?_cons_zero, List.getElem?_cons_succ]
    refine (c_set (j := j) hp (by omega) ok.at_ (by omega) ok.c1 ok.n1 hT h3 hT0 (by omega)).mono ?_
    rintro d M' h
    obtain ⟨e', rfl, e1, e2, e3, e4⟩ := of_lapped he h0 hel (Nat.le_refl _) hT0 (by omega) h
    exact ⟨_, _, rfl, e', e2, e3.up (by omega), e4, by rw [e1]; rfl⟩
  · rw [if_neg (by simpa using w1), b2]
    simp only
    by_cases w2 : w = 3
    · rw [if_pos (by simpa using w2)]
      refine ok_asg2 ?_
      simp only [eCall, eCons, eNil, eVar, ok_bind, ok_some, List.getElem?_cons_zero, List.getElem?_cons_succ]
      refine (c_back (j := j) hp (by omega) ok.at_ (by omega) ok.c1 ok.n1 hT0 (by omega)).mono ?_
      rintro d M' h
      obtain ⟨e', rfl, e1, e2, e3, e4⟩ := of_lapped (i := i + 1) he h0 hel (by omega) hT0 (by omega) h
      exact ⟨_, _, rfl, e', e2, e3.up (by omega), e4, by rw [e1]; rfl⟩
    · rw [if_neg (by simpa using w2), ok_seq]
      refine ok_asg2 ?_
      simp only [eCall, eCons, eNil, eVar, ok_bind, ok_some, List.getElem?_cons_zero, List.getElem?_cons_succ]
      refine (c_tick (j := j) hp ok.at_ (by omega)).mono ?_
      rintro d M' h
      obtain ⟨e', rfl, e1, e2, e3, e4⟩ := of_lapped (i := i + 1) he h0 hel (by omega) (by omega) (by omega) h
      refine ⟨_, _, rfl, ?_⟩
      refine ⟨_, _, rfl, e', e2, e3.up (by omega), e4, ?_⟩
      rw [e1]; rfl
theorem c_takeN {j : Nat} {M : Mem} {p k : Nat} {u : Int} (h : PotR M p k) (hk : k < 1000000000) (hu : 0 < u) (hu2 : u < 18446744073709551616) : Ok (dnX (callN (j + 1) 4) [.ref p, .int u] M) fun d M' => ∃ r : Int, d = .int r ∧ 0 ≤ r ∧ r < u ∧ PotR M' p (k + 1) ∧ Kp [p] M M' := c_take h hk hu hu2
/-- a lap -/
theorem lap_ok {j : Nat} {nt p el i : Nat} {ρ : Mi.Loc} {M : Mem} (L : Lap nt p el i ρ M) (hi : i < 20) : Ok (bodyS (j + 5) (ρ.set 5 (some (.int (i : Nat)))) M) fun o M' => ∃ ρ', o = .next ρ' ∧ Lap nt p el (i + 1) ρ' M' ∧ Kp [p, el] M M' := by
  obtain ⟨es, he, hlen, hes⟩ := L.has
  obtain ⟨e, x5, x6, ok, rfl⟩ := L.now
  unfold bodyS
  rw [ok_seq]
  have b1 : Ok ((sSet 6 (eCall (dnX (callN (j + 5) 4)) (eCons (eVar 0) (eCons (eC (.int 6)) eNil)))) [some (.ref p), some (.ref e.c), some (.int e.now), some (.ref e.ln), some (.ref el), some (.int (i : Nat)), x6, none, none, none] M) fun o M' => ∃ w : Int, PotR M' p (5 * i + 1) ∧ Kp [p] M M' ∧ o = .next [some (.ref p), some (.ref e.c), some (.int e.now), some (.ref e.ln), some (.ref el), some (.int (i : Nat)), some (.int w), none, none, none] := by
    simp only [sSet, eCall, eCons, eNil, eVar, eC, ok_bind, ok_some, List.getElem?_cons_zero, List.getElem?_cons_succ]
    refine (c_takeN (j := j + 4) (u := 6) L.pot (by omega) (by decide) (by decide)).mono ?_
    rintro d M' ⟨r, rfl, _, _, hp, hk⟩
    exact ⟨r, hp, hk, rfl⟩
  refine b1.mono ?_
  rintro _ M1 ⟨w, hp1, hk1, rfl⟩
  have ok1 := ok.keep hk1 (by simp)
  have he1 := hk1.get he (by simpa using L.ne3)
  have hT1 := hk1.get L.tab (by simpa using L.ne1)
  show Ok (sSeq _ _ _ _) _
  rw [ok_seq, show appS _ _ = _ from app_ok (a0 := some (.ref p)) (a5 := some (.int (i : Nat))) (a6 := some (.int w)) ok1.at_.hl he1 (by rw [List.length_map]; omega)]
  refine ok_some.mpr ?_
  obtain ⟨M2, hM2⟩ : ∃ M2, M2 = (M1 ++ [MO.lst (e.l.map rowD)]).set el (.lst (es.map elD ++ [D.tup [.ref e.c, .int e.now, .ref M1.length]])) := ⟨_, rfl⟩
  rw [← hM2]
  have hlt := lt_of_get he1
  have k2 : Kp [el] M1 M2 := by rw [hM2]; exact (Kp.push (ps := [el])).trans (Kp.set (by simp))
  have hp2 := hp1.keep k2 (by simpa using Ne.symm L.ne3)
  have ok2 := ok1.keep k2 (by simp)
  have hT2 := k2.get hT1 (by simpa using L.ne2)
  have he2 : M2[el]? = some (.lst ((es ++ [El.mk e.c e.now M1.length e.l]).map elD)) := by
    rw [hM2, set_self (append_get he1), List.map_append]
    rfl
  have hplt := hp1.lt
  have new2 : ElOk M2 p el i (El.mk e.c e.now M1.length e.l) := by
    refine ⟨⟨ok2.at_.hc, ?_, ok2.at_.ok⟩, ok2.c1, ok2.c2, ?_, ?_, ok2.t0, ok2.t1⟩
    · show M2[M1.length]? = _
      rw [hM2, List.getElem?_set_ne (by omega)]
      exact push_last
    · show M1.length ≠ p
      omega
    · show M1.length ≠ el
      omega
  show Ok (sSeq _ _ _ _) _
  rw [ok_seq]
  refine (way_ok (j := j) (x5 := some (.int (i : Nat))) (w := w) hp2 hi hT2 L.ne1 ok2 L.ne3 he2 (by simp)).mono ?_
  rintro _ M3 ⟨e', ok3, hp3, hk3, rfl⟩
  have b4 : isnS [some (.ref p), some (.ref e'.c), some (.int e'.now), some (.ref e'.ln), some (.ref el), some (.int (i : Nat)), some (.int w), none, none, none] M3 = some (.next [some (.ref p), some (.ref e'.c), some (.int e'.now), some (.ref e'.ln), some (.ref el), some (.int (i : Nat)), some (.int w), none, none, none], M3) := rfl
  show Ok (isnS _ _) _
  rw [b4]
  refine ok_some.mpr ⟨_, rfl, ⟨hp3, hk3.get hT2 (by simpa using L.ne1), L.ne1, L.ne2, L.ne3, ⟨_, hk3.get he2 (by simpa using L.ne3), by simp [hlen], fun x hx => ?_⟩, e', _, _, ok3, rfl⟩, ((hk1.wide fun _ _ z => by simp at z; simp [z]).trans (k2.wide fun _ _ z => by simp at z; simp [z])).trans (hk3.wide fun _ _ z => by simp at z; simp [z])⟩
  rcases List.mem_append.mp hx with hx | hx
  · exact (((hes x hx).keep hk1 (by simp)).keep k2 (by simp)).keep hk3 (by simp) |>.up (by omega)
  · rw [List.mem_singleton.mp hx]
    exact (new2.keep hk3 (by simp)).up (by omega)
end Pr
set_option Elab.async false
set_option linter.all false
set_option maxRecDepth 100000
set_option maxHeartbeats 4000000
namespace Pr
open PySem PySem.Spec PyProof.Rows L2 Mi
theorem all_true : ∀ {α : Type} (l : List α), blsOf (l.map fun _ => D.bl true) = some (l.map fun _ => true)
  | _, [] => rfl
  | _, a :: l => by
    have := all_true l
    rw [List.map_cons]
    unfold blsOf
    rw [this]
    rfl
theorem fAll_true {α : Type} {M : Mem} {n : Nat} {l : List α} (h : M[n]? = some (.lst (l.map fun _ => D.bl true))) : fAll [.ref n] M = some (.bl true, M) := by
  show (match lstAt M n with
    | some xs => (blsOf xs).map fun (bs : List Bool) => (D.bl (bs.all id), M)
    | none => none) = _
  rw [lstAt_of h]
  simp only [all_true]
  simp
abbrev loopS (j : Nat) : Es := (sFor (iRg1 (eCons (eC (.int 20)) eNil)) (gN 5) (bodyS j))
abbrev twoS (j : Nat) : Es := (sPar 7 8 (eCons (eCall (dnX (callN j 5)) (eCons (eVar 0) (eCons (eVar 4) eNil))) (eCons (eCall (dnX (callN j 5)) (eCons (eVar 0) (eCons (eVar 4) eNil))) eNil)))
abbrev sameS (j : Nat) : Es := (sIf (bOf (eBin oNe (eBin (oEqO ct tab (callN j) nf) (eBin oIx (eVar 7) (eC (.int 0))) (eBin oIx (eVar 8) (eC (.int 0)))) (eBin oEq (eCall fRepr (eCons (eSl (eVar 7) (poSome (eC (.int 1))) poNone) eNil)) (eCall fRepr (eCons (eSl (eVar 8) (poSome (eC (.int 1))) poNone) eNil))))) (sRet (eC (.bl false))) sNil)
abbrev endS (j : Nat) : Es := (sRet (eCall fAll (eCons (eLc (iSq (eVar 4)) [9] (gN 9) bYes (eCall (dnX (callN j 8)) (eCons (eBin oIx (eVar 9) (eC (.int 0))) (eCons (eBin oIx (eVar 9) (eC (.int 1))) (eCons (eBin oIx (eVar 9) (eC (.int 2))) eNil))))) eNil)))
theorem el_ix0 {e : El} {ev1 ev2 : Ev} {ρ : Mi.Loc} {M : Mem} (e1 : ev1 ρ M = some (elD e, M)) (e2 : ev2 ρ M = some (.int 0, M)) : eBin oIx ev1 ev2 ρ M = some (.ref e.c, M) := by rw [eBin_at e1 e2]; rfl
theorem el_ix1 {e : El} {ev1 ev2 : Ev} {ρ : Mi.Loc} {M : Mem} (e1 : ev1 ρ M = some (elD e, M)) (e2 : ev2 ρ M = some (.int 1, M)) : eBin oIx ev1 ev2 ρ M = some (.int e.now, M) := by rw [eBin_at e1 e2]; rfl
theorem el_ix2 {e : El} {ev1 ev2 : Ev} {ρ : Mi.Loc} {M : Mem} (e1 : ev1 ρ M = some (elD e, M)) (e2 : ev2 ρ M = some (.int 2, M)) : eBin oIx ev1 ev2 ρ M = some (.ref e.ln, M) := by rw [eBin_at e1 e2]; rfl
theorem el_sl {e : El} {ev1 : Ev} {ρ : Mi.Loc} {M : Mem} (e1 : ev1 ρ M = some (elD e, M)) : eSl ev1 (poSome (eC (.int 1))) poNone ρ M = some (.tup [.int e.now, .ref e.ln], M) := by
  unfold eSl
  rw [e1]
  rfl
theorem same_ok {j : Nat} {M : Mem} {p el n : Nat} {e f : El} {a0 a1 a2 a3 a4 a5 a6 a9 : Option D} (he : ElOk M p el n e) (hf : ElOk M p el n f) (hn : n ≤ 40) :
    sameS (j + 1) [a0, a1, a2, a3, a4, a5, a6, some (elD e), some (elD f), a9] M = some (.next [a0, a1, a2, a3, a4, a5, a6, some (elD e), some (elD f), a9], M) := by
  have T := he.at_.ok.tms hn
  have T' := hf.at_.ok.tms hn
  have s1 : Sm e.now := by have := he.t0; have := he.t1; unfold Sm; omega
  have s2 : Sm f.now := by have := hf.t0; have := hf.t1; unfold Sm; omega
  obtain ⟨ρ, hρ⟩ : ∃ ρ : Mi.Loc, ρ = [a0, a1, a2, a3, a4, a5, a6, some (elD e), some (elD f), a9] := ⟨_, rfl⟩
  have v7 : eVar 7 ρ M = some (elD e, M) := by rw [hρ]; rfl
  have v8 : eVar 8 ρ M = some (elD f, M) := by rw [hρ]; rfl
  rw [← hρ]
  have o1 : eBin (oEqO ct tab (callN (j + 1)) nf) (eBin oIx (eVar 7) (eC (.int 0))) (eBin oIx (eVar 8) (eC (.int 0))) ρ M = some (.bl (decide (e.now = f.now ∧ e.l = f.l)), M) := by
    rw [eBin_at (el_ix0 v7 rfl) (el_ix0 v8 rfl), o_eq he.at_.hc hf.at_.hc T T']
  have o2 : eBin oEq (eCall fRepr (eCons (eSl (eVar 7) (poSome (eC (.int 1))) poNone) eNil)) (eCall fRepr (eCons (eSl (eVar 8) (poSome (eC (.int 1))) poNone) eNil)) ρ M = some (.bl (decide (e.now = f.now ∧ e.l = f.l)), M) := by
    have r1 : eCall fRepr (eCons (eSl (eVar 7) (poSome (eC (.int 1))) poNone) eNil) ρ M = some (.str (twoP e.now e.l).shown, M) := by
      unfold eCall eCons eNil
      rw [el_sl v7]
      exact two_repr he.at_.hl T s1
    have r2 : eCall fRepr (eCons (eSl (eVar 8) (poSome (eC (.int 1))) poNone) eNil) ρ M = some (.str (twoP f.now f.l).shown, M) := by
      unfold eCall eCons eNil
      rw [el_sl v8]
      exact two_repr hf.at_.hl T' s2
    rw [eBin_at r1 r2]
    show some (D.bl (decide ((twoP e.now e.l).shown = (twoP f.now f.l).shown)), M) = _
    rw [two_apart T T']
  have o3 : bOf (eBin oNe (eBin (oEqO ct tab (callN (j + 1)) nf) (eBin oIx (eVar 7) (eC (.int 0))) (eBin oIx (eVar 8) (eC (.int 0)))) (eBin oEq (eCall fRepr (eCons (eSl (eVar 7) (poSome (eC (.int 1))) poNone) eNil)) (eCall fRepr (eCons (eSl (eVar 8) (poSome (eC (.int 1))) poNone) eNil)))) ρ M = some (false, M) := by
    unfold bOf
    rw [eBin_at o1 o2, ne_of_eq (b := true) (by
      show (eqD M (.bl (decide (e.now = f.now ∧ e.l = f.l))) (.bl (decide (e.now = f.now ∧ e.l = f.l)))).map (fun b => (Mi.D.bl b, M)) = _
      rw [eqD_bl]; rfl)]
    rfl
  unfold sameS sIf
  rw [o3]
  rfl
theorem end_ok {j : Nat} {M : Mem} {p el n : Nat} {es : List El} {a0 a1 a2 a3 a5 a6 a7 a8 : Option D} (he : M[el]? = some (.lst (es.map elD))) (hes : ∀ e ∈ es, ElOk M p el n e) (hn : n ≤ 40) (hl : es.length ≤ 1000) :
    endS (j + 1) [a0, a1, a2, a3, some (.ref el), a5, a6, a7, a8, none] M = some (.ret (.bl true), M ++ [.lst (es.map fun _ => D.bl true)]) := by
  have e1 : eLc (iSq (eVar 4)) [9] (gN 9) bYes (eCall (dnX (callN (j + 1) 8)) (eCons (eBin oIx (eVar 9) (eC (.int 0))) (eCons (eBin oIx (eVar 9) (eC (.int 1))) (eCons (eBin oIx (eVar 9) (eC (.int 2))) eNil)))) [a0, a1, a2, a3, some (.ref el), a5, a6, a7, a8, none] M = some (.ref M.length, M ++ [.lst (es.map fun _ => D.bl true)]) := by
    have := lc_map (vs := [9]) (g := gN 9) (t := bYes) (el := (eCall (dnX (callN (j + 1) 8)) (eCons (eBin oIx (eVar 9) (eC (.int 0))) (eCons (eBin oIx (eVar 9) (eC (.int 1))) (eCons (eBin oIx (eVar 9) (eC (.int 2))) eNil))))) (src := iSq (eVar 4)) (ρ := [a0, a1, a2, a3, some (.ref el), a5, a6, a7, a8, none]) (M := M) (M1 := M) (get := fun M2 => Mi.lstAt M2 el) es elD (fun _ => true) (fun _ => D.bl true) (by simp [iSq, eVar, bindO, lstAt_of he]) (sz_small hl) (fun acc => lstAt_of (append_get he)) fun e h => ⟨[a0, a1, a2, a3, some (.ref el), a5, a6, a7, a8, some (elD e)], rfl, fun acc => ⟨rfl, fun _ => by
      have ok := hes e h
      have t1 : dnX (callN (j + 1) 8) [.ref e.c, .int e.now, .ref e.ln] (M ++ [MO.lst acc]) = some (.bl true, M ++ [MO.lst acc]) := told (j := j) (append_get ok.at_.hc) (append_get ok.at_.hl) (ok.at_.ok.tms hn)
      have v9 : eVar 9 [a0, a1, a2, a3, some (.ref el), a5, a6, a7, a8, some (elD e)] (M ++ [MO.lst acc]) = some (elD e, M ++ [MO.lst acc]) := rfl
      unfold eCall eCons
      rw [el_ix0 v9 rfl]
      simp only [bindO, eCons]
      rw [el_ix1 v9 rfl]
      simp only [bindO, eNil]
      rw [el_ix2 v9 rfl]
      simp only [t1]⟩⟩
    rw [this, filter_all fun _ _ => rfl]
  have e2 : ∀ ev : Ev, ev [a0, a1, a2, a3, some (.ref el), a5, a6, a7, a8, none] M = some (.ref M.length, M ++ [.lst (es.map fun _ => D.bl true)]) → sRet (eCall fAll (eCons ev eNil)) [a0, a1, a2, a3, some (.ref el), a5, a6, a7, a8, none] M = some (.ret (.bl true), M ++ [.lst (es.map fun _ => D.bl true)]) := fun ev q => by
    unfold sRet eCall eCons eNil
    rw [q]
    simp only [bindO]
    rw [fAll_true push_last]
  exact e2 _ e1
end Pr
set_option Elab.async false
set_option linter.all false
set_option maxRecDepth 100000
set_option maxHeartbeats 4000000
namespace Pr
open PySem PySem.Spec PyProof.Rows L2 Mi
theorem c_right {j : Nat} {M : Mem} {p nt : Nat} (hp : PotR M p 0) (hT : M[nt]? = some (.tab 23 lamQ)) (h3 : nt ≠ p) : Ok (callD (j + 6) 12 [.ref p] M) fun d M' => d = .bl true ∧ Kp [p] M M' := by
  show Ok (dnX (runX 10 (b__law_right (callP (j + 5)) (callN (j + 5)))) [.ref p] M) _
  refine ok_ret ?_
  have st : startD 10 [.ref p] = [some (.ref p), none, none, none, none, none, none, none, none, none] := rfl
  rw [st]
  show Ok ((sSeq (startS (j + 5)) (sSeq (askS (j + 5)) (sSeq (loopS (j + 5)) (sSeq (twoS (j + 5)) (sSeq (sameS (j + 5)) (endS (j + 5))))))) _ M) _
  have hlt := hp.lt
  have hlt2 := lt_of_get hT
  rw [ok_seq, show startS (j + 5) _ M = _ from start_ok (j := j + 4) (p := p) (M := M)]
  refine ok_some.mpr ?_
  obtain ⟨M1, hM1⟩ : ∃ M1, M1 = M ++ [clk 0 [], .lst [], .lst []] := ⟨_, rfl⟩
  rw [← hM1]
  have c1 : M1[M.length]? = some (clk 0 []) := by rw [hM1, List.getElem?_append_right (Nat.le_refl _), Nat.sub_self]; rfl
  have n1 : M1[M.length + 1]? = some (.lst []) := by rw [hM1, List.getElem?_append_right (by omega), show M.length + 1 - M.length = 1 by omega]; rfl
  have e1 : M1[M.length + 2]? = some (.lst []) := by rw [hM1, List.getElem?_append_right (by omega), show M.length + 2 - M.length = 2 by omega]; rfl
  show Ok (sSeq _ _ _ _) _
  rw [ok_seq, show askS (j + 5) _ M1 = _ from ask_ok (j := j) (p := p) (ln := M.length + 1) (el := M.length + 2) c1]
  refine ok_some.mpr ?_
  obtain ⟨M2, hM2⟩ : ∃ M2, M2 = M1 ++ [.lst [], clk 0 []] := ⟨_, rfl⟩
  rw [← hM2]
  have k2 : Kp [p] M M2 := by rw [hM2, hM1, List.append_assoc]; exact kp_app
  have L0 : Lap nt p (M.length + 2) 0 [some (.ref p), some (.ref M.length), some (.int 0), some (.ref (M.length + 1)), some (.ref (M.length + 2)), none, none, none, none, none] M2 := by
    refine ⟨?_, k2.get hT (by simpa using h3), h3, by omega, by omega, ⟨[], ?_, rfl, fun e he => (by cases he)⟩, ⟨M.length, 0, M.length + 1, []⟩, none, none, ⟨⟨?_, ?_, ⟨fun r hr => (by cases hr), by simp, by simp⟩⟩, ?_, ?_, ?_, ?_, Int.le_refl _, by show (0 : Int) ≤ _; omega⟩, rfl⟩
    · rw [hM2, hM1, List.append_assoc]; exact hp.keep (Kp.push (ps := [])) (by simp)
    · rw [hM2]; exact append_get e1
    · rw [hM2]; exact append_get c1
    · rw [hM2]; exact append_get n1
    · show M.length ≠ p; omega
    · show M.length ≠ M.length + 2; omega
    · show M.length + 1 ≠ p; omega
    · show M.length + 1 ≠ M.length + 2; omega
  show Ok (sSeq _ _ _ _) _
  rw [ok_seq]
  have lp : Ok (loopS (j + 5) [some (.ref p), some (.ref M.length), some (.int 0), some (.ref (M.length + 1)), some (.ref (M.length + 2)), none, none, none, none, none] M2) fun o M' => ∃ ρ, o = .next ρ ∧ Lap nt p (M.length + 2) 20 ρ M' ∧ Kp [p, M.length + 2] M2 M' := by
    refine ok_for 20 (fun i ρ M' => Lap nt p (M.length + 2) i ρ M' ∧ Kp [p, M.length + 2] M2 M') ⟨fun _ => some (rgD 0 20), M2, rfl, ⟨L0, Kp.refl⟩, ⟨_, rfl, rfl⟩, ?_⟩ ?_
    · rintro i ρ M' hi ⟨L, kp⟩
      refine ⟨rgD 0 20, rfl, rfl, fun d hd => ?_⟩
      rw [rgD_get] at hd
      split at hd
      · rename_i hi2
        cases hd
        refine ⟨ρ.set 5 (some (.int (i : Nat))), by simp [gN], ?_⟩
        refine (lap_ok (j := j) L hi2).mono ?_
        rintro _ M3 ⟨ρ', rfl, L', kp'⟩
        exact ⟨L', kp.trans kp'⟩
      · cases hd
    · rintro ρ M' ⟨L, kp⟩
      exact ⟨ρ, rfl, L, kp⟩
  refine lp.mono ?_
  rintro _ M3 ⟨ρ, rfl, L, k3⟩
  have kp3 : Kp [p] M M3 := by
    refine ⟨Nat.le_trans k2.1 k3.1, fun q hq hm => ?_⟩
    have h1 := k2.1
    rw [k3.2 q (by omega) (by simp only [List.mem_cons, List.not_mem_nil, or_false] at hm ⊢; omega)]
    exact k2.2 q hq hm
  obtain ⟨es, he, hlen, hes⟩ := L.has
  obtain ⟨e, x5, x6, ok, rfl⟩ := L.now
  show Ok (sSeq _ _ _ _) _
  rw [ok_seq]
  have b3 : Ok (twoS (j + 5) [some (.ref p), some (.ref e.c), some (.int e.now), some (.ref e.ln), some (.ref (M.length + 2)), x5, x6, none, none, none] M3) fun o M' => ∃ a ∈ es, ∃ b ∈ es, Kp [p] M3 M' ∧ o = .next [some (.ref p), some (.ref e.c), some (.int e.now), some (.ref e.ln), some (.ref (M.length + 2)), x5, x6, some (elD a), some (elD b), none] := by
    have hne := L.ne3
    have pk : ∀ {M3 M4 : Mem} {K : Nat}, PotR M4 p K → K < 1000 → M3[M.length + 2]? = some (.lst (es.map elD)) → Kp [p] M3 M4 → Ok (dnX (callN (j + 5) 5) [.ref p, .ref (M.length + 2)] M4) fun x M' => (∃ a ∈ es, x = elD a) ∧ PotR M' p (K + 1) ∧ Kp [p] M4 M' := fun {M3 M4 K} hp hK he k => by
      refine (c_of (j := j + 3) (d := .ref (M.length + 2)) hp (by omega) (xs := es.map elD) (lstAt_of (k.get he (by simpa using hne))) (fun M' k' => lstAt_of (k'.get (k.get he (by simpa using hne)) (by simpa using hne))) (by rw [List.length_map]; omega) (by rw [List.length_map]; omega)).mono ?_
      rintro x M' ⟨hx, h1, h2⟩
      obtain ⟨a, ha, rfl⟩ := List.mem_map.mp hx
      exact ⟨⟨a, ha, rfl⟩, h1, h2⟩
    simp only [sPar, eCall, eCons, eNil, eVar, ok_bind, ok_some, List.getElem?_cons_zero, List.getElem?_cons_succ]
    refine (pk L.pot (by decide) he Kp.refl).mono ?_
    rintro _ M4 ⟨⟨a, ha, rfl⟩, hp4, hk4⟩
    refine (pk hp4 (by decide) he hk4).mono ?_
    rintro _ M5 ⟨⟨b, hb, rfl⟩, hp5, hk5⟩
    exact ⟨a, ha, b, hb, hk4.trans hk5, rfl⟩
  refine b3.mono ?_
  rintro _ M4 ⟨a, ha, b, hb, hk4, rfl⟩
  have keep4 : ∀ x ∈ es, ElOk M4 p (M.length + 2) 20 x := fun x hx => (hes x hx).keep hk4 (by simp)
  have he4 := hk4.get he (by simpa using L.ne3)
  show Ok (sSeq _ _ _ _) _
  rw [ok_seq, show sameS (j + 5) _ M4 = _ from same_ok (j := j + 4) (keep4 a ha) (keep4 b hb) (by decide)]
  refine ok_some.mpr ?_
  show Ok (endS (j + 5) _ M4) _
  rw [show endS (j + 5) _ M4 = _ from end_ok (j := j + 4) he4 keep4 (by decide) (by omega)]
  exact ok_some.mpr ⟨_, rfl, rfl, (kp3.trans hk4).trans kp_app⟩
/-- a cell's place, its pot -/
theorem law_true (ns : List Int) (hn : ns.length ≤ 63) : ∃ M', callN 7 13 [.ref 0] (mem0 ns [(23, lamQ)]) = some (.val (.bl true), M') := by
  have key : Ok (callD 7 13 [.ref 0] (mem0 ns [(23, lamQ)])) fun d _ => d = .bl true := by
    show Ok (dnX (runX 2 (b_law (callP 6) (callN 6))) [.ref 0] (mem0 ns [(23, lamQ)])) _
    have h0 : (mem0 ns [(23, lamQ)])[0]? = some (.flst (ns.map .int)) := rfl
    have hT : (mem0 ns [(23, lamQ)])[1]? = some (.tab 23 lamQ) := rfl
    generalize mem0 ns [(23, lamQ)] = M at *
    obtain ⟨m, hm⟩ : ∃ m, m = max 1 (min 4 ns.length) := ⟨_, rfl⟩
    refine ok_ret ?_
    have st : startD 2 [.ref 0] = [some (.ref 0), none] := rfl
    rw [st]
    have lc : Ok (eLc (iSq (eCall (dnX (callN 6 6)) (eCons (eVar 0) (eCons (eC (.int 4)) eNil)))) [1] (gN 1) bYes (eCall (dnX (callN 6 12)) (eCons (eCall (dnX (callN 6 3)) (eCons (eVar 0) (eCons (eVar 1) eNil))) eNil)) [some (.ref 0), none] M) fun d M' => ∃ D0, d = .ref D0 ∧ M'[D0]? = some (.lst ((List.range m).map fun _ => D.bl true)) := by
      have es : iSq (eCall (dnX (callN 6 6)) (eCons (eVar 0) (eCons (eC (.int 4)) eNil))) [some (.ref 0), none] M = some ((fun M2 => Mi.lstAt M2 M.length), M ++ [.lst (rgD 0 m)]) := by
        obtain ⟨d, M', e, rfl, rfl⟩ := c_cells (j := 5) (most := 4) h0 (by decide) (by omega)
        have e' : dnX (callN 6 6) [.ref 0, .int 4] M = some (.ref M.length, M ++ [.lst (rgD 0 m)]) := by rw [hm]; exact e
        show bindO (dnX (callN 6 6) [.ref 0, .int 4] M) _ = _
        rw [e']
        show (if (Mi.lstAt (M ++ [.lst (rgD 0 m)]) M.length).isSome then some ((fun M2 => Mi.lstAt M2 M.length), M ++ [.lst (rgD 0 m)]) else none) = _
        rw [lst_last]
        rfl
      have hn0 : (M ++ [MO.lst (rgD 0 m)])[M.length]? = some (.lst (rgD 0 m)) := push_last
      have hlen : (rgD 0 m).length = m := by simp [rgD]
      refine ok_lc m (sz_small (by omega)) (fun D0 k acc M' => Kp [D0] (M ++ [.lst (rgD 0 m)]) M' ∧ acc = (List.range k).map fun _ => D.bl true) ?_
      rw [es]
      have hne : M.length ≠ (M ++ [MO.lst (rgD 0 m)] : Mem).length := by simp
      have h0l := lt_of_get h0
      have hTl := lt_of_get hT
      refine ok_some.mpr ⟨⟨Kp.push, rfl⟩, ⟨_, lstAt_of (append_get hn0), hlen⟩, ?_, ?_⟩
      · rintro k acc M' hk _ hD ⟨kp, ha⟩
        have hcells := kp.get hn0 (by simpa using hne)
        refine ⟨rgD 0 m, lstAt_of hcells, hlen, fun d hd => ?_⟩
        rw [rgD_get] at hd
        split at hd
        · rename_i hkm
          cases hd
          refine ⟨[some (.ref 0), some (.int (k : Nat))], by simp [gN, wipeD], ?_⟩
          refine ok_some.mpr ?_
          rw [if_pos rfl]
          have ne0 : (0 : Nat) ≠ (M ++ [MO.lst (rgD 0 m)] : Mem).length := by simp
          have ne1 : (1 : Nat) ≠ (M ++ [MO.lst (rgD 0 m)] : Mem).length := by rw [List.length_append, List.length_singleton]; omega
          have h0' : M'[0]? = some (.flst (ns.map .int)) := kp.get (append_get h0) (by simpa using ne0)
          have hT' : M'[1]? = some (.tab 23 lamQ) := kp.get (append_get hT) (by simpa using ne1)
          simp only [eCall, eCons, eNil, eVar, ok_bind, ok_some, List.getElem?_cons_zero, List.getElem?_cons_succ]
          refine (c_pot (j := 5) (i := k) h0' (by omega)).mono ?_
          rintro _ M1 ⟨p, rfl, hp, pot, kp1⟩
          have hT1 := kp1.get hT' (by simp)
          have hl1 := lt_of_get hT'
          refine (c_right (j := 0) pot hT1 (by omega)).mono ?_
          rintro _ M2 ⟨rfl, kp2⟩
          have hDl := lt_of_get hD
          have k12 : Kp [] M' M2 := by
            refine ⟨Nat.le_trans kp1.1 kp2.1, fun q hq hm => ?_⟩
            have h1 := kp1.1
            rw [kp2.2 q (by omega) (by simp; omega)]
            exact kp1.2 q hq hm
          have hD2 := k12.get hD (by simp)
          refine ⟨hD2, (kp.trans (k12.wide (by simp))).trans (Kp.set (by simp)), ?_⟩
          rw [ha, List.range_succ, List.map_append]
          rfl
        · cases hd
      · rintro acc M' hD ⟨kp, ha⟩
        exact ⟨_, rfl, by rw [hD, ha]⟩
    unfold b_law
    have e2 : ∀ ev : Ev, (Ok (ev [some (.ref 0), none] M) fun d M' => ∃ D0, d = .ref D0 ∧ M'[D0]? = some (.lst ((List.range m).map fun _ => D.bl true))) → Ok (sRet (eCall fAll (eCons ev eNil)) [some (.ref 0), none] M) fun o M' => ∃ d, o = .ret d ∧ d = .bl true := fun ev q => by
      simp only [sRet, eCall, eCons, eNil, ok_bind, ok_some]
      refine q.mono ?_
      rintro _ M' ⟨D0, rfl, hD⟩
      rw [fAll_true hD]
      exact ok_some.mpr ⟨_, rfl, rfl⟩
    exact e2 _ lc
  obtain ⟨d, M', e, rfl⟩ := key
  refine ⟨M', ?_⟩
  unfold callD dnX at e
  split at e
  · rename_i v M2 q
    cases e
    exact q
  · cases e
end Pr
set_option Elab.async false
set_option linter.all false
set_option maxRecDepth 100000
set_option maxHeartbeats 4000000
namespace Pr
open PySem PySem.Spec PyProof.Rows L2
theorem sz63 : (63 : Nat) ≤ sizeLine := by rw [sizeLine_eq]; decide
/-- a def's code object, by its own -/
theorem code_is {K : PySem.W.Frag} {x qual : Str} {params : Arguments} {body : List Stmt} {scope : Scope} {dvs : List V} {kws : List (Str × V)} {p : He.Defn} {fd : FuncData} (F : FunD K x qual params body scope dvs kws (He.fAd K p) fd) : fd.code = .ref (He.codeOf K p) := by
  obtain ⟨oc, od, dV, kV, doc, pm, an, cdv, ct, osl, rfl, lk, hcd, _, _⟩ := F.ex
  obtain ⟨c, hc⟩ := He.codeIn_ref hcd
  subst hc
  rw [He.codeOf_eq lk rfl]
end Pr
open PySem PySem.W PySem.Calls PyProof.Rows
theorem PySem.Challenge.cw_arrivalmill_k29_whole_clocks_and_their_t_holds : PySem.Challenge.rw_arrivalmill_k29_whole_clocks_and_their_t.Holds := by
  w_on; o_law
  refine HandSHeadRun.head_any (r := OpenLaw.row PySem.Challenge.rw_arrivalmill_k29_whole_clocks_and_their_t) (q := view (OpenLaw.row PySem.Challenge.rw_arrivalmill_k29_whole_clocks_and_their_t).prog [21]) (H := Pr.hk) (ob := Pr.ob) (M := 20000) (loose := Pr.others) (d := HandSHeadRun.topDef (OpenLaw.row PySem.Challenge.rw_arrivalmill_k29_whole_clocks_and_their_t).prog 21) (kwd := []) Pr.ob_eq
    (by kernel_rfl) (fun s => by kernel_rfl) Pr.run (by kernel_rfl) (by kernel_rfl) (by kernel_rfl) (by rfl) (by first | assumption | decide +kernel) (by decide +kernel) ⟨rfl, rfl, rfl, rfl, rfl, by decide +kernel⟩ ?hw ?hc
  case hw => w_witness2
  case hc =>
    refine Mi.walk_dataT (l := PySem.Challenge.rw_arrivalmill_k29_whole_clocks_and_their_t) (n := 63) (k := 21) (x := "script") (g := Pr.callN 7 13) (tl := [(23, Pr.lamQ)]) rfl Pr.sz63 (by kernel_rfl) ⟨rfl, by decide, by decide⟩ ?F Pr.law_true
    intro w mg fa h Y G hmg0
    obtain ⟨K, KX, c⟩ := Y
    have hmg : mg ("law" : PySem.Str) = some (.ref fa) := by
      have e : (HandSHeadRun.topDef (OpenLaw.row PySem.Challenge.rw_arrivalmill_k29_whole_clocks_and_their_t).prog 21).name = ("law" : PySem.Str) := by kernel_rfl
      rw [← e]
      exact hmg0
    have hd := Pr.hd_of (w := w) KX G c
    obtain ⟨fd, F⟩ := hd.f_law
    have e := hmg.symm.trans hd.d_law
    cases e
    have b := L2.FunD.bindsA (ps := ["script"]) F fun _ _ _ _ _ _ us hl => match us, hl with | [_], _ => rfl
    refine ⟨K, fd, Pr.adr K, fun _ => (He.cT K ("_law_set", none)).1, KX, fun s v => b s [v] rfl, ?_, ?_, ?_, ?_, ?_⟩
    · intro p hp
      rw [List.mem_singleton.mp hp]
      exact c.empty _ (List.mem_singleton.mpr rfl)
    · intro p hp
      rw [List.mem_singleton.mp hp]
      exact c.out _ (List.mem_singleton.mpr rfl)
    · intro p hp
      rw [List.mem_singleton.mp hp]
      exact PySem.W.codeHd_of_K KX (c.hd _ (List.mem_singleton.mpr rfl))
    · exact List.nodup_cons.mpr ⟨List.not_mem_nil, List.nodup_nil⟩
    · intro base KB GB tb
      have L : Pr.Lx K mg base (Pr.adr K) := ⟨(He.cT K ("_law_set", none)).1, fun fd F => Pr.code_is F, tb _ (List.mem_singleton.mpr rfl)⟩
      exact Pr.ok_law hd (Pr.fnsP hd 6) (Pr.fnsL hd L 6) F
