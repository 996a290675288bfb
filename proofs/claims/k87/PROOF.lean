import PyProof.Rows.All
import Wide.All
import OpenK.AllK
import Wide.FinOn
import HandS.ForMost
import HandS.ForExc
import HandS.IsInst
import HandS.Flow
import HandS.Zip
import HandS.TupAny
import HandS.TupMul
import HandS.TupLe
import HandS.Small
import HandS.RaiseMore
import HandS.More
import HandS.ExcInit
import HandS.ExcField
import HandS.HotCalls
import KE.KExcIs
import KE.KTryMore
import HandS.MakeKwOnly
import HandS.Property
import HandS.Conv
import HandS.ListItems
import HandS.DictComp
import KE.KDictList
import HandS.Star
import HandS.Style
import KE.GoesEnum
import KE.GoesMore
import HandS.NoneIn
import HandS.Deep
import PyProof.ReprLen
import PyProof.StrLawsTight
import PyProof.FitsReplace
import PySem.Challenge.RW_interruptruns_k87_choice_texts_refused
set_option Elab.async false
set_option linter.all false
set_option maxRecDepth 100000
set_option maxHeartbeats 4000007
/-! Mir0 -/
namespace Mi
open L2 PySem PySem.Spec PyProof.Rows

/-! ### data that nobody changes -/
/-- a plain value: what a Python value says, without addresses -/
inductive T where
  | non | bl (b : Bool) | int (i : Int) | str (x : Str) | tup (ts : List T) | lst (ts : List T) | scr (ts : List T) | glb (a : Addr) | ty (n : String)
  /-- an instance of an own class whose attributes stay as they are; dicts that stay as they are: keys that are ints and texts, keys that are tuples of these -/
  | ins (C : Addr) (ns : List Str) (ts : List T) | dk (ks : List L2.Key) (ts : List T) | dt (ks : List (List L2.Key)) (ts : List T)
/-- a value: a plain one, the n-th of the objects that are changed, or a caught exception at a: its class, its fields, which stand at o -/
inductive D where
  | t (x : T) | r (n : Nat) | x (a : Addr) (o : Option Addr) (C : Addr) (fs : List (Str × T))
/-- an object that is changed -/
inductive SO where
  | lst (ds : List D) | ins (C : Addr) (fs : List (Str × D)) | dk (lk : Bool) (kvs : List (L2.Key × D)) | dt (kvs : List (List L2.Key × D))
abbrev Sto := List SO

/-- a tuple that is read: tracked, or an object of the module -/
def TupAt (K : PySem.W.Frag) (H : Hp) (a : Addr) (vs : List V) : Prop := H a = some (.tup vs) ∨
  ∃ (o : Obj) (its : Array Value) (n : Nat), K.lookup a = some o ∧ o.cls = .type "tuple" ∧ o.data = .seq its n ∧ its.size ≤ sizeLine ∧ Vals vs its.toList
theorem TupAt.sq {K : PySem.W.Frag} {H : Hp} {a : Addr} {vs : List V} (h : TupAt K H a vs) : SqT K H a vs := h.imp (fun h => .inl h) id
/-- a list that is locked, or an object of the module: nobody can change it -/
def LkAt (K : PySem.W.Frag) (H : Hp) (a : Addr) (vs : List V) : Prop := (∃ o, H a = some (.frz o (.lst vs))) ∨
  ∃ (o : Obj) (its : Array Value) (n : Nat), K.lookup a = some o ∧ o.cls = .type "list" ∧ o.dict = none ∧ o.data = .seq its n ∧ its.size ≤ sizeLine ∧ Vals vs its.toList
theorem LkAt.sq {K : PySem.W.Frag} {H : Hp} {a : Addr} {vs : List V} (h : LkAt K H a vs) : SqL K H a vs := h.imp (fun h => .inr h) id
/-- a dict, a loop may walk it -/
def DkAt (H : Hp) (a : Addr) (kvs : List (L2.Key × V)) : Prop := H a = some (.dK kvs) ∨ ∃ o, H a = some (.frz o (.dK kvs))
mutual
/-- v stands for the plain value; F: the addresses whose objects stay as they are -/
def RelT (K : PySem.W.Frag) (F : Addr → Prop) (H : Hp) : T → V → Prop
  | .non, v => v = .non
  | .bl b, v => v = .bl b
  | .int i, v => v = .int i
  | .str x, v => v = .str x
  | .tup ts, v => ∃ a vs, v = .ref a ∧ TupAt K H a vs ∧ RelTs K F H ts vs
  | .lst ts, v => ∃ a vs, v = .ref a ∧ F a ∧ H a = some (.lst vs) ∧ RelTs K F H ts vs
  | .scr ts, v => ∃ a vs, v = .ref a ∧ LkAt K H a vs ∧ RelTs K F H ts vs
  | .glb a, v => v = .ref a
  | .ty n, v => v = .ty n
  | .ins C ns ts, v => ∃ a dx vs, v = .ref a ∧ F a ∧ H a = some (.ins C dx (ns.zip vs)) ∧ ns.length = ts.length ∧ RelTs K F H ts vs
  | .dk ks ts, v => ∃ a vs, v = .ref a ∧ F a ∧ DkAt H a (ks.zip vs) ∧ ks.length = ts.length ∧ RelTs K F H ts vs
  | .dt ks ts, v => ∃ a vs, v = .ref a ∧ F a ∧ H a = some (.dT (ks.zip vs)) ∧ ks.length = ts.length ∧ RelTs K F H ts vs
def RelTs (K : PySem.W.Frag) (F : Addr → Prop) (H : Hp) : List T → List V → Prop
  | [], vs => vs = []
  | t :: ts, vs => ∃ v r, vs = v :: r ∧ RelT K F H t v ∧ RelTs K F H ts r
end
/-- where the changed objects stand; which lists stay -/
structure Wd where
  ρ : List Addr
  F : Addr → Prop
/-- an exception's own dict -/
def RelFs (K : PySem.W.Frag) (W : Wd) (H : Hp) : List (Str × T) → List (Str × V) → Prop
  | [], vs => vs = []
  | (n, t) :: r, vs => ∃ v u, vs = (n, v) :: u ∧ RelT K W.F H t v ∧ RelFs K W H r u
def ExD (K : PySem.W.Frag) (W : Wd) (H : Hp) (fs : List (Str × T)) (o : Option Addr) : Prop := fs = [] ∨ ∃ a vs, o = some a ∧ H a = some (.xd vs) ∧ RelFs K W H fs vs
def RelD (K : PySem.W.Frag) (W : Wd) (H : Hp) : D → V → Prop
  | .t x, v => RelT K W.F H x v
  | .r n, v => ∃ a, W.ρ[n]? = some a ∧ v = .ref a
  | .x a o _ fs, v => v = .ref a ∧ ExD K W H fs o
def RelDs (K : PySem.W.Frag) (W : Wd) (H : Hp) : List D → List V → Prop
  | [], vs => vs = []
  | d :: ds, vs => ∃ v r, vs = v :: r ∧ RelD K W H d v ∧ RelDs K W H ds r
def RelKs {κ : Type} (K : PySem.W.Frag) (W : Wd) (H : Hp) : List (κ × D) → List (κ × V) → Prop
  | [], vs => vs = []
  | (k, d) :: r, vs => ∃ v u, vs = (k, v) :: u ∧ RelD K W H d v ∧ RelKs K W H r u
def SoOk (K : PySem.W.Frag) (W : Wd) (H : Hp) (a : Addr) : SO → Prop
  | .lst ds => ∃ vs, H a = some (.lst vs) ∧ RelDs K W H ds vs
  | .ins C fs => ∃ dx vs, H a = some (.ins C dx vs) ∧ RelKs K W H fs vs
  | .dk lk kvs => ∃ vs, (if lk = true then ∃ o, H a = some (.frz o (.dK vs)) else H a = some (.dK vs)) ∧ RelKs K W H kvs vs
  | .dt kvs => ∃ vs, H a = some (.dT vs) ∧ RelKs K W H kvs vs
structure Rl (K : PySem.W.Frag) (W : Wd) (st : Sto) (H : Hp) : Prop where
  len : W.ρ.length = st.length
  nd : W.ρ.Nodup
  live : ∀ (n : Nat) (a : Addr) (o : SO), W.ρ[n]? = some a → st[n]? = some (o : SO) → SoOk K W H a o
  sep : ∀ a ∈ W.ρ, ¬ W.F a
  fz : ∀ a, W.F a → ∃ o, H a = some o
/-- what a piece of code leaves of the world: the changed objects stand where they stood, all others are as they were -/
structure Ext (W : Wd) (H : Hp) (W' : Wd) (H' : Hp) : Prop where
  pre : W.ρ <+: W'.ρ
  new : ∀ a ∈ W'.ρ, a ∈ W.ρ ∨ H a = none
  fF : ∀ a, W.F a → W'.F a
  nF : ∀ a, W'.F a → W.F a ∨ H a = none
  keep : ∀ a o, H a = some o → a ∉ W.ρ → H' a = some o
  there : ∀ a o, H a = some o → ∃ o', H' a = some o'
  lk : ∀ a o kvs, H a = some (.frz o (.dK kvs)) → H' a = some (.frz o (.dK kvs))

section
variable {K : PySem.W.Frag} {W W1 W2 W3 : Wd} {H H1 H2 H3 : Hp} {st : Sto}
theorem Ext.refl : Ext W H W H := ⟨List.prefix_refl _, fun _ h => .inl h, fun _ h => h, fun _ h => .inl h, fun _ _ h _ => h, fun _ o h => ⟨o, h⟩, fun _ _ _ h => h⟩
theorem Ext.trans (a : Ext W H W1 H1) (b : Ext W1 H1 W2 H2) : Ext W H W2 H2 where
  pre := a.pre.trans b.pre
  new := fun x hx => by
    rcases b.new x hx with h | h
    · exact a.new x h
    · cases e : H x with
      | none => exact .inr rfl
      | some o =>
        obtain ⟨o', e'⟩ := a.there x o e
        rw [h] at e'; cases e'
  fF := fun x h => b.fF x (a.fF x h)
  nF := fun x hx => by
    rcases b.nF x hx with h | h
    · exact a.nF x h
    · cases e : H x with
      | none => exact .inr rfl
      | some o =>
        obtain ⟨o', e'⟩ := a.there x o e
        rw [h] at e'; cases e'
  keep := fun x o e hm => b.keep x o (a.keep x o e hm) fun h => by
    rcases a.new x h with h | h
    · exact hm h
    · rw [e] at h; cases h
  there := fun x o e => by
    obtain ⟨o', e'⟩ := a.there x o e
    exact b.there x o' e'
  lk := fun x o kvs e => b.lk x o kvs (a.lk x o kvs e)

/-- what a changed object may be -/
def chg : HO → Bool
  | .lst _ => true
  | .ins .. => true
  | .dK _ => true
  | .dT _ => true
  | .frz _ (.dK _) => true
  | _ => false
theorem SoOk.is {a : Addr} {so : SO} (h : SoOk K W H a so) : ∃ o, H a = some o ∧ chg o = true := by
  cases so with
  | lst ds => obtain ⟨vs, e, _⟩ := h; exact ⟨_, e, rfl⟩
  | ins C fs => obtain ⟨dx, vs, e, _⟩ := h; exact ⟨_, e, rfl⟩
  | dt kvs => obtain ⟨vs, e, _⟩ := h; exact ⟨_, e, rfl⟩
  | dk lk kvs =>
    obtain ⟨vs, e, _⟩ := h
    cases lk with
    | true => rw [if_pos rfl] at e; obtain ⟨o, e⟩ := e; exact ⟨_, e, rfl⟩
    | false => rw [if_neg (by decide)] at e; exact ⟨_, e, rfl⟩
/-- only such are among the changed objects -/
theorem Rl.tup (R : Rl K W st H) {a : Addr} {o : HO} (h : H a = some o) (h1 : chg o = false) : a ∉ W.ρ := fun hm => by
  obtain ⟨n, hn, e⟩ := List.getElem_of_mem hm
  have e1 : W.ρ[n]? = some a := by rw [List.getElem?_eq_getElem hn, e]
  have hn2 : n < st.length := by rw [← R.len]; exact hn
  obtain ⟨u, e2, q⟩ := (R.live n a st[n] e1 (List.getElem?_eq_getElem hn2)).is
  rw [h] at e2
  cases e2
  rw [h1] at q
  cases q
/-- what plain values lean on -/
structure KeepT (F : Addr → Prop) (H : Hp) (F' : Addr → Prop) (H' : Hp) : Prop where
  fF : ∀ a, F a → F' a
  lst : ∀ a o, F a → H a = some o → H' a = some o
  tup : ∀ a xs, H a = some (.tup xs) → H' a = some (.tup xs)
  frz : ∀ a o xs, H a = some (.frz o (.lst xs)) → H' a = some (.frz o (.lst xs))
  xd : ∀ a fs, H a = some (.xd fs) → H' a = some (.xd fs)
theorem KeepT.lkAt {F F' : Addr → Prop} (k : KeepT F H F' H1) {a : Addr} {vs : List V} (h : LkAt K H a vs) : LkAt K H1 a vs := h.imp (fun ⟨o, h⟩ => ⟨o, k.frz a o vs h⟩) id
theorem KeepT.tupAt {F F' : Addr → Prop} (k : KeepT F H F' H1) {a : Addr} {vs : List V} (h : TupAt K H a vs) : TupAt K H1 a vs := h.imp (k.tup a vs) id
mutual
theorem KeepT.relT {F F' : Addr → Prop} (k : KeepT F H F' H1) : ∀ (t : T) (v : V), RelT K F H t v → RelT K F' H1 t v
  | .non, v, h => h
  | .bl b, v, h => h
  | .int i, v, h => h
  | .str x, v, h => h
  | .glb a, v, h => h
  | .ty n, v, h => h
  | .tup ts, v, h => by
    obtain ⟨a, vs, e, q, r⟩ := h
    exact ⟨a, vs, e, k.tupAt q, KeepT.relTs k ts vs r⟩
  | .lst ts, v, h => by
    obtain ⟨a, vs, e, f, q, r⟩ := h
    exact ⟨a, vs, e, k.fF a f, k.lst a _ f q, KeepT.relTs k ts vs r⟩
  | .scr ts, v, h => by
    obtain ⟨a, vs, e, q, r⟩ := h
    exact ⟨a, vs, e, k.lkAt q, KeepT.relTs k ts vs r⟩
  | .ins C ns ts, v, h => by
    obtain ⟨a, dx, vs, e, f, q, l, r⟩ := h
    exact ⟨a, dx, vs, e, k.fF a f, k.lst a _ f q, l, KeepT.relTs k ts vs r⟩
  | .dk ks ts, v, h => by
    obtain ⟨a, vs, e, f, q, l, r⟩ := h
    exact ⟨a, vs, e, k.fF a f, q.imp (k.lst a _ f) (fun ⟨o, q⟩ => ⟨o, k.lst a _ f q⟩), l, KeepT.relTs k ts vs r⟩
  | .dt ks ts, v, h => by
    obtain ⟨a, vs, e, f, q, l, r⟩ := h
    exact ⟨a, vs, e, k.fF a f, k.lst a _ f q, l, KeepT.relTs k ts vs r⟩
theorem KeepT.relTs {F F' : Addr → Prop} (k : KeepT F H F' H1) : ∀ (ts : List T) (vs : List V), RelTs K F H ts vs → RelTs K F' H1 ts vs
  | [], vs, h => h
  | t :: ts, vs, h => by
    obtain ⟨v, r, e, a, b⟩ := h
    exact ⟨v, r, e, KeepT.relT k t v a, KeepT.relTs k ts r b⟩
end
theorem Ext.kt (E : Ext W H W1 H1) (R : Rl K W st H) : KeepT W.F H W1.F H1 := ⟨E.fF, fun a xs f q => E.keep a _ q (fun hm => R.sep a hm f), fun a xs h => E.keep a _ h (R.tup h rfl), fun a o xs h => E.keep a _ h (R.tup h rfl), fun a fs h => E.keep a _ h (R.tup h rfl)⟩
theorem Ext.relT (E : Ext W H W1 H1) (R : Rl K W st H) (t : T) (v : V) (h : RelT K W.F H t v) : RelT K W1.F H1 t v := (E.kt R).relT t v h
theorem Ext.relTs (E : Ext W H W1 H1) (R : Rl K W st H) (ts : List T) (vs : List V) (h : RelTs K W.F H ts vs) : RelTs K W1.F H1 ts vs := (E.kt R).relTs ts vs h
theorem pre_get {α : Type} {l l' : List α} {n : Nat} {a : α} (p : l <+: l') (h : l[n]? = some a) : l'[n]? = some a := by
  obtain ⟨r, rfl⟩ := p
  rw [List.getElem?_append_left (List.getElem?_eq_some_iff.mp h).1]
  exact h
theorem KeepT.relFs (k : KeepT W.F H W1.F H1) : ∀ {fs : List (Str × T)} {vs : List (Str × V)}, RelFs K W H fs vs → RelFs K W1 H1 fs vs
  | [], vs, h => h
  | (n, t) :: r, vs, h => by
    obtain ⟨v, u, e, a, b⟩ := h
    exact ⟨v, u, e, k.relT t v a, KeepT.relFs k b⟩
theorem KeepT.exd (k : KeepT W.F H W1.F H1) {fs : List (Str × T)} {o : Option Addr} (h : ExD K W H fs o) : ExD K W1 H1 fs o := by
  rcases h with h | ⟨a, vs, h1, h2, h3⟩
  · exact .inl h
  · exact .inr ⟨a, vs, h1, k.xd a vs h2, k.relFs h3⟩
theorem KeepT.relD (k : KeepT W.F H W1.F H1) (pre : W.ρ <+: W1.ρ) {d : D} {v : V} (h : RelD K W H d v) : RelD K W1 H1 d v := by
  cases d with
  | x a o C fs => exact ⟨h.1, k.exd h.2⟩
  | t x => exact k.relT x v h
  | r n =>
    obtain ⟨a, e, q⟩ := h
    exact ⟨a, pre_get pre e, q⟩
theorem KeepT.relDs (k : KeepT W.F H W1.F H1) (pre : W.ρ <+: W1.ρ) : ∀ {ds : List D} {vs : List V}, RelDs K W H ds vs → RelDs K W1 H1 ds vs
  | [], vs, h => h
  | d :: ds, vs, h => by
    obtain ⟨v, r, e, a, b⟩ := h
    exact ⟨v, r, e, k.relD pre a, KeepT.relDs k pre b⟩
theorem KeepT.relKs {κ : Type} (k : KeepT W.F H W1.F H1) (pre : W.ρ <+: W1.ρ) : ∀ {ds : List (κ × D)} {vs : List (κ × V)}, RelKs K W H ds vs → RelKs K W1 H1 ds vs
  | [], vs, h => h
  | (x, d) :: ds, vs, h => by
    obtain ⟨v, r, e, a, b⟩ := h
    exact ⟨v, r, e, k.relD pre a, KeepT.relKs k pre b⟩
theorem KeepT.soOk (k : KeepT W.F H W1.F H1) (pre : W.ρ <+: W1.ρ) {a : Addr} {o : SO} (e : H1 a = H a) (h : SoOk K W H a o) : SoOk K W1 H1 a o := by
  cases o with
  | lst ds => obtain ⟨vs, q, r⟩ := h; exact ⟨vs, e.trans q, k.relDs pre r⟩
  | ins C fs => obtain ⟨dx, vs, q, r⟩ := h; exact ⟨dx, vs, e.trans q, k.relKs pre r⟩
  | dt kvs => obtain ⟨vs, q, r⟩ := h; exact ⟨vs, e.trans q, k.relKs pre r⟩
  | dk lk kvs =>
    obtain ⟨vs, q, r⟩ := h
    refine ⟨vs, ?_, k.relKs pre r⟩
    cases lk with
    | true => rw [if_pos rfl] at q ⊢; obtain ⟨o, q⟩ := q; exact ⟨o, e.trans q⟩
    | false => rw [if_neg (by decide)] at q ⊢; exact e.trans q
theorem Ext.relD (E : Ext W H W1 H1) (R : Rl K W st H) {d : D} {v : V} (h : RelD K W H d v) : RelD K W1 H1 d v := (E.kt R).relD E.pre h
theorem Ext.relDs (E : Ext W H W1 H1) (R : Rl K W st H) {ds : List D} {vs : List V} (h : RelDs K W H ds vs) : RelDs K W1 H1 ds vs := (E.kt R).relDs E.pre h
theorem relTs_len : ∀ {ts : List T} {vs : List V} {F : Addr → Prop}, RelTs K F H ts vs → vs.length = ts.length
  | [], vs, F, h => by cases h; rfl
  | t :: ts, vs, F, h => by
    obtain ⟨v, r, e, a, b⟩ := h
    subst e
    show r.length + 1 = ts.length + 1
    rw [relTs_len b]
theorem relDs_len : ∀ {ds : List D} {vs : List V}, RelDs K W H ds vs → vs.length = ds.length
  | [], vs, h => by cases h; rfl
  | d :: ds, vs, h => by
    obtain ⟨v, r, e, a, b⟩ := h
    subst e
    show r.length + 1 = ds.length + 1
    rw [relDs_len b]
theorem relTs_get : ∀ {ts : List T} {vs : List V} {F : Addr → Prop} {i : Nat} {t : T}, RelTs K F H ts vs → ts[i]? = some t → ∃ v, vs[i]? = some v ∧ RelT K F H t v
  | [], vs, F, i, t, h, e => by simp at e
  | x :: ts, vs, F, i, t, h, e => by
    obtain ⟨v, r, rfl, a, b⟩ := h
    cases i with
    | zero => cases e; exact ⟨v, rfl, a⟩
    | succ i => exact relTs_get (ts := ts) (vs := r) b (by simpa using e)
theorem relDs_get : ∀ {ds : List D} {vs : List V} {i : Nat} {d : D}, RelDs K W H ds vs → ds[i]? = some d → ∃ v, vs[i]? = some v ∧ RelD K W H d v
  | [], vs, i, t, h, e => by simp at e
  | x :: ts, vs, i, t, h, e => by
    obtain ⟨v, r, rfl, a, b⟩ := h
    cases i with
    | zero => cases e; exact ⟨v, rfl, a⟩
    | succ i => exact relDs_get (ds := ts) (vs := r) b (by simpa using e)
theorem relTs_append : ∀ {ts us : List T} {vs ws : List V} {F : Addr → Prop}, RelTs K F H ts vs → RelTs K F H us ws → RelTs K F H (ts ++ us) (vs ++ ws)
  | [], us, vs, ws, F, h, k => by cases h; exact k
  | t :: ts, us, vs, ws, F, h, k => by
    obtain ⟨v, r, rfl, a, b⟩ := h
    exact ⟨v, r ++ ws, rfl, a, relTs_append b k⟩
theorem relDs_append : ∀ {ts us : List D} {vs ws : List V}, RelDs K W H ts vs → RelDs K W H us ws → RelDs K W H (ts ++ us) (vs ++ ws)
  | [], us, vs, ws, h, k => by cases h; exact k
  | t :: ts, us, vs, ws, h, k => by
    obtain ⟨v, r, rfl, a, b⟩ := h
    exact ⟨v, r ++ ws, rfl, a, relDs_append b k⟩
theorem relTs_drop : ∀ {ts : List T} {vs : List V} {F : Addr → Prop} (n : Nat), RelTs K F H ts vs → RelTs K F H (ts.drop n) (vs.drop n)
  | ts, vs, F, 0, h => by rw [List.drop_zero, List.drop_zero]; exact h
  | [], vs, F, n + 1, h => by cases h; rfl
  | t :: ts, vs, F, n + 1, h => by
    obtain ⟨v, r, rfl, a, b⟩ := h
    exact relTs_drop n b
theorem relTs_take : ∀ {ts : List T} {vs : List V} {F : Addr → Prop} (n : Nat), RelTs K F H ts vs → RelTs K F H (ts.take n) (vs.take n)
  | ts, vs, F, 0, h => rfl
  | [], vs, F, n + 1, h => by cases h; rfl
  | t :: ts, vs, F, n + 1, h => by
    obtain ⟨v, r, rfl, a, b⟩ := h
    exact ⟨v, _, rfl, a, relTs_take n b⟩
theorem relDs_set : ∀ {ds : List D} {vs : List V} {d : D} {v : V} (n : Nat), RelDs K W H ds vs → RelD K W H d v → RelDs K W H (ds.set n d) (vs.set n v)
  | [], vs, d, v, n, h, k => by cases h; rfl
  | x :: ds, vs, d, v, 0, h, k => by
    obtain ⟨y, r, rfl, a, b⟩ := h
    exact ⟨v, r, rfl, k, b⟩
  | x :: ds, vs, d, v, n + 1, h, k => by
    obtain ⟨y, r, rfl, a, b⟩ := h
    exact ⟨y, _, rfl, a, relDs_set n b k⟩
theorem relDs_dropLast : ∀ {ds : List D} {vs : List V}, RelDs K W H ds vs → RelDs K W H ds.dropLast vs.dropLast
  | [], vs, h => by cases h; rfl
  | [x], vs, h => by
    obtain ⟨y, r, rfl, a, b⟩ := h
    cases b
    rfl
  | x :: y :: ds, vs, h => by
    obtain ⟨v, r, rfl, a, v2, r2, rfl, a2, b⟩ := h
    exact ⟨v, _, rfl, a, relDs_dropLast (ds := y :: ds) ⟨v2, r2, rfl, a2, b⟩⟩
theorem relDs_t : ∀ {ts : List T} {vs : List V}, RelTs K W.F H ts vs → RelDs K W H (ts.map .t) vs
  | [], vs, h => h
  | t :: ts, vs, h => by
    obtain ⟨v, r, e, a, b⟩ := h
    exact ⟨v, r, e, a, relDs_t b⟩
/-- all of them plain -/
def plains : List D → Option (List T)
  | [] => some []
  | .t x :: r => (plains r).map (x :: ·)
  | .r _ :: _ => none
  | .x .. :: _ => none
theorem plains_map : ∀ (ts : List T), plains (ts.map .t) = some ts
  | [] => rfl
  | t :: ts => by show (plains (ts.map .t)).map (t :: ·) = _; rw [plains_map ts]; rfl
theorem relTs_of : ∀ {ds : List D} {ts : List T} {vs : List V}, plains ds = some ts → RelDs K W H ds vs → RelTs K W.F H ts vs
  | [], ts, vs, e, h => by cases e; exact h
  | .t x :: ds, ts, vs, e, h => by
    obtain ⟨v, r, rfl, a, b⟩ := h
    have e : (plains ds).map (x :: ·) = some ts := e
    cases q : plains ds with
    | none => (rw [q] at e; cases e)
    | some us =>
      rw [q] at e
      cases e
      exact ⟨v, r, rfl, a, relTs_of q b⟩
  | .r n :: ds, ts, vs, e, h => by cases e
  | .x .. :: ds, ts, vs, e, h => by cases e

/-! ### the three ways the heap moves -/
/-- a new thing that is no changed object -/
theorem Rl.more (R : Rl K W st H) {p : Addr} {o : HO} (hp : H p = none) : Ext W H W (upd H p o) := 
  ⟨List.prefix_refl _, fun _ h => .inl h, fun _ h => h, fun _ h => .inl h, fun a u h _ => by rw [upd_ne (ne_of_none h hp)]; exact h, fun a u h => ⟨u, by rw [upd_ne (ne_of_none h hp)]; exact h⟩, fun a o kvs h => by rw [upd_ne (ne_of_none h hp)]; exact h⟩
theorem Rl.keep (R : Rl K W st H) (k : KeepT W.F H W1.F H1) (e : W1.ρ = W.ρ) (hk : ∀ a ∈ W.ρ, H1 a = H a) (hs : ∀ a ∈ W.ρ, ¬ W1.F a) (hf : ∀ a, W1.F a → ∃ o, H1 a = some o) : Rl K W1 st H1 := by
  have pre : W.ρ <+: W1.ρ := by rw [e]; exact List.prefix_refl _
  refine ⟨by rw [e]; exact R.len, by rw [e]; exact R.nd, fun n a o h1 h2 => ?_, fun a ha => by rw [e] at ha; exact hs a ha, hf⟩
  rw [e] at h1
  have ha : a ∈ W.ρ := List.mem_of_getElem? h1
  exact k.soOk pre (hk a ha) (R.live n a o h1 h2)
theorem Rl.mono (R : Rl K W st H) (E : Ext W H W1 H1) (e : W1.ρ = W.ρ) (hk : ∀ a ∈ W.ρ, H1 a = H a) (hs : ∀ a ∈ W.ρ, ¬ W1.F a) (hf : ∀ a, W1.F a → ∃ o, H1 a = some o) : Rl K W1 st H1 :=
  R.keep (E.kt R) e hk hs hf
theorem Rl.mem (R : Rl K W st H) {a : Addr} (ha : a ∈ W.ρ) : ∃ o, H a = some o := by
  obtain ⟨n, hn, e⟩ := List.getElem_of_mem ha
  have e1 : W.ρ[n]? = some a := by rw [List.getElem?_eq_getElem hn, e]
  have hn2 : n < st.length := by rw [← R.len]; exact hn
  obtain ⟨u, q, _⟩ := (R.live n a st[n] e1 (List.getElem?_eq_getElem hn2)).is
  exact ⟨u, q⟩
/-- a new tuple, or another new thing that nobody looks after -/
theorem Rl.rest (R : Rl K W st H) {p : Addr} {o : HO} (hp : H p = none) : Rl K W st (upd H p o) :=
  R.mono (R.more hp) rfl (fun a ha => by obtain ⟨u, e⟩ := R.mem ha; rw [upd_ne (ne_of_none e hp)]) R.sep fun a ha => by
    obtain ⟨xs, e⟩ := R.fz a ha
    exact ⟨xs, by rw [upd_ne (ne_of_none e hp)]; exact e⟩
/-- a new list that stays as it is -/
def Wd.fix (W : Wd) (p : Addr) : Wd := ⟨W.ρ, fun a => W.F a ∨ a = p⟩
theorem Ext.fix (W : Wd) {p : Addr} {o : HO} (hp : H p = none) : Ext W H (W.fix p) (upd H p o) :=
  ⟨List.prefix_refl _, fun _ h => .inl h, fun _ h => .inl h, fun a h => h.imp id fun e => by rw [e]; exact hp, fun a u h _ => by rw [upd_ne (ne_of_none h hp)]; exact h, fun a u h => ⟨u, by rw [upd_ne (ne_of_none h hp)]; exact h⟩, fun a o kvs h => by rw [upd_ne (ne_of_none h hp)]; exact h⟩
theorem Rl.fixO (R : Rl K W st H) {p : Addr} {o : HO} (hp : H p = none) : Rl K (W.fix p) st (upd H p o) :=
  R.mono (Ext.fix W hp) rfl (fun a ha => by obtain ⟨u, e⟩ := R.mem ha; rw [upd_ne (ne_of_none e hp)])
    (fun a ha h => h.elim (R.sep a ha) fun e => by obtain ⟨u, q⟩ := R.mem ha; rw [e, hp] at q; cases q)
    fun a ha => by
      by_cases e : a = p
      · subst e; exact ⟨o, upd_same⟩
      · obtain ⟨ys, q⟩ := R.fz a (ha.resolve_right e)
        exact ⟨ys, by rw [upd_ne e]; exact q⟩
theorem Rl.fix (R : Rl K W st H) {p : Addr} {xs : List V} (hp : H p = none) : Rl K (W.fix p) st (upd H p (.lst xs)) := R.fixO hp
/-- a new object that will be changed -/
def Wd.add (W : Wd) (p : Addr) : Wd := ⟨W.ρ ++ [p], W.F⟩
theorem Ext.add (W : Wd) {p : Addr} {o : HO} (hp : H p = none) : Ext W H (W.add p) (upd H p o) :=
  ⟨List.prefix_append _ _, fun a h => by
      (rcases List.mem_append.mp h with h | h)
      · exact .inl h
      · rw [List.mem_singleton] at h; subst h; exact .inr hp,
    fun _ h => h, fun _ h => .inl h, fun a u h _ => by rw [upd_ne (ne_of_none h hp)]; exact h, fun a u h => ⟨u, by rw [upd_ne (ne_of_none h hp)]; exact h⟩, fun a o kvs h => by rw [upd_ne (ne_of_none h hp)]; exact h⟩
theorem Rl.addO (R : Rl K W st H) {p : Addr} {so : SO} {ho : HO} (hp : H p = none) (hr : SoOk K (W.add p) (upd H p ho) p so) : Rl K (W.add p) (st ++ [so]) (upd H p ho) := by
  have E := Ext.add W (o := ho) hp
  have np : p ∉ W.ρ := fun h => by obtain ⟨u, q⟩ := R.mem h; rw [hp] at q; cases q
  refine ⟨?_, ?_, fun n a o h1 h2 => ?_, fun a ha h => ?_, fun a ha => ?_⟩
  · show (W.ρ ++ [p]).length = (st ++ [so]).length
    rw [List.length_append, List.length_append, R.len]; rfl
  · show (W.ρ ++ [p]).Nodup
    rw [List.nodup_append]
    exact ⟨R.nd, by simp, fun a ha b hb e => by rw [List.mem_singleton] at hb; subst hb; subst e; exact np ha⟩
  · have h1 : (W.ρ ++ [p])[n]? = some a := h1
    by_cases hn : n < W.ρ.length
    · rw [List.getElem?_append_left hn] at h1
      rw [List.getElem?_append_left (by rw [← R.len]; exact hn)] at h2
      have ha : a ∈ W.ρ := List.mem_of_getElem? h1
      have ne : a ≠ p := fun e => np (e ▸ ha)
      exact (E.kt R).soOk E.pre (upd_ne ne) (R.live n a o h1 h2)
    · rw [List.getElem?_append_right (by omega)] at h1
      rw [List.getElem?_append_right (by rw [← R.len]; omega)] at h2
      have hz : n - W.ρ.length = 0 := by
        cases e : n - W.ρ.length with
        | zero => rfl
        | succ k => rw [e] at h1; simp at h1
      rw [hz] at h1
      rw [← R.len, hz] at h2
      have e1 : p = a := by simpa using h1
      have e2 : so = o := by simpa using h2
      subst e1; subst e2
      exact hr
  · (rcases List.mem_append.mp ha with ha | ha)
    · exact R.sep a ha h
    · rw [List.mem_singleton] at ha
      subst ha
      obtain ⟨ys, q⟩ := R.fz a h
      rw [hp] at q; cases q
  · obtain ⟨ys, q⟩ := R.fz a ha
    exact ⟨ys, by rw [upd_ne (ne_of_none q hp)]; exact q⟩
theorem Rl.add (R : Rl K W st H) {p : Addr} {ds : List D} {xs : List V} (hp : H p = none) (hr : RelDs K W H ds xs) : Rl K (W.add p) (st ++ [.lst ds]) (upd H p (.lst xs)) :=
  R.addO hp ⟨xs, upd_same, (Ext.add W (o := .lst xs) hp).relDs R hr⟩
/-- the n-th object changes -/
theorem Ext.put {n : Nat} {p : Addr} {o u : HO} (hn : W.ρ[n]? = some p) (ho : H p = some u) (hu : ∀ b kvs, u ≠ .frz b (.dK kvs) := by intro _ _ z; cases z) : Ext W H W (upd H p o) :=
  ⟨List.prefix_refl _, fun _ h => .inl h, fun _ h => h, fun _ h => .inl h, fun a v h hm => by rw [upd_ne (fun e => hm (by rw [e]; exact List.mem_of_getElem? hn))]; exact h,
    fun a v h => by
      by_cases e : a = p
      · subst e; exact ⟨o, upd_same⟩
      · exact ⟨v, by rw [upd_ne e]; exact h⟩, fun a b kvs h => by rw [upd_ne (fun e => by rw [e, ho] at h; exact hu b kvs (Option.some.inj h))]; exact h⟩
theorem Rl.putO (R : Rl K W st H) {n : Nat} {p : Addr} {so : SO} {ho u : HO} (hn : W.ρ[n]? = some p) (hu : H p = some u) (hr : SoOk K W (upd H p ho) p so) (hl : ∀ b kvs, u ≠ .frz b (.dK kvs) := by intro _ _ z; cases z) : Rl K W (st.set n so) (upd H p ho) := by
  have E : Ext W H W (upd H p ho) := Ext.put hn hu hl
  refine ⟨by rw [List.length_set]; exact R.len, R.nd, fun m a o h1 h2 => ?_, R.sep, fun a ha => ?_⟩
  · by_cases e : m = n
    · subst e
      rw [hn] at h1; cases h1
      have hl : m < st.length := by rw [← R.len]; exact (List.getElem?_eq_some_iff.mp hn).1
      rw [List.getElem?_set_self hl] at h2; cases h2
      exact hr
    · rw [List.getElem?_set_ne (Ne.symm e)] at h2
      have ne : a ≠ p := fun z => by
        subst z
        obtain ⟨k1, e1⟩ := List.getElem?_eq_some_iff.mp h1
        obtain ⟨k2, e2⟩ := List.getElem?_eq_some_iff.mp hn
        exact e ((List.getElem_inj R.nd).mp (e1.trans e2.symm))
      exact (E.kt R).soOk E.pre (upd_ne ne) (R.live m a o h1 h2)
  · have ne : a ≠ p := fun z => by subst z; exact R.sep a (List.mem_of_getElem? hn) ha
    obtain ⟨ys, q⟩ := R.fz a ha
    exact ⟨ys, by rw [upd_ne ne]; exact q⟩
theorem Rl.put (R : Rl K W st H) {n : Nat} {p : Addr} {ds ds' : List D} {xs xs' : List V} (hn : W.ρ[n]? = some p) (ho : H p = some (.lst xs)) (hr : RelDs K W H ds' xs') : Rl K W (st.set n (.lst ds')) (upd H p (.lst xs')) :=
  R.putO hn ho ⟨xs', upd_same, (Ext.put (o := .lst xs') hn ho).relDs R hr⟩
end
end Mi
/-! Mir1 -/
namespace Mi
open L2 PySem PySem.Spec PyProof.Rows

/-! ### results -/
abbrev Env := List (Option D)
structure EnvR (K : PySem.W.Frag) (W : Wd) (H : Hp) (env : Env) (σ : L2.St) : Prop where
  len : σ.length = env.length
  get : ∀ (i : Nat) (d : D), env[i]? = some (some d) → ∃ v, σ[i]? = some (some v) ∧ RelD K W H d v
inductive Res (α : Type) where
  | ok (a : α) (st : Sto) | exc (C : Addr) (fs : List (Str × T)) (st : Sto) | bad
def Res.bind {α β : Type} (r : Res α) (k : α → Sto → Res β) : Res β := match r with
  | .ok a st => k a st
  | .exc C fs st => .exc C fs st
  | .bad => .bad
def Res.Holds {α : Type} (r : Res α) (A : α → Sto → Prop) (B : Addr → List (Str × T) → Sto → Prop) : Prop := match r with
  | .ok a st => A a st
  | .exc C fs st => B C fs st
  | .bad => False
theorem split {α β : Type} {r : Res α} {k : α → Sto → Res β} {A : β → Sto → Prop} {A' : α → Sto → Prop} {B B' : Addr → List (Str × T) → Sto → Prop} (h : (r.bind k).Holds A B)
    (ha : ∀ a st, (k a st).Holds A B → A' a st) (hb : ∀ C fs st, B C fs st → B' C fs st) : r.Holds A' B' := by
  cases r with
  | ok a st => exact ha a st h
  | exc C fs st => exact hb C fs st h
  | bad => exact h
theorem Res.Holds.imp {α : Type} {r : Res α} {A A' : α → Sto → Prop} {B B' : Addr → List (Str × T) → Sto → Prop} (h : r.Holds A B)
    (ha : ∀ a st, A a st → A' a st) (hb : ∀ C fs st, B C fs st → B' C fs st) : r.Holds A' B' := by
  cases r with
  | ok a st => exact ha a st h
  | exc C fs st => exact hb C fs st h
  | bad => exact h
def optR {α : Type} (o : Option α) (st : Sto) : Res α := match o with
  | some a => .ok a st
  | none => .bad
def OkD (K : PySem.W.Frag) (W : Wd) (H : Hp) (Q : VK) (d : D) (st' : Sto) : Prop := ∀ W' H' v, Ext W H W' H' → Rl K W' st' H' → RelD K W' H' d v → Q v H'
def OkB (K : PySem.W.Frag) (W : Wd) (H : Hp) (Q : Bool → Hp → Prop) (b : Bool) (st' : Sto) : Prop := ∀ W' H', Ext W H W' H' → Rl K W' st' H' → Q b H'
def OkA (K : PySem.W.Frag) (W : Wd) (H : Hp) (Q : List V → Hp → Prop) (ds : List D) (st' : Sto) : Prop := ∀ W' H' vs, Ext W H W' H' → Rl K W' st' H' → RelDs K W' H' ds vs → Q vs H'
def OkX (K : PySem.W.Frag) (W : Wd) (H : Hp) (E : XK) (C : Addr) (fs : List (Str × T)) (st' : Sto) : Prop := ∀ W' H' o, Ext W H W' H' → Rl K W' st' H' → ExD K W' H' fs o → E (.ref C) o H'
section
variable {K : PySem.W.Frag} {W W1 : Wd} {H H1 : Hp} {st : Sto}
theorem OkX.mono {E : XK} {C : Addr} {fs : List (Str × T)} {st' : Sto} (h : OkX K W H E C fs st') (e : Ext W H W1 H1) : OkX K W1 H1 E C fs st' := fun W' H' o E' R' x => h W' H' o (e.trans E') R' x
theorem OkD.mono {Q : VK} {d : D} {st' : Sto} (h : OkD K W H Q d st') (e : Ext W H W1 H1) : OkD K W1 H1 Q d st' := fun W' H' o E' R' x => h W' H' o (e.trans E') R' x
theorem OkB.mono {Q : Bool → Hp → Prop} {b : Bool} {st' : Sto} (h : OkB K W H Q b st') (e : Ext W H W1 H1) : OkB K W1 H1 Q b st' := fun W' H' E' R' => h W' H' (e.trans E') R'
theorem OkA.mono {Q : List V → Hp → Prop} {b : List D} {st' : Sto} (h : OkA K W H Q b st') (e : Ext W H W1 H1) : OkA K W1 H1 Q b st' := fun W' H' vs E' R' x => h W' H' vs (e.trans E') R' x
theorem EnvR.mono {env : Env} {σ : L2.St} (h : EnvR K W H env σ) (e : Ext W H W1 H1) (R : Rl K W st H) : EnvR K W1 H1 env σ := ⟨h.len, fun i d q => by
  obtain ⟨v, e1, r⟩ := h.get i d q
  exact ⟨v, e1, e.relD R r⟩⟩
theorem EnvR.set {env : Env} {σ : L2.St} (h : EnvR K W H env σ) (i : Nat) {d : D} {v : V} (r : RelD K W H d v) : EnvR K W H (env.set i (some d)) (σ.set i (some v)) := by
  refine ⟨by rw [List.length_set, List.length_set]; exact h.len, fun j e q => ?_⟩
  by_cases hj : i = j
  · subst hj
    have hl : i < env.length := by
      have := (List.getElem?_eq_some_iff.mp q).1
      rwa [List.length_set] at this
    rw [List.getElem?_set_self hl] at q
    cases q
    exact ⟨v, List.getElem?_set_self (by rw [h.len]; exact hl), r⟩
  · rw [List.getElem?_set_ne hj] at q
    obtain ⟨u, e1, r1⟩ := h.get j e q
    exact ⟨u, by rw [List.getElem?_set_ne hj]; exact e1, r1⟩
end

/-! ### the judgements: a piece of code does what the function says -/
def tE (K : PySem.W.Frag) (Wx : WX) (f : Env → Sto → Res D) : TE := fun σ H Q => ∃ W env st, Rl K W st H ∧ EnvR K W H env σ ∧ (f env st).Holds (OkD K W H Q) (OkX K W H fun c o H' => Wx c o σ H')
def tT (K : PySem.W.Frag) (Wx : WX) (f : Env → Sto → Res Bool) : TT := fun σ H Q => ∃ W env st, Rl K W st H ∧ EnvR K W H env σ ∧ (f env st).Holds (OkB K W H Q) (OkX K W H fun c o H' => Wx c o σ H')
def tA (K : PySem.W.Frag) (Wx : WX) (f : Env → Sto → Res (List D)) : TA := fun σ H Q => ∃ W env st, Rl K W st H ∧ EnvR K W H env σ ∧ (f env st).Holds (OkA K W H Q) (OkX K W H fun c o H' => Wx c o σ H')
abbrev RE (X : Cx) (Wx : WX) (e : Expr) (f : Env → Sto → Res D) : Prop := PE X e (tE X.K Wx f)
abbrev RT (X : Cx) (Wx : WX) (e : Expr) (f : Env → Sto → Res Bool) : Prop := PT X e (tT X.K Wx f)
abbrev RWt (X : Cx) (Wx : WX) (e : Expr) (f : Env → Sto → Res Bool) : Prop := PW X e (tT X.K Wx f)
abbrev RA (X : Cx) (Wx : WX) (es : List Expr) (f : Env → Sto → Res (List D)) : Prop := PA X es (tA X.K Wx f)

section
variable {X : Cx} {Wx : WX} {a b c e : Expr} {fa fb fc f : Env → Sto → Res D} {pos : Pos}
theorem PE.conv {e : Expr} {t t' : TE} (h : PE X e t) (g : ∀ σ H Q, t' σ H Q → t σ H Q) : PE X e t' := ⟨fun pins s σ H Q I q => h.run pins s σ H Q I (g σ H Q q)⟩
theorem PT.conv {e : Expr} {t t' : TT} (h : PT X e t) (g : ∀ σ H Q, t' σ H Q → t σ H Q) : PT X e t' := ⟨fun pins s σ H Q I q => h.run pins s σ H Q I (g σ H Q q)⟩
theorem PW.conv {e : Expr} {t t' : TT} (h : PW X e t) (g : ∀ σ H Q, t' σ H Q → t σ H Q) : PW X e t' := ⟨fun wh pins s σ H Q I q => h.run wh pins s σ H Q I (g σ H Q q)⟩
theorem PA.conv {e : List Expr} {t t' : TA} (h : PA X e t) (g : ∀ σ H Q, t' σ H Q → t σ H Q) : PA X e t' := ⟨fun pos pins s σ H Q I q => h.run pos pins s σ H Q I (g σ H Q q)⟩

/-! ### names, constants -/
def eVar (i : Nat) (env : Env) (st : Sto) : Res D := match env[i]? with
  | some (some d) => .ok d st
  | _ => .bad
def eC (t : T) (_ : Env) (st : Sto) : Res D := .ok (.t t) st
theorem re_var (i : Nat) {x : Str} {pos : Pos} (hN : X.N[i]? = some x := by rfl) (hv : Vis X.env.scope x := by first | exact Or.inl rfl | exact Or.inr (Or.inl rfl) | exact Or.inr (Or.inr rfl)) (hd : (x == ("__debug__" : Str)) = false := by decide)
    (hcd : (x == ("__classdict__" : Str)) = false := by decide) : RE X Wx (.Name x pos) (eVar i) := by
  refine PE.conv (pe_var hN hv hd hcd) fun σ H Q ⟨W, env, st, R, Ev, h⟩ => ?_
  unfold eVar at h
  split at h
  · rename_i d q
    obtain ⟨v, e1, r⟩ := Ev.get i d q
    exact ⟨v, e1, h W H v .refl R r⟩
  · exact h.elim
theorem re_const {v : V} {t : T} (h : PE X e (tC v)) (r : ∀ F H, RelT X.K F H t v) : RE X Wx e (eC t) := by
  refine PE.conv h fun σ H Q ⟨W, env, st, R, Ev, h⟩ => ?_
  exact h W H v .refl R (r _ _)
theorem re_int {i j pos} : RE X Wx (.Constant (.int i) j pos) (eC (.int i)) := re_const pe_int fun _ _ => rfl
theorem re_bl {b j pos} : RE X Wx (.Constant (.bool b) j pos) (eC (.bl b)) := re_const pe_bl fun _ _ => rfl
theorem re_non {j pos} : RE X Wx (.Constant .none j pos) (eC .non) := re_const pe_non fun _ _ => rfl
theorem re_str {x j pos} : RE X Wx (.Constant (.str x) j pos) (eC (.str x)) := re_const pe_str fun _ _ => rfl
/-- a constant of the module -/
theorem re_glob {x : Str} {v : V} {u : Value} {t : T} {pos : Pos} (hg : Gl X x) (hm : X.mg x = some u) (r : RelV v u) (q : ∀ F H, RelT X.K F H t v) (hd : (x == ("__debug__" : Str)) = false := by decide) : RE X Wx (.Name x pos) (eC t) :=
  re_const (pe_glob hg hm r hd) q
theorem re_bltn {x : Str} {n : String} {pos : Pos} (hg : Gl X x) (hm : X.mg x = none) (hv : bootBuiltins x = some (.type n)) (hn : x ≠ "__name__" := by decide) (hd : (x == ("__debug__" : Str)) = false := by decide) : RE X Wx (.Name x pos) (eC (.ty n)) :=
  re_const (pe_bltn (v := .ty n) hg hm hv rfl hn hd) fun _ _ => rfl

/-! ### operators by values -/
def rM (K : PySem.W.Frag) (g : D → D → Sto → Option D) : R2 := fun x y H Q => ∃ W st d e, Rl K W st H ∧ RelD K W H d x ∧ RelD K W H e y ∧ ∃ z, g d e st = some z ∧ OkD K W H Q z st
def bin (g : D → D → Sto → Option D) (fa fb : Env → Sto → Res D) (env : Env) (st : Sto) : Res D := (fa env st).bind fun x st1 => (fb env st1).bind fun y st2 => optR (g x y st2) st2
theorem optR_holds {α : Type} {o : Option α} {st : Sto} {A : α → Sto → Prop} {B : Addr → List (Str × T) → Sto → Prop} (h : (optR o st).Holds A B) : ∃ z, o = some z ∧ A z st := by
  cases o with
  | none => exact h.elim
  | some z => exact ⟨z, rfl, h⟩
theorem two {K : PySem.W.Frag} {g : D → D → Sto → Option D} {σ : L2.St} {H : Hp} {Q : VK} (h : tE K Wx (bin g fa fb) σ H Q) : tOp (rM K g) (tE K Wx fa) (tE K Wx fb) σ H Q := by
  obtain ⟨W, env, st, R, Ev, h⟩ := h
  refine ⟨W, env, st, R, Ev, split h (fun d1 st1 h1 W1 H1 v E1 R1 r1 => ⟨W1, env, st1, R1, Ev.mono E1 R, split h1 (fun d2 st2 h2 W2 H2 w E2 R2 r2 => ?_) fun C fs st' hx => hx.mono E1⟩) fun C fs st' hx => hx⟩
  obtain ⟨z, e1, q⟩ := optR_holds h2
  exact ⟨W2, st2, d1, d2, R2, E2.relD R1 r1, r2, z, e1, q.mono (E1.trans E2)⟩
theorem re_op {op : Operator} {g : D → D → Sto → Option D} (ho : OpR X (binaryOp op) (rM X.K g)) (ha : RE X Wx a fa) (hb : RE X Wx b fb) : RE X Wx (.BinOp a op b pos) (bin g fa fb) :=
  PE.conv (pe_op ho ha hb) fun _ _ _ h => two h
theorem re_cmp {op : CmpOp} {g : D → D → Sto → Option D} (ho : OpR X (compareOp op) (rM X.K g)) (ha : RE X Wx a fa) (hb : RE X Wx b fb) (hm : behindInMarks op b = false) : RE X Wx (.Compare a [op] [b] pos) (bin g fa fb) :=
  PE.conv (pe_cmpR ho ha hb hm) fun _ _ _ h => two h
/-- what is a truth value -/
def blOf (r : Res D) : Res Bool := r.bind fun d st => match d with
  | .t (.bl b) => .ok b st
  | _ => .bad
theorem rt_cmp {op : CmpOp} {g : D → D → Sto → Option D} (ho : OpR X (compareOp op) (rM X.K g)) (ha : RE X Wx a fa) (hb : RE X Wx b fb) (hm : behindInMarks op b = false) : RT X Wx (.Compare a [op] [b] pos) (fun env st => blOf (bin g fa fb env st)) := by
  refine PT.conv (pt_cmpR ho ha hb hm) fun σ H Q ⟨W, env, st, R, Ev, h⟩ => two ⟨W, env, st, R, Ev, split h (fun d st1 h1 W1 H1 v E1 R1 r1 => ?_) fun C fs st' hx => hx⟩
  split at h1
  · rename_i b
    have r1 : v = .bl b := r1
    exact ⟨b, r1, h1 W1 H1 E1 R1⟩
  · exact h1.elim
/-- a < b < c -/
def chain (g g' : D → D → Sto → Option D) (fa fb fc : Env → Sto → Res D) (env : Env) (st : Sto) : Res D := (fa env st).bind fun x st1 => (fb env st1).bind fun y st2 => (blOf (optR (g x y st2) st2)).bind fun k st3 =>
  if k = true then (fc env st3).bind fun z st4 => optR (g' y z st4) st4 else .ok (.t (.bl false)) st3
theorem three {K : PySem.W.Frag} {g g' : D → D → Sto → Option D} {σ : L2.St} {H : Hp} {Q : VK} (h : tE K Wx (chain g g' fa fb fc) σ H Q) : tChain (rM K g) (rM K g') (tE K Wx fa) (tE K Wx fb) (tE K Wx fc) σ H Q := by
  obtain ⟨W, env, st, R, Ev, h⟩ := h
  refine ⟨W, env, st, R, Ev, split h (fun d1 st1 h1 W1 H1 v E1 R1 r1 => ⟨W1, env, st1, R1, Ev.mono E1 R, split h1 (fun d2 st2 h2 W2 H2 w E2 R2 r2 => ?_) fun C fs st' hx => hx.mono E1⟩) fun C fs st' hx => hx⟩
  cases e1 : g d1 d2 st2 with
  | none => rw [e1] at h2; exact h2.elim
  | some z =>
    rw [e1] at h2
    cases z with
    | r n => exact h2.elim
    | x => exact h2.elim
    | t x =>
      cases x with
      | bl k =>
        refine ⟨W2, st2, d1, d2, R2, E2.relD R1 r1, r2, _, e1, fun W3 H3 u E3 R3 r3 => ⟨k, r3, ?_⟩⟩
        cases k with
        | false => exact ite_ff (h2 W3 H3 _ (E1.trans (E2.trans E3)) R3 rfl)
        | true =>
          refine ite_tt ⟨W3, env, st2, R3, (Ev.mono E1 R).mono (E2.trans E3) R1, split h2 (fun d4 st4 h4 W4 H4 w4 E4 R4 r4 => ?_) fun C fs st' hx => hx.mono (E1.trans (E2.trans E3))⟩
          obtain ⟨z, e4, q⟩ := optR_holds h4
          exact ⟨W4, st4, d2, d4, R4, (E3.trans E4).relD R2 r2, r4, z, e4, q.mono (E1.trans (E2.trans (E3.trans E4)))⟩
      | _ => exact h2.elim
theorem re_chain {op op' : CmpOp} {g g' : D → D → Sto → Option D} (ho : OpR X (compareOp op) (rM X.K g)) (ho' : OpR X (compareOp op') (rM X.K g')) (ha : RE X Wx a fa) (hb : RE X Wx b fb) (hc : RE X Wx c fc)
    (hm : lastMarks [op, op'] [b, c] = false := by with_unfolding_all rfl) : RE X Wx (.Compare a [op, op'] [b, c] pos) (chain g g' fa fb fc) := PE.conv (pe_chain ho ho' ha hb hc hm) fun _ _ _ h => three h
theorem rt_chain {op op' : CmpOp} {g g' : D → D → Sto → Option D} (ho : OpR X (compareOp op) (rM X.K g)) (ho' : OpR X (compareOp op') (rM X.K g')) (ha : RE X Wx a fa) (hb : RE X Wx b fb) (hc : RE X Wx c fc)
    (hm : lastMarks [op, op'] [b, c] = false := by with_unfolding_all rfl) : RT X Wx (.Compare a [op, op'] [b, c] pos) (fun env st => blOf (chain g g' fa fb fc env st)) := by
  refine PT.conv (pt_chain ho ho' ha hb hc hm) fun σ H Q ⟨W, env, st, R, Ev, h⟩ => three ⟨W, env, st, R, Ev, split h (fun d st1 h1 W1 H1 v E1 R1 r1 => ?_) fun C fs st' hx => hx⟩
  split at h1
  · rename_i b
    have r1 : v = .bl b := r1
    exact ⟨b, r1, h1 W1 H1 E1 R1⟩
  · exact h1.elim
def un (g : D → Sto → Option D) (fa : Env → Sto → Res D) (env : Env) (st : Sto) : Res D := (fa env st).bind fun x st1 => optR (g x st1) st1
def rMu (K : PySem.W.Frag) (g : D → Sto → Option D) : V → Hp → VK → Prop := fun x H Q => ∃ W st d, Rl K W st H ∧ RelD K W H d x ∧ ∃ z, g d st = some z ∧ OkD K W H Q z st
theorem re_un {op : UnaryOp} {g : D → Sto → Option D} (ho : UnR X (unaryOp op) (rMu X.K g)) (ha : RE X Wx a fa) : RE X Wx (.UnaryOp op a pos) (un g fa) := by
  refine PE.conv (pe_un ho ha) fun σ H Q ⟨W, env, st, R, Ev, h⟩ => ⟨W, env, st, R, Ev, split h (fun d st1 h1 W1 H1 v E1 R1 r1 => ?_) fun C fs st' hx => hx⟩
  obtain ⟨z, e1, q⟩ := optR_holds h1
  exact ⟨W1, st1, d, R1, r1, z, e1, q.mono E1⟩

/-! ### truth -/
/-- the items of a sequence -/
def items (st : Sto) : D → Option (List D)
  | .t (.tup ts) => some (ts.map .t)
  | .t (.lst ts) => some (ts.map .t)
  | .t (.scr ts) => some (ts.map .t)
  | .t _ => none
  | .x .. => none
  | .r n => match st[n]? with
    | some (.lst ds) => some ds
    | _ => none
theorem items_len {st : Sto} {d : D} {ds : List D} (h : items st d = some ds) : True := trivial
/-- what the items say of the heap -/
theorem items_seq {K : PySem.W.Frag} {W : Wd} {H : Hp} {st : Sto} (R : Rl K W st H) {d : D} {ds : List D} {v : V} (h : items st d = some ds) (r : RelD K W H d v) : ∃ a vs, v = .ref a ∧ (SqL K H a vs ∨ SqT K H a vs) ∧ RelDs K W H ds vs := by
  cases d with
  | t x =>
    cases x with
    | tup ts =>
      cases h
      obtain ⟨a, vs, e, q, r⟩ := r
      exact ⟨a, vs, e, .inr q.sq, relDs_t r⟩
    | lst ts =>
      cases h
      obtain ⟨a, vs, e, f, q, r⟩ := r
      exact ⟨a, vs, e, .inl (SqL.of q), relDs_t r⟩
    | scr ts =>
      cases h
      obtain ⟨a, vs, e, q, r⟩ := r
      exact ⟨a, vs, e, .inl q.sq, relDs_t r⟩
    | _ => cases h
  | x => cases h
  | r n =>
    obtain ⟨a, e, rfl⟩ := r
    have h : (match st[n]? with | some (.lst ds) => some ds | _ => none) = some ds := h
    split at h
    · rename_i ds' q
      cases h
      obtain ⟨vs, q1, q2⟩ := R.live n a _ e q
      exact ⟨a, vs, rfl, .inl (SqL.of q1), q2⟩
    · cases h
def LIM : Nat := 1000000
theorem lim_size {n : Nat} (h : n ≤ LIM) : n ≤ sizeLine := by rw [sizeLine_eq]; unfold LIM at h; omega
theorem lim_lt {n : Nat} (h : n ≤ LIM) : n < sizeLine := by rw [sizeLine_eq]; unfold LIM at h; omega
def tru (st : Sto) (d : D) : Option Bool := match d with
  | .t .non => some false
  | .t (.bl b) => some b
  | .t (.int i) => some (i != 0)
  | .t (.str x) => if x.length ≤ LIM then some ((x.length : Int) != 0) else none
  | d => (items st d).map fun ds => !ds.isEmpty
theorem isEmpty_rel {K : PySem.W.Frag} {W : Wd} {H : Hp} {ds : List D} {vs : List V} (r : RelDs K W H ds vs) : (!ds.isEmpty) = !vs.isEmpty := by
  have e := relDs_len r
  cases ds <;> cases vs <;> simp at e ⊢
theorem tru_rel {K : PySem.W.Frag} {W : Wd} {H : Hp} {st : Sto} (R : Rl K W st H) {d : D} {v : V} {k : Bool} (h : tru st d = some k) (r : RelD K W H d v) : TruV K v H k := by
  have seq : ∀ d, (items st d).map (fun ds => !ds.isEmpty) = some k → RelD K W H d v → TruV K v H k := fun d h r => by
    cases q : items st d with
    | none => rw [q] at h; cases h
    | some ds =>
      rw [q] at h
      obtain ⟨a, vs, e, s, rr⟩ := items_seq R q r
      subst e
      have h : (!ds.isEmpty) = k := Option.some.inj h
      rcases s with s | s
      · exact .inl ⟨vs, s, by rw [← h]; exact isEmpty_rel rr⟩
      · exact .inr (.inl ⟨vs, s, by rw [← h]; exact isEmpty_rel rr⟩)
  cases d with
  | r n => exact seq _ h r
  | x => cases h
  | t x =>
    cases x with
    | non => cases r; exact (Option.some.inj h).symm
    | bl b => cases r; exact (Option.some.inj h).symm
    | int i => cases r; exact (Option.some.inj h).symm
    | str x =>
      cases r
      have h : (if x.length ≤ LIM then some ((x.length : Int) != 0) else none) = some k := h
      split at h
      · rename_i hl; exact ⟨lim_size hl, (Option.some.inj h).symm⟩
      · cases h
    | tup ts => exact seq (.t (.tup ts)) h r
    | lst ts => exact seq (.t (.lst ts)) h r
    | scr ts => exact seq (.t (.scr ts)) h r
    | _ => cases h
def truM (f : Env → Sto → Res D) (env : Env) (st : Sto) : Res Bool := (f env st).bind fun d st1 => optR (tru st1 d) st1
theorem rt_val (h : RE X Wx e f) (he : ∀ whole, isTrue e X.env whole = (do let v ← whole; standAt e.pos; holding [v] (truthy v)) := by intro _; rfl) : RT X Wx e (truM f) := by
  refine PT.conv (pt_truth h he) fun σ H Q ⟨W, env, st, R, Ev, h⟩ => ⟨W, env, st, R, Ev, split h (fun d st1 h1 W1 H1 v E1 R1 r1 => ?_) fun C fs st' hx => hx⟩
  obtain ⟨k, e1, q⟩ := optR_holds h1
  exact ⟨k, tru_rel R1 e1 r1, q W1 H1 E1 R1⟩

/-! ### and, or, not -/
section
variable {ga gb : Env → Sto → Res Bool} {rest : List Expr}
def andM (ga gb : Env → Sto → Res Bool) (env : Env) (st : Sto) : Res Bool := (ga env st).bind fun k st1 => if k = true then gb env st1 else .ok false st1
def orM (ga gb : Env → Sto → Res Bool) (env : Env) (st : Sto) : Res Bool := (ga env st).bind fun k st1 => if k = true then .ok true st1 else gb env st1
def notM (ga : Env → Sto → Res Bool) (env : Env) (st : Sto) : Res Bool := (ga env st).bind fun k st1 => .ok (!k) st1
theorem rw_and1 (ha : RT X Wx a ga) : RWt X Wx (.BoolOp .And [a] pos) ga := pw_and1 ha
theorem rw_or1 (ha : RT X Wx a ga) : RWt X Wx (.BoolOp .Or [a] pos) ga := pw_or1 ha
theorem rw_and (ha : RT X Wx a ga) (hb : RWt X Wx (.BoolOp .And (b :: rest) pos) gb) : RWt X Wx (.BoolOp .And (a :: b :: rest) pos) (andM ga gb) := by
  refine PW.conv (pw_and ha hb) fun σ H Q ⟨W, env, st, R, Ev, h⟩ => ⟨W, env, st, R, Ev, split h (fun k st1 h1 W1 H1 E1 R1 => ?_) fun C fs st' hx => hx⟩
  cases k with
  | true => exact ite_tt ⟨W1, env, st1, R1, Ev.mono E1 R, Res.Holds.imp h1 (fun _ _ q => q.mono E1) fun _ _ _ q => q.mono E1⟩
  | false => exact ite_ff (h1 W1 H1 E1 R1)
theorem rw_or (ha : RT X Wx a ga) (hb : RWt X Wx (.BoolOp .Or (b :: rest) pos) gb) : RWt X Wx (.BoolOp .Or (a :: b :: rest) pos) (orM ga gb) := by
  refine PW.conv (pw_or ha hb) fun σ H Q ⟨W, env, st, R, Ev, h⟩ => ⟨W, env, st, R, Ev, split h (fun k st1 h1 W1 H1 E1 R1 => ?_) fun C fs st' hx => hx⟩
  cases k with
  | false => exact ite_ff ⟨W1, env, st1, R1, Ev.mono E1 R, Res.Holds.imp h1 (fun _ _ q => q.mono E1) fun _ _ _ q => q.mono E1⟩
  | true => exact ite_tt (h1 W1 H1 E1 R1)
theorem rt_not (ha : RT X Wx a ga) : RT X Wx (.UnaryOp .Not a pos) (notM ga) := by
  refine PT.conv (pt_not ha) fun σ H Q ⟨W, env, st, R, Ev, h⟩ => ⟨W, env, st, R, Ev, split h (fun k st1 h1 W1 H1 E1 R1 => ?_) fun C fs st' hx => hx⟩
  exact h1 W1 H1 E1 R1
/-- as values -/
def andV (fa fb : Env → Sto → Res D) (env : Env) (st : Sto) : Res D := (fa env st).bind fun d st1 => (optR (tru st1 d) st1).bind fun k st2 => if k = true then fb env st2 else .ok d st2
def orV (fa fb : Env → Sto → Res D) (env : Env) (st : Sto) : Res D := (fa env st).bind fun d st1 => (optR (tru st1 d) st1).bind fun k st2 => if k = true then .ok d st2 else fb env st2
def notV (fa : Env → Sto → Res D) (env : Env) (st : Sto) : Res D := (fa env st).bind fun d st1 => (optR (tru st1 d) st1).bind fun k st2 => .ok (.t (.bl (!k))) st2
theorem re_one {op} (ha : RE X Wx a fa) : RE X Wx (.BoolOp op [a] pos) fa := pe_one ha
theorem re_and (ha : RE X Wx a fa) (hb : RE X Wx (.BoolOp .And (b :: rest) pos) fb) : RE X Wx (.BoolOp .And (a :: b :: rest) pos) (andV fa fb) := by
  refine PE.conv (pe_andT ha hb) fun σ H Q ⟨W, env, st, R, Ev, h⟩ => ⟨W, env, st, R, Ev, split h (fun d st1 h1 W1 H1 v E1 R1 r1 => ?_) fun C fs st' hx => hx⟩
  obtain ⟨k, e1, q⟩ := optR_holds (split (r := optR (tru st1 d) st1) h1 (A' := fun k s => (if k = true then fb env s else Res.ok d s).Holds _ _) (B' := fun _ _ _ => True) (fun _ _ q => q) fun _ _ _ _ => trivial)
  refine ⟨k, tru_rel R1 e1 r1, ?_⟩
  cases k with
  | true => exact ite_tt ⟨W1, env, st1, R1, Ev.mono E1 R, Res.Holds.imp q (fun _ _ q => q.mono E1) fun _ _ _ q => q.mono E1⟩
  | false => exact ite_ff (q W1 H1 v E1 R1 r1)
theorem re_or (ha : RE X Wx a fa) (hb : RE X Wx (.BoolOp .Or (b :: rest) pos) fb) : RE X Wx (.BoolOp .Or (a :: b :: rest) pos) (orV fa fb) := by
  refine PE.conv (pe_orT ha hb) fun σ H Q ⟨W, env, st, R, Ev, h⟩ => ⟨W, env, st, R, Ev, split h (fun d st1 h1 W1 H1 v E1 R1 r1 => ?_) fun C fs st' hx => hx⟩
  obtain ⟨k, e1, q⟩ := optR_holds (split (r := optR (tru st1 d) st1) h1 (A' := fun k s => (if k = true then Res.ok d s else fb env s).Holds _ _) (B' := fun _ _ _ => True) (fun _ _ q => q) fun _ _ _ _ => trivial)
  refine ⟨k, tru_rel R1 e1 r1, ?_⟩
  cases k with
  | false => exact ite_ff ⟨W1, env, st1, R1, Ev.mono E1 R, Res.Holds.imp q (fun _ _ q => q.mono E1) fun _ _ _ q => q.mono E1⟩
  | true => exact ite_tt (q W1 H1 v E1 R1 r1)
theorem re_not (ha : RE X Wx a fa) : RE X Wx (.UnaryOp .Not a pos) (notV fa) := by
  refine PE.conv (pe_notT ha) fun σ H Q ⟨W, env, st, R, Ev, h⟩ => ⟨W, env, st, R, Ev, split h (fun d st1 h1 W1 H1 v E1 R1 r1 => ?_) fun C fs st' hx => hx⟩
  obtain ⟨k, e1, q⟩ := optR_holds (split (r := optR (tru st1 d) st1) h1 (A' := fun k s => (Res.ok (D.t (.bl (!k))) s).Holds _ _) (B' := fun _ _ _ => True) (fun _ _ q => q) fun _ _ _ _ => trivial)
  exact ⟨k, tru_rel R1 e1 r1, q W1 H1 _ E1 R1 rfl⟩
def ifE (g : Env → Sto → Res Bool) (fa fb : Env → Sto → Res D) (env : Env) (st : Sto) : Res D := (g env st).bind fun k st1 => if k = true then fa env st1 else fb env st1
theorem re_if (hc : RT X Wx c ga) (ha : RE X Wx a fa) (hb : RE X Wx b fb) : RE X Wx (.IfExp c a b pos) (ifE ga fa fb) := by
  refine PE.conv (pe_ifExp hc ha hb) fun σ H Q ⟨W, env, st, R, Ev, h⟩ => ⟨W, env, st, R, Ev, split h (fun k st1 h1 W1 H1 E1 R1 => ?_) fun C fs st' hx => hx⟩
  cases k with
  | true => exact ite_tt ⟨W1, env, st1, R1, Ev.mono E1 R, Res.Holds.imp h1 (fun _ _ q => q.mono E1) fun _ _ _ q => q.mono E1⟩
  | false => exact ite_ff ⟨W1, env, st1, R1, Ev.mono E1 R, Res.Holds.imp h1 (fun _ _ q => q.mono E1) fun _ _ _ q => q.mono E1⟩
end

/-! ### argument lists, displays -/
def argsM : List (Env → Sto → Res D) → Env → Sto → Res (List D)
  | [], _, st => .ok [] st
  | f :: fs, env, st => (f env st).bind fun d st1 => (argsM fs env st1).bind fun ds st2 => .ok (d :: ds) st2
theorem ra_nil : RA X Wx [] (argsM []) := PA.conv pa_nil fun σ H Q ⟨W, env, st, R, Ev, h⟩ => h W H [] .refl R rfl
theorem ra_cons {es : List Expr} {fs : List (Env → Sto → Res D)} (ha : RE X Wx e f) (hr : RA X Wx es (argsM fs)) (hs : starEach (e :: es) X.env = (false, eval e X.env) :: starEach es X.env := by rfl) : RA X Wx (e :: es) (argsM (f :: fs)) := by
  refine PA.conv (pa_cons ha hr hs) fun σ H Q ⟨W, env, st, R, Ev, h⟩ => ⟨W, env, st, R, Ev, split h (fun d st1 h1 W1 H1 v E1 R1 r1 => ?_) fun C fs st' hx => hx⟩
  refine ⟨W1, env, st1, R1, Ev.mono E1 R, split h1 (fun ds st2 h2 W2 H2 vs E2 R2 r2 => ?_) fun C fs st' hx => hx.mono E1⟩
  exact h2 W2 H2 (v :: vs) (E1.trans E2) R2 ⟨v, vs, rfl, E2.relD R1 r1, r2⟩
theorem argsM_len {env : Env} : ∀ {fs : List (Env → Sto → Res D)} {st st' : Sto} {ds : List D}, argsM fs env st = .ok ds st' → ds.length = fs.length
  | [], st, st', ds, h => by cases h; rfl
  | f :: fs, st, st', ds, h => by
    unfold argsM at h
    cases e1 : f env st with
    | ok d st1 =>
      rw [e1] at h
      have h : (argsM fs env st1).bind (fun ds st2 => Res.ok (d :: ds) st2) = .ok ds st' := h
      cases e2 : argsM fs env st1 with
      | ok ds2 st2 =>
        rw [e2] at h
        cases h
        show ds2.length + 1 = fs.length + 1
        rw [argsM_len e2]
      | exc C x s => rw [e2] at h; cases h
      | bad => rw [e2] at h; cases h
    | exc C x s => rw [e1] at h; cases h
    | bad => rw [e1] at h; cases h
def tupM (fs : List (Env → Sto → Res D)) (env : Env) (st : Sto) : Res D := (argsM fs env st).bind fun ds st1 => optR ((plains ds).map fun ts => .t (.tup ts)) st1
def lstM (fs : List (Env → Sto → Res D)) (env : Env) (st : Sto) : Res D := (argsM fs env st).bind fun ds st1 => optR ((plains ds).map fun ts => .t (.lst ts)) st1
/-- a list that will be changed -/
def newM (fs : List (Env → Sto → Res D)) (env : Env) (st : Sto) : Res D := (argsM fs env st).bind fun ds st1 => .ok (.r st1.length) (st1 ++ [.lst ds])
theorem splitA {α β : Type} {r : Res α} {k : α → Sto → Res β} {A : β → Sto → Prop} {A' : α → Sto → Prop} {B B' : Addr → List (Str × T) → Sto → Prop} (h : (r.bind k).Holds A B)
    (ha : ∀ a st, r = .ok a st → (k a st).Holds A B → A' a st) (hb : ∀ C fs st, B C fs st → B' C fs st) : r.Holds A' B' := by
  cases r with
  | ok a st => exact ha a st rfl h
  | exc C fs st => exact hb C fs st h
  | bad => exact h
theorem re_tup {es : List Expr} {fs : List (Env → Sto → Res D)} {x1} (h : RA X Wx es (argsM fs)) (hl : fs.length ≤ 1000 := by decide) : RE X Wx (.Tuple es x1 pos) (tupM fs) := by
  refine PE.conv (pe_tup h) fun σ H Q ⟨W, env, st, R, Ev, h⟩ => ⟨W, env, st, R, Ev, splitA h (fun ds st1 e0 h1 W1 H1 vs E1 R1 r1 => ?_) fun C fs st' hx => hx⟩
  obtain ⟨z, e1, q⟩ := optR_holds h1
  cases e2 : plains ds with
  | none => rw [e2] at e1; cases e1
  | some ts =>
    rw [e2] at e1
    cases e1
    have l1 := relDs_len r1
    have l2 := argsM_len e0
    refine ⟨Nat.le_of_lt (small1000 (by omega)), fun p hp => ?_⟩
    exact q W1 _ _ (E1.trans (R1.more hp)) (R1.rest hp) ⟨p, vs, rfl, Or.inl upd_same, (R1.more hp).relTs R1 _ _ (relTs_of e2 r1)⟩
theorem re_lst {es : List Expr} {fs : List (Env → Sto → Res D)} (h : RA X Wx es (argsM fs)) (hl : fs.length ≤ 1000 := by decide) : RE X Wx (.List es pos) (lstM fs) := by
  refine PE.conv (pe_lst h) fun σ H Q ⟨W, env, st, R, Ev, h⟩ => ⟨W, env, st, R, Ev, splitA h (fun ds st1 e0 h1 W1 H1 vs E1 R1 r1 => ?_) fun C fs st' hx => hx⟩
  obtain ⟨z, e1, q⟩ := optR_holds h1
  cases e2 : plains ds with
  | none => rw [e2] at e1; cases e1
  | some ts =>
    rw [e2] at e1
    cases e1
    have l1 := relDs_len r1
    have l2 := argsM_len e0
    refine ⟨Nat.le_of_lt (small1000 (by omega)), fun p hp => ?_⟩
    exact q (W1.fix p) _ _ (E1.trans (Ext.fix W1 hp)) (R1.fix hp) ⟨p, vs, rfl, .inr rfl, upd_same, (Ext.fix W1 hp).relTs R1 _ _ (relTs_of e2 r1)⟩
theorem re_new {es : List Expr} {fs : List (Env → Sto → Res D)} (h : RA X Wx es (argsM fs)) (hl : fs.length ≤ 1000 := by decide) : RE X Wx (.List es pos) (newM fs) := by
  refine PE.conv (pe_lst h) fun σ H Q ⟨W, env, st, R, Ev, h⟩ => ⟨W, env, st, R, Ev, splitA h (fun ds st1 e0 h1 W1 H1 vs E1 R1 r1 => ?_) fun C fs st' hx => hx⟩
  have l1 := relDs_len r1
  have l2 := argsM_len e0
  refine ⟨Nat.le_of_lt (small1000 (by omega)), fun p hp => ?_⟩
  exact h1 (W1.add p) _ _ (E1.trans (Ext.add W1 hp)) (R1.add hp r1) ⟨p, by
    show (W1.ρ ++ [p])[st1.length]? = some p
    rw [← R1.len, List.getElem?_append_right (Nat.le_refl _), Nat.sub_self]; rfl, rfl⟩
end
end Mi
/-! Mir2 -/
namespace Mi
open L2 PySem PySem.Spec PyProof.Rows

/-! ### statements -/
inductive Out where
  | nx (env : Env) (st : Sto) | rt (d : D) (st : Sto) | bk (env : Env) (st : Sto) | ct (env : Env) (st : Sto) | exc (C : Addr) (fs : List (Str × T)) (env : Env) (st : Sto) | bad
def Out.Holds (K : PySem.W.Frag) (Wx : WX) (E : Ends) (W : Wd) (H : Hp) : Out → Prop
  | .nx env st => ∀ W' σ' H', Ext W H W' H' → Rl K W' st H' → EnvR K W' H' env σ' → E.nx σ' H'
  | .rt d st => OkD K W H E.rt d st
  | .bk env st => ∀ W' σ' H', Ext W H W' H' → Rl K W' st H' → EnvR K W' H' env σ' → E.bk σ' H'
  | .ct env st => ∀ W' σ' H', Ext W H W' H' → Rl K W' st H' → EnvR K W' H' env σ' → E.ct σ' H'
  | .exc C fs env st => ∀ W' σ' H' o, Ext W H W' H' → Rl K W' st H' → EnvR K W' H' env σ' → ExD K W' H' fs o → Wx (.ref C) o σ' H'
  | .bad => False
theorem Out.Holds.mono {K : PySem.W.Frag} {Wx : WX} {E : Ends} {W W1 : Wd} {H H1 : Hp} : ∀ {o : Out}, o.Holds K Wx E W H → Ext W H W1 H1 → o.Holds K Wx E W1 H1
  | .nx _ _, h, e => fun W' σ' H' E' R' V' => h W' σ' H' (e.trans E') R' V'
  | .rt _ _, h, e => OkD.mono h e
  | .bk _ _, h, e => fun W' σ' H' E' R' V' => h W' σ' H' (e.trans E') R' V'
  | .ct _ _, h, e => fun W' σ' H' E' R' V' => h W' σ' H' (e.trans E') R' V'
  | .exc _ _ _ _, h, e => fun W' σ' H' o E' R' V' x => h W' σ' H' o (e.trans E') R' V' x
  | .bad, h, _ => h
def Out.seq (o : Out) (k : Env → Sto → Out) : Out := match o with
  | .nx e s => k e s
  | .rt d s => .rt d s
  | .bk e s => .bk e s
  | .ct e s => .ct e s
  | .exc C fs e s => .exc C fs e s
  | .bad => .bad
/-- a result that a statement goes on with -/
def Res.out {α : Type} (r : Res α) (env : Env) (k : α → Sto → Out) : Out := match r with
  | .ok a s => k a s
  | .exc C fs s => .exc C fs env s
  | .bad => .bad
def tS (K : PySem.W.Frag) (Wx : WX) (g : Env → Sto → Out) : TS := fun E σ H => ∃ W env st, Rl K W st H ∧ EnvR K W H env σ ∧ (g env st).Holds K Wx E W H
abbrev RS (X : Cx) (Wx : WX) (s : Stmt) (g : Env → Sto → Out) : Prop := PS X s (tS X.K Wx g)
abbrev RSs (X : Cx) (Wx : WX) (s : List Stmt) (g : Env → Sto → Out) : Prop := PSs X s (tS X.K Wx g)
theorem PS.conv {X : Cx} {e : Stmt} {t t' : TS} (h : PS X e t) (g : ∀ D σ H, t' D σ H → t D σ H) : PS X e t' := ⟨fun pins s σ H D I q => h.run pins s σ H D I (g D σ H q)⟩
theorem PSs.conv {X : Cx} {e : List Stmt} {t t' : TS} (h : PSs X e t) (g : ∀ D σ H, t' D σ H → t D σ H) : PSs X e t' := ⟨fun pins s σ H D I q => h.run pins s σ H D I (g D σ H q)⟩
theorem out_split {α : Type} {K : PySem.W.Frag} {Wx : WX} {E : Ends} {W : Wd} {H : Hp} {σ : L2.St} {env : Env} {r : Res α} {k : α → Sto → Out} {A : α → Sto → Prop} (h : (r.out env k).Holds K Wx E W H) (Ev : EnvR K W H env σ) {st : Sto} (R : Rl K W st H)
    (ha : ∀ a s, (k a s).Holds K Wx E W H → A a s) : r.Holds A (OkX K W H fun c o H' => Wx c o σ H') := by
  cases r with
  | ok a s => exact ha a s h
  | exc C fs s => exact fun W' H' o E' R' x => h W' σ H' o E' R' (Ev.mono E' R) x
  | bad => exact h

section
variable {X : Cx} {Wx : WX} {s : Stmt} {rest : List Stmt} {g g1 g2 : Env → Sto → Out} {e a b c : Expr} {f fa fb : Env → Sto → Res D} {pos : Pos}
def nxM (env : Env) (st : Sto) : Out := .nx env st
def seqM (g1 g2 : Env → Sto → Out) (env : Env) (st : Sto) : Out := (g1 env st).seq g2
theorem rss_nil : RSs X Wx [] nxM := PSs.conv pss_nil fun D σ H ⟨W, env, st, R, Ev, h⟩ => h W σ H .refl R Ev
theorem rss_cons (h1 : RS X Wx s g1) (h2 : RSs X Wx rest g2) : RSs X Wx (s :: rest) (seqM g1 g2) := by
  refine PSs.conv (pss_cons h1 h2) fun E σ H ⟨W, env, st, R, Ev, h⟩ => ⟨W, env, st, R, Ev, ?_⟩
  unfold seqM at h
  cases q : g1 env st with
  | nx e s => rw [q] at h; exact fun W' σ' H' E' R' V' => ⟨W', e, s, R', V', Out.Holds.mono (o := g2 e s) h E'⟩
  | rt d s => rw [q] at h; exact h
  | bk e s => rw [q] at h; exact h
  | ct e s => rw [q] at h; exact h
  | exc C fs e s => rw [q] at h; exact h
  | bad => rw [q] at h; exact h
theorem rss_one (h1 : RS X Wx s g1) : RSs X Wx [s] g1 := by
  refine ⟨fun pins s σ H E I h => ?_⟩
  exact (pss_one h1).run pins s σ H E I h
theorem rs_pass : RS X Wx (.Pass pos) nxM := PS.conv ps_pass fun D σ H ⟨W, env, st, R, Ev, h⟩ => h W σ H .refl R Ev
def bkM (env : Env) (st : Sto) : Out := .bk env st
def ctM (env : Env) (st : Sto) : Out := .ct env st
theorem rs_break : RS X Wx (.Break pos) bkM := PS.conv ps_break fun D σ H ⟨W, env, st, R, Ev, h⟩ => h W σ H .refl R Ev
theorem rs_cont : RS X Wx (.Continue pos) ctM := PS.conv ps_continue fun D σ H ⟨W, env, st, R, Ev, h⟩ => h W σ H .refl R Ev
def setM (i : Nat) (f : Env → Sto → Res D) (env : Env) (st : Sto) : Out := (f env st).out env fun d s => .nx (env.set i (some d)) s
theorem rs_set {i : Nat} {x : Str} {pos' : Pos} (hN : X.N.Nodup) (hi : X.N[i]? = some x) (hx : Loc X.env.scope x) (he : RE X Wx e f) (hs : swapsWith e (some (.Name x pos')) pos.line X.env = pure false := by rfl)
    (hf : X.fn x = true ∨ X.env.scope.names.lookup x = some .local := by first | exact .inl rfl | exact .inr rfl | assumption) : RS X Wx (.Assign [.Name x pos'] e pos) (setM i f) := by
  refine PS.conv (ps_set hN hi hx he hs hf) fun E σ H ⟨W, env, st, R, Ev, h⟩ => ⟨W, env, st, R, Ev, out_split h Ev R fun d s h1 W1 H1 v E1 R1 r1 => ?_⟩
  exact h1 W1 _ H1 E1 R1 ((Ev.mono E1 R).set i r1)
def dropM (f : Env → Sto → Res D) (env : Env) (st : Sto) : Out := (f env st).out env fun _ s => .nx env s
theorem rs_expr (he : RE X Wx e f) (hs : swapsWith e none pos.line X.env = pure false := by rfl) : RS X Wx (.Expr e pos) (dropM f) := by
  refine PS.conv (ps_expr he hs) fun E σ H ⟨W, env, st, R, Ev, h⟩ => ⟨W, env, st, R, Ev, out_split h Ev R fun d s h1 W1 H1 v E1 R1 r1 => ?_⟩
  exact h1 W1 σ H1 E1 R1 (Ev.mono E1 R)
theorem rs_doc {x j pos pos'} : RS X Wx (.Expr (.Constant (.str x) j pos) pos') nxM := PS.conv ps_doc fun D σ H ⟨W, env, st, R, Ev, h⟩ => h W σ H .refl R Ev
def retM (f : Env → Sto → Res D) (env : Env) (st : Sto) : Out := (f env st).out env fun d s => .rt d s
theorem rs_ret (he : RE X Wx e f) : RS X Wx (.Return (some e) pos) (retM f) := by
  refine PS.conv (ps_ret he) fun E σ H ⟨W, env, st, R, Ev, h⟩ => ⟨W, env, st, R, Ev, out_split h Ev R fun d s h1 => ?_⟩
  exact h1
def retN (env : Env) (st : Sto) : Out := .rt (.t .non) st
theorem rs_retN : RS X Wx (.Return none pos) retN := PS.conv ps_retN fun D σ H ⟨W, env, st, R, Ev, h⟩ => h W H .non .refl R rfl
def ifM (c : Env → Sto → Res Bool) (g1 g2 : Env → Sto → Out) (env : Env) (st : Sto) : Out := (c env st).out env fun k s => if k = true then g1 env s else g2 env s
theorem rs_if {p q : List Stmt} {gc : Env → Sto → Res Bool} (hc : RT X Wx c gc) (ha : RSs X Wx p g1) (hb : RSs X Wx q g2) : RS X Wx (.If c p q pos) (ifM gc g1 g2) := by
  refine PS.conv (ps_if hc ha hb) fun E σ H ⟨W, env, st, R, Ev, h⟩ => ⟨W, env, st, R, Ev, out_split h Ev R fun k s h1 W1 H1 E1 R1 => ?_⟩
  cases k with
  | true => exact ite_tt ⟨W1, env, s, R1, Ev.mono E1 R, Out.Holds.mono (o := g1 env s) h1 E1⟩
  | false => exact ite_ff ⟨W1, env, s, R1, Ev.mono E1 R, Out.Holds.mono (o := g2 env s) h1 E1⟩
/-- x op= e -/
def augM (i : Nat) (g : D → D → Sto → Option D) (f : Env → Sto → Res D) (env : Env) (st : Sto) : Out := match env[i]? with
  | some (some d) => (f env st).out env fun d2 s => (optR (g d d2 s) s).out env fun z s2 => .nx (env.set i (some z)) s2
  | _ => .bad
theorem rs_aug {i : Nat} {x : Str} {op : Operator} {pos' : Pos} {gv : D → D → Sto → Option D} (hN : X.N.Nodup) (hi : X.N[i]? = some x) (hx : Loc X.env.scope x) (he : RE X Wx e f) (ho : OpR X (inplaceOp op) (rM X.K gv))
    (hf : X.fn x = true ∨ X.env.scope.names.lookup x = some .local := by first | exact .inl rfl | exact .inr rfl | assumption) : RS X Wx (.AugAssign (.Name x pos') op e pos) (augM i gv f) := by
  refine PS.conv (ps_aug hN hi hx he (ti := fun x y H Q => rM X.K gv x y H Q) (fun pins s σ H x y v u Q I r1 r2 h => ho pins s σ H x y v u Q I r1 r2 h) hf) fun E σ H ⟨W, env, st, R, Ev, h⟩ => ?_
  unfold augM at h
  split at h
  · rename_i d q
    obtain ⟨v, e1, r⟩ := Ev.get i d q
    refine ⟨v, e1, W, env, st, R, Ev, out_split h Ev R fun d2 s h1 W1 H1 w E1 R1 r1 => ?_⟩
    cases q2 : gv d d2 s with
    | none => rw [q2] at h1; exact h1.elim
    | some z =>
      rw [q2] at h1
      refine ⟨W1, s, d, d2, R1, E1.relD R r, r1, z, q2, fun W2 H2 y E2 R2 r2 => ?_⟩
      exact h1 W2 _ H2 (E1.trans E2) R2 (((Ev.mono E1 R).mono E2 R1).set i r2)
  · exact h.elim

/-! ### targets -/
/-- the same slots but those of vs -/
def Agree (vs : List Nat) (σ σ' : L2.St) : Prop := σ'.length = σ.length ∧ ∀ j, j ∉ vs → σ'[j]? = σ[j]?
theorem Agree.refl {vs : List Nat} {σ : L2.St} : Agree vs σ σ := ⟨rfl, fun _ _ => rfl⟩
theorem Agree.trans {vs : List Nat} {σ σ1 σ2 : L2.St} (a : Agree vs σ σ1) (b : Agree vs σ1 σ2) : Agree vs σ σ2 := ⟨b.1.trans a.1, fun j h => (b.2 j h).trans (a.2 j h)⟩
theorem Agree.set {vs : List Nat} {σ : L2.St} {i : Nat} (h : i ∈ vs) (x : Option V) : Agree vs σ (σ.set i x) := ⟨List.length_set, fun j hj => List.getElem?_set_ne (fun e => hj (by rw [← e]; exact h))⟩
def tG (K : PySem.W.Frag) (us : List Nat) (ga : D → Env → Option Env) : TG := fun v σ H Q => ∃ W env st d env', Rl K W st H ∧ EnvR K W H env σ ∧ RelD K W H d v ∧ ga d env = some env' ∧ ∀ σ', EnvR K W H env' σ' → Agree us σ σ' → Q σ' H
def tGs (K : PySem.W.Frag) (us : List Nat) (ga : List T → Env → Option Env) : TGs := fun vs σ H Q => ∃ W env st ts env', Rl K W st H ∧ EnvR K W H env σ ∧ RelTs K W.F H ts vs ∧ ga ts env = some env' ∧ ∀ σ', EnvR K W H env' σ' → Agree us σ σ' → Q σ' H
abbrev RG (X : Cx) (us : List Nat) (tg : Expr) (ga : D → Env → Option Env) : Prop := PG X tg (tG X.K us ga)
abbrev RGs (X : Cx) (us : List Nat) (tg : List Expr) (ga : List T → Env → Option Env) : Prop := PGs X tg (tGs X.K us ga)
theorem PG.conv {tg : Expr} {t t' : TG} (h : PG X tg t) (g : ∀ v σ H Q, t' v σ H Q → t v σ H Q) : PG X tg t' := ⟨fun pins s σ H v u Q I r q => h.run pins s σ H v u Q I r (g v σ H Q q)⟩
theorem PGs.conv {tg : List Expr} {t t' : TGs} (h : PGs X tg t) (g : ∀ v σ H Q, t' v σ H Q → t v σ H Q) : PGs X tg t' := ⟨fun pins s σ H v u Q I r q => h.run pins s σ H v u Q I r (g v σ H Q q)⟩
def gN (i : Nat) (d : D) (env : Env) : Option Env := some (env.set i (some d))
theorem rg_name {us : List Nat} {i : Nat} {x : Str} (hN : X.N.Nodup) (hi : X.N[i]? = some x) (hx : Loc X.env.scope x) (hu : i ∈ us := by simp) (hf : X.fn x = true ∨ X.env.scope.names.lookup x = some .local := by first | exact .inl rfl | exact .inr rfl | assumption) : RG X us (.Name x pos) (gN i) := by
  refine PG.conv (pg_name hN hi hx hf) fun v σ H Q ⟨W, env, st, d, env', R, Ev, r, e, h⟩ => ?_
  cases e
  exact h _ (Ev.set i r) (.set hu _)
def gsNil (ts : List T) (env : Env) : Option Env := match ts with
  | [] => some env
  | _ => none
def gsCons (ga : D → Env → Option Env) (gr : List T → Env → Option Env) (ts : List T) (env : Env) : Option Env := match ts with
  | [] => none
  | t :: r => (ga (.t t) env).bind (gr r)
theorem rgs_nil {us : List Nat} : RGs X us [] gsNil := by
  refine PGs.conv pgs_nil fun vs σ H Q ⟨W, env, st, ts, env', R, Ev, r, e, h⟩ => ?_
  cases ts with
  | cons t r => cases e
  | nil => cases e; cases r; exact ⟨rfl, h σ Ev .refl⟩
theorem rgs_cons {us : List Nat} {es : List Expr} {ga : D → Env → Option Env} {gr : List T → Env → Option Env} (h1 : RG X us e ga) (h2 : RGs X us es gr)
    (hs : (assignEach (e :: es) X.env).map (·.2) = assign e X.env :: (assignEach es X.env).map (·.2) := by rfl) : RGs X us (e :: es) (gsCons ga gr) := by
  refine PGs.conv (pgs_cons h1 h2 hs) fun vs σ H Q ⟨W, env, st, ts, env', R, Ev, r, e, h⟩ => ?_
  cases ts with
  | nil => cases e
  | cons t ts =>
    obtain ⟨v, vr, e0, ra, rb⟩ := r
    have e : (ga (.t t) env).bind (gr ts) = some env' := e
    cases q : ga (.t t) env with
    | none => (rw [q] at e; cases e)
    | some env1 =>
      rw [q] at e
      exact ⟨v, vr, e0, W, env, st, .t t, env1, R, Ev, ra, q, fun σ' Ev' ag => ⟨W, env1, st, ts, env', R, Ev', rb, e, fun σ2 Ev2 ag2 => h σ2 Ev2 (ag.trans ag2)⟩⟩
def gT (n : Nat) (gr : List T → Env → Option Env) (d : D) (env : Env) : Option Env := match d with
  | .t (.tup ts) => if ts.length = n then gr ts env else none
  | _ => none
theorem rg_tup {us : List Nat} {es : List Expr} {k n : Nat} {gr : List T → Env → Option Env} (hc : X.calm = true) (h : RGs X us es gr)
    (hn : (assignEach es X.env).length = n := by rfl) (hst : (assignEach es X.env).findIdx? (·.1) = none := by rfl) : RG X us (.Tuple es k pos) (gT n gr) := by
  refine PG.conv (pg_tup hc h hn hst) fun v σ H Q ⟨W, env, st, d, env', R, Ev, r, e, h⟩ => ?_
  unfold gT at e
  split at e
  · rename_i ts
    split at e
    · rename_i hl
      obtain ⟨a, vs, e1, q, rr⟩ := r
      exact ⟨a, vs, e1, q.sq, by rw [relTs_len rr]; exact hl, W, env, st, ts, env', R, Ev, rr, e, h⟩
    · cases e
  · cases e
/-- target = e -/
def asgM (f : Env → Sto → Res D) (ga : D → Env → Option Env) (env : Env) (st : Sto) : Out := (f env st).out env fun d s => match ga d env with
  | some env' => .nx env' s
  | none => .bad
theorem rs_asg {us : List Nat} {tg : Expr} {ga : D → Env → Option Env} (he : RE X Wx e f) (hg : RG X us tg ga) (hs : swapsWithSole [tg] e pos.line X.env = pure false := by rfl) (hw : swappedStores [tg] e X.env = pure none := by rfl)
    (h1 : (assignEach [tg] X.env).map (·.2) = [assign tg X.env] := by rfl) : RS X Wx (.Assign [tg] e pos) (asgM f ga) := by
  refine PS.conv (ps_asg he hg hs hw h1) fun E σ H ⟨W, env, st, R, Ev, h⟩ => ⟨W, env, st, R, Ev, out_split h Ev R fun d s h1 W1 H1 v E1 R1 r1 => ?_⟩
  split at h1
  · rename_i env' q
    exact ⟨W1, env, s, d, env', R1, Ev.mono E1 R, r1, q, fun σ' Ev' _ => h1 W1 σ' H1 E1 R1 Ev'⟩
  · exact h1.elim
/-- a, b = x, y, two plain names -/
def parM (i j : Nat) (fs : List (Env → Sto → Res D)) (env : Env) (st : Sto) : Out := (argsM fs env st).out env fun ds s => match ds with
  | [d, d2] => .nx ((env.set i (some d)).set j (some d2)) s
  | _ => .bad
theorem rs_par {i j : Nat} {x y : Str} {px py pt : Pos} {kt k2 pt2} {fs : List (Env → Sto → Res D)} (hc : X.calm = true) (hN : X.N.Nodup) (hi : X.N[i]? = some x) (hj : X.N[j]? = some y) (hij : i ≠ j)
    (hx : X.env.scope.names.lookup x = some .local) (hy : X.env.scope.names.lookup y = some .local) (ha : RA X Wx [a, b] (argsM fs))
    (hw : swappedStores [.Tuple [.Name x px, .Name y py] kt pt] (.Tuple [a, b] k2 pt2) X.env = pure (some [x, y]) := by rfl)
    (hs : swapsWithSole [.Tuple [.Name x px, .Name y py] kt pt] (.Tuple [a, b] k2 pt2) pos.line X.env = pure false := by rfl) : RS X Wx (.Assign [.Tuple [.Name x px, .Name y py] kt pt] (.Tuple [a, b] k2 pt2) pos) (parM i j fs) := by
  refine PS.conv (ps_par hc hN hi hj hij hx hy ha hw hs) fun E σ H ⟨W, env, st, R, Ev, h⟩ => ⟨W, env, st, R, Ev, out_split h Ev R fun ds s h1 W1 H1 vs E1 R1 r1 => ?_⟩
  split at h1
  · rename_i d d2
    obtain ⟨v, r, rfl, q1, w, r', rfl, q2, q3⟩ := r1
    cases q3
    exact ⟨v, w, rfl, h1 W1 _ H1 E1 R1 (((Ev.mono E1 R).set i q1).set j q2)⟩
  · exact h1.elim
end

/-! ### what is walked -/
structure ItM where
  nth : Sto → Nat → Option (Option D)
  most : Nat
def JOk (K : PySem.W.Frag) (J : It) (it : ItM) (W0 : Wd) (H0 : Hp) : Prop := ∀ W H st i, Ext W0 H0 W H → Rl K W st H →
  (it.nth st i = some none → J.stop i H) ∧ ∀ d, it.nth st i = some (some d) → J.go i H ∧ ∀ x H', J.yld i H x H' → ∃ W', Ext W H W' H' ∧ Rl K W' st H' ∧ RelD K W' H' d x
def tI (K : PySem.W.Frag) (Wx : WX) (fi : Env → Sto → Res ItM) : TI := fun σ H Q => ∃ W env st, Rl K W st H ∧ EnvR K W H env σ ∧
  (fi env st).Holds (fun it s => ∀ W' H' J, Ext W H W' H' → Rl K W' s H' → JOk K J it W' H' → Q J H') (OkX K W H fun c o H' => Wx c o σ H')
abbrev RI (X : Cx) (Wx : WX) (tg iter : Expr) (fi : Env → Sto → Res ItM) : Prop := PI X tg iter (tI X.K Wx fi)
def forI (ga : D → Env → Option Env) (body : Env → Sto → Out) (it : ItM) : Nat → Nat → Env → Sto → Out
  | 0, i, env, st => match it.nth st i with
    | some none => .nx env st
    | _ => .bad
  | m + 1, i, env, st => match it.nth st i with
    | some none => .nx env st
    | some (some d) => match ga d env with
      | some env1 => match body env1 st with
        | .nx e s => forI ga body it m (i + 1) e s
        | .ct e s => forI ga body it m (i + 1) e s
        | .bk e s => .nx e s
        | .rt d s => .rt d s
        | .exc C fs e s => .exc C fs e s
        | .bad => .bad
      | none => .bad
    | none => .bad
def forM' (fi : Env → Sto → Res ItM) (ga : D → Env → Option Env) (body : Env → Sto → Out) (env : Env) (st : Sto) : Out := (fi env st).out env fun it s => forI ga body it it.most 0 env s
section
variable {X : Cx} {Wx : WX} {g : Env → Sto → Out} {e a b c : Expr} {f fa fb : Env → Sto → Res D} {pos : Pos}
theorem rs_for {us : List Nat} {tg iter : Expr} {body : List Stmt} {fi : Env → Sto → Res ItM} {ga : D → Env → Option Env} (hp : PassesOwn (model X.prog X.w) X.A X.env X.xe) (hc : X.calm = true) (hi : RI X Wx tg iter fi) (hg : RG X us tg ga) (hb : RSs X Wx body g)
    (hs : ∀ x, foldedSetIterable iter X.env x = pure x := by intro _; rfl) : RS X Wx (.For tg iter body [] pos) (forM' fi ga g) := by
  refine PS.conv (ps_for hp hc hi hg hb hs) fun E σ H ⟨W, env, st, R, Ev, h⟩ => ⟨W, env, st, R, Ev, out_split h Ev R fun it s h1 W1 H1 J E1 R1 j => ?_⟩
  refine ⟨fun i m σ H2 => ∃ W2 env2 st2, Ext W1 H1 W2 H2 ∧ Rl X.K W2 st2 H2 ∧ EnvR X.K W2 H2 env2 σ ∧ (forI ga g it m i env2 st2).Holds X.K Wx E W2 H2, ⟨it.most, W1, env, s, .refl, R1, Ev.mono E1 R, Out.Holds.mono h1 E1⟩, ?_⟩
  rintro i m σ2 H2 ⟨W2, env2, st2, E2, R2, Ev2, h2⟩
  obtain ⟨j1, j2⟩ := j W2 H2 st2 i E2 R2
  have stop : it.nth st2 i = some none → (forI ga g it m i env2 st2) = .nx env2 st2 := fun q => by
    cases m with
    | zero => unfold forI; rw [q]
    | succ m => unfold forI; rw [q]
  cases q : it.nth st2 i with
  | none =>
    exfalso
    cases m with
    | zero => unfold forI at h2; rw [q] at h2; exact h2
    | succ m => unfold forI at h2; rw [q] at h2; exact h2
  | some o =>
    cases o with
    | none =>
      rw [stop q] at h2
      exact .inl ⟨j1 q, h2 W2 σ2 H2 .refl R2 Ev2⟩
    | some d =>
      cases m with
      | zero => exfalso; unfold forI at h2; rw [q] at h2; exact h2
      | succ m =>
        obtain ⟨jg, jy⟩ := j2 d q
        refine .inr ⟨jg, fun σ' H' => ∃ W2 env2 st2, Ext W1 H1 W2 H' ∧ Rl X.K W2 st2 H' ∧ EnvR X.K W2 H' env2 σ' ∧ (forI ga g it m (i + 1) env2 st2).Holds X.K Wx E W2 H', fun σ' H' h => ⟨m, Nat.lt_succ_self m, h⟩, fun x H3 hy => ?_⟩
        obtain ⟨W3, E3, R3, r3⟩ := jy x H3 hy
        unfold forI at h2
        simp only [q] at h2
        cases q2 : ga d env2 with
        | none => rw [q2] at h2; exact h2.elim
        | some env3 =>
          simp only [q2] at h2
          refine ⟨W3, env2, st2, d, env3, R3, Ev2.mono E3 R2, r3, q2, fun σ3 Ev3 _ => ⟨W3, env3, st2, R3, Ev3, ?_⟩⟩
          cases q3 : g env3 st2 with
          | nx e s => simp only [q3] at h2; exact fun W4 σ4 H4 E4 R4 Ev4 => ⟨W4, e, s, E2.trans (E3.trans E4), R4, Ev4, Out.Holds.mono h2 (E3.trans E4)⟩
          | ct e s => simp only [q3] at h2; exact fun W4 σ4 H4 E4 R4 Ev4 => ⟨W4, e, s, E2.trans (E3.trans E4), R4, Ev4, Out.Holds.mono h2 (E3.trans E4)⟩
          | bk e s => simp only [q3] at h2; exact fun W4 σ4 H4 E4 R4 Ev4 => h2 W4 σ4 H4 (E3.trans E4) R4 Ev4
          | rt d s => simp only [q3] at h2; exact OkD.mono h2 E3
          | exc C fs e s => simp only [q3] at h2; exact fun W4 σ4 H4 o E4 R4 Ev4 x => h2 W4 σ4 H4 o (E3.trans E4) R4 Ev4 x
          | bad => simp only [q3] at h2; exact h2
/-- while -/
def whileI (c : Env → Sto → Res Bool) (body : Env → Sto → Out) : Nat → Env → Sto → Out
  | 0, env, st => (c env st).out env fun k s => if k = true then .bad else .nx env s
  | m + 1, env, st => (c env st).out env fun k s => if k = true then (match body env s with
      | .nx e s => whileI c body m e s
      | .ct e s => whileI c body m e s
      | .bk e s => .nx e s
      | .rt d s => .rt d s
      | .exc C fs e s => .exc C fs e s
      | .bad => .bad) else .nx env s
theorem rs_while {body : List Stmt} {gc : Env → Sto → Res Bool} (fuel : Nat) (hp : PassesOwn (model X.prog X.w) X.A X.env X.xe) (hc : RT X Wx c gc) (hb : RSs X Wx body g) : RS X Wx (.While c body [] pos) (whileI gc g fuel) := by
  refine PS.conv (ps_while hp hc hb) fun E σ H ⟨W, env, st, R, Ev, h⟩ => ⟨fun m σ H => ∃ W env st, Rl X.K W st H ∧ EnvR X.K W H env σ ∧ (whileI gc g m env st).Holds X.K Wx E W H, ⟨fuel, W, env, st, R, Ev, h⟩, ?_⟩
  rintro m σ1 H1 ⟨W1, env1, st1, R1, Ev1, h1⟩
  cases m with
  | zero =>
    refine ⟨W1, env1, st1, R1, Ev1, out_split h1 Ev1 R1 fun k s h2 W2 H2 E2 R2 => ?_⟩
    cases k with
    | true => exact h2.elim
    | false => exact ite_ff (h2 W2 σ1 H2 E2 R2 (Ev1.mono E2 R1))
  | succ m =>
    refine ⟨W1, env1, st1, R1, Ev1, out_split h1 Ev1 R1 fun k s h2 W2 H2 E2 R2 => ?_⟩
    cases k with
    | false => exact ite_ff (h2 W2 σ1 H2 E2 R2 (Ev1.mono E2 R1))
    | true =>
      refine ite_tt ⟨fun σ' H' => ∃ W env st, Rl X.K W st H' ∧ EnvR X.K W H' env σ' ∧ (whileI gc g m env st).Holds X.K Wx E W H', fun σ' H' h => ⟨m, Nat.lt_succ_self m, h⟩, W2, env1, s, R2, Ev1.mono E2 R1, ?_⟩
      have h2 : (match g env1 s with
        | .nx e s => whileI gc g m e s
        | .ct e s => whileI gc g m e s
        | .bk e s => .nx e s
        | .rt d s => .rt d s
        | .exc C fs e s => .exc C fs e s
        | .bad => .bad).Holds X.K Wx E W1 H1 := h2
      cases q3 : g env1 s with
      | nx e s => simp only [q3] at h2; exact fun W4 σ4 H4 E4 R4 Ev4 => ⟨W4, e, s, R4, Ev4, Out.Holds.mono h2 (E2.trans E4)⟩
      | ct e s => simp only [q3] at h2; exact fun W4 σ4 H4 E4 R4 Ev4 => ⟨W4, e, s, R4, Ev4, Out.Holds.mono h2 (E2.trans E4)⟩
      | bk e s => simp only [q3] at h2; exact fun W4 σ4 H4 E4 R4 Ev4 => h2 W4 σ4 H4 (E2.trans E4) R4 Ev4
      | rt d s => simp only [q3] at h2; exact OkD.mono h2 E2
      | exc C fs e s => simp only [q3] at h2; exact fun W4 σ4 H4 o E4 R4 Ev4 x => h2 W4 σ4 H4 o (E2.trans E4) R4 Ev4 x
      | bad => simp only [q3] at h2; exact h2

/-! ### the things that are walked -/
def seqIt (d : D) (n : Nat) : ItM := ⟨fun st i => (items st d).map fun ds => ds[i]?, n⟩
theorem map_nth {st : Sto} {d : D} {n i : Nat} {o : Option D} (h : (seqIt d n).nth st i = some o) : ∃ ds, items st d = some ds ∧ ds[i]? = o := by
  have h : (items st d).map (fun ds => ds[i]?) = some o := h
  cases q : items st d with
  | none => rw [q] at h; cases h
  | some ds => rw [q] at h; exact ⟨ds, rfl, Option.some.inj h⟩
def seqOf (f : Env → Sto → Res D) (env : Env) (st : Sto) : Res ItM := (f env st).bind fun d s => optR ((items s d).map fun ds => seqIt d ds.length) s
/-- a list alone (no tuple) -/
def lsq (st : Sto) (d : D) : Option (List D) := match d with
  | .t (.tup _) => none
  | d => items st d
theorem lsq_items {st : Sto} {d : D} {ds : List D} (h : lsq st d = some ds) : items st d = some ds := by
  unfold lsq at h
  split at h
  · cases h
  · exact h
theorem lsq_rel {K : PySem.W.Frag} {W : Wd} {H : Hp} {st : Sto} (R : Rl K W st H) {d : D} {ds : List D} {v : V} (h : lsq st d = some ds) (r : RelD K W H d v) : ∃ a vs, v = .ref a ∧ SqL K H a vs ∧ RelDs K W H ds vs := by
  cases d with
  | x => cases h
  | r n =>
    have h : (match st[n]? with | some (.lst ds) => some ds | _ => none) = some ds := h
    obtain ⟨a, e, rfl⟩ := r
    split at h
    · rename_i ds' q
      cases h
      obtain ⟨vs, q1, q2⟩ := R.live n a _ e q
      exact ⟨a, vs, rfl, SqL.of q1, q2⟩
    · cases h
  | t x =>
    cases x with
    | lst ts =>
      cases h
      obtain ⟨a, vs, e, f, q, rr⟩ := r
      exact ⟨a, vs, e, SqL.of q, relDs_t rr⟩
    | scr ts =>
      cases h
      obtain ⟨a, vs, e, q, rr⟩ := r
      exact ⟨a, vs, e, q.sq, relDs_t rr⟩
    | _ => cases h
theorem JOk.lst {K : PySem.W.Frag} {W : Wd} {H : Hp} {st : Sto} {d : D} {a : Addr} {n : Nat} (R : Rl K W st H) (r : RelD K W H d (.ref a)) (hs : ∀ ts, d ≠ .t (.tup ts)) : JOk K (Itl K a) (seqIt d n) W H := by
  intro W' H' st' i E' R'
  have r' := E'.relD R r
  have get : ∀ o, (seqIt d n).nth st' i = some o → ∃ ds vs, items st' d = some ds ∧ ds[i]? = o ∧ SqL K H' a vs ∧ RelDs K W' H' ds vs := fun o h => by
    obtain ⟨ds, e1, e2⟩ := map_nth h
    have e0 : lsq st' d = some ds := by
      unfold lsq
      split
      · rename_i ts; exact absurd rfl (hs ts)
      · exact e1
    obtain ⟨a', vs, e3, s, rr⟩ := lsq_rel R' e0 r'
    cases e3
    exact ⟨ds, vs, e1, e2, s, rr⟩
  refine ⟨fun h => ?_, fun dd h => ?_⟩
  · obtain ⟨ds, vs, e1, e2, s, rr⟩ := get _ h
    exact ⟨vs, s, by rw [relDs_len rr]; exact List.getElem?_eq_none_iff.mp e2⟩
  · obtain ⟨ds, vs, e1, e2, s, rr⟩ := get _ h
    obtain ⟨v, e3, rv⟩ := relDs_get rr e2
    refine ⟨⟨vs, v, s, e3⟩, fun x H2 hy => ?_⟩
    obtain ⟨rfl, hy⟩ := hy
    have e4 : v = x := Option.some.inj (e3.symm.trans (hy vs s))
    subst e4
    exact ⟨W', .refl, R', rv⟩
theorem JOk.tup {K : PySem.W.Frag} {W : Wd} {H : Hp} {st : Sto} {ts : List T} {a : Addr} {n : Nat} (R : Rl K W st H) (r : RelD K W H (.t (.tup ts)) (.ref a)) : JOk K (Itt K a) (seqIt (.t (.tup ts)) n) W H := by
  intro W' H' st' i E' R'
  have r' := E'.relD R r
  obtain ⟨a2, vs, e4, q1, q2⟩ := r'
  cases e4
  have q3 := relDs_t (K := K) (W := W') q2
  refine ⟨fun h => ?_, fun dd h => ?_⟩
  · obtain ⟨ds, e1, e2⟩ := map_nth h
    cases e1
    exact ⟨vs, q1.sq, by rw [relDs_len q3]; exact List.getElem?_eq_none_iff.mp e2⟩
  · obtain ⟨ds, e1, e2⟩ := map_nth h
    cases e1
    obtain ⟨v, e3, rv⟩ := relDs_get q3 e2
    refine ⟨⟨vs, v, q1.sq, e3⟩, fun x H2 hy => ?_⟩
    obtain ⟨rfl, hy⟩ := hy
    have e4 : v = x := Option.some.inj (e3.symm.trans (hy vs q1.sq))
    subst e4
    exact ⟨W', .refl, R', rv⟩
theorem PI.conv {tg iter : Expr} {t t' : TI} (h : PI X tg iter t) (g : ∀ σ H Q, t' σ H Q → t σ H Q) : PI X tg iter t' := ⟨fun pins s σ H R I q => h.run pins s σ H R I (g σ H R q)⟩
/-- a walk over a list -/
def lstOf (f : Env → Sto → Res D) (env : Env) (st : Sto) : Res ItM := (f env st).bind fun d s => optR ((lsq s d).map fun ds => seqIt d ds.length) s
theorem ri_list {tg l : Expr} (h : RE X Wx l f) : RI X Wx tg l (lstOf f) := by
  refine PI.conv (pi_list h) fun σ H Q ⟨W, env, st, R, Ev, h⟩ => ⟨W, env, st, R, Ev, split h (fun d s h1 W1 H1 v E1 R1 r1 => ?_) fun C fs st' hx => hx⟩
  obtain ⟨it, e1, q⟩ := optR_holds h1
  have nt : ∀ ts, d ≠ .t (.tup ts) := fun ts z => by rw [z] at e1; cases e1
  cases q2 : lsq s d with
  | none => rw [q2] at e1; cases e1
  | some ds =>
    rw [q2] at e1
    cases e1
    obtain ⟨a, vs, e3, sq, rr⟩ := lsq_rel R1 q2 r1
    subst e3
    exact ⟨a, rfl, ⟨vs, sq⟩, q W1 H1 _ E1 R1 (JOk.lst R1 r1 nt)⟩
def tupOf (f : Env → Sto → Res D) (env : Env) (st : Sto) : Res ItM := (f env st).bind fun d s => match d with
  | .t (.tup ts) => .ok (seqIt (.t (.tup ts)) ts.length) s
  | _ => .bad
theorem ri_tup {tg l : Expr} (h : RE X Wx l f) : RI X Wx tg l (tupOf f) := by
  refine PI.conv (pi_tup h) fun σ H Q ⟨W, env, st, R, Ev, h⟩ => ⟨W, env, st, R, Ev, split h (fun d s h1 W1 H1 v E1 R1 r1 => ?_) fun C fs st' hx => hx⟩
  split at h1
  · rename_i ts
    obtain ⟨a, vs, e, q, rr⟩ := id r1
    subst e
    exact ⟨a, rfl, ⟨vs, q.sq⟩, h1 W1 H1 _ E1 R1 (JOk.tup R1 r1)⟩
  · exact h1.elim
/-- range -/
def rngIt (lo : Int) (n : Nat) : ItM := ⟨fun _ i => some (if i < n then some (.t (.int (lo + i))) else none), n⟩
theorem JOk.rng {K : PySem.W.Frag} {W : Wd} {H : Hp} {lo : Int} {n : Nat} : JOk K (Itr lo n) (rngIt lo n) W H := by
  intro W' H' st' i E' R'
  refine ⟨fun h => ?_, fun d h => ?_⟩
  · have h : some (if i < n then some (D.t (.int (lo + i))) else none) = some none := h
    by_cases hi : i < n
    · rw [if_pos hi] at h; cases h
    · exact Nat.le_of_not_lt hi
  · have h : some (if i < n then some (D.t (.int (lo + i))) else none) = some (some d) := h
    by_cases hi : i < n
    · rw [if_pos hi] at h
      cases h
      refine ⟨hi, fun x H2 hy => ?_⟩
      obtain ⟨rfl, rfl⟩ := hy
      exact ⟨W', .refl, R', rfl⟩
    · rw [if_neg hi] at h; cases h
def B62 : Int := 4611686018427387904
def rng1 (fs : List (Env → Sto → Res D)) (env : Env) (st : Sto) : Res ItM := (argsM fs env st).bind fun ds s => match ds with
  | [.t (.int j)] => if -B62 ≤ j ∧ j < B62 then .ok (rngIt 0 j.toNat) s else .bad
  | _ => .bad
theorem ri_range1 {tg : Expr} {p : Pos} {fs : List (Env → Sto → Res D)} (hg : Gl X "range") (hm : X.mg "range" = none) (ha : RA X Wx [a] (argsM fs)) (hs : starEach [a] X.env = [(false, eval a X.env)] := by rfl) : RI X Wx tg (.Call (.Name "range" p) [a] [] pos) (rng1 fs) := by
  refine PI.conv (pi_range1 hg hm ha hs) fun σ H Q ⟨W, env, st, R, Ev, h⟩ => ⟨W, env, st, R, Ev, split h (fun ds s h1 W1 H1 vs E1 R1 r1 => ?_) fun C fs st' hx => hx⟩
  split at h1
  · rename_i j
    obtain ⟨v, r, rfl, q1, q2⟩ := r1
    cases q1; cases q2
    split at h1
    · rename_i hb
      unfold B62 at hb
      exact ⟨j, rfl, by omega, by omega, h1 W1 H1 _ E1 R1 .rng⟩
    · exact h1.elim
  · exact h1.elim
def rng2 (fs : List (Env → Sto → Res D)) (env : Env) (st : Sto) : Res ItM := (argsM fs env st).bind fun ds s => match ds with
  | [.t (.int i), .t (.int j)] => if (-B62 ≤ i ∧ i < B62) ∧ -B62 ≤ j ∧ j < B62 then .ok (rngIt i (j - i).toNat) s else .bad
  | _ => .bad
theorem ri_range2 {tg : Expr} {p : Pos} {fs : List (Env → Sto → Res D)} (hg : Gl X "range") (hm : X.mg "range" = none) (ha : RA X Wx [a, b] (argsM fs)) (hs : starEach [a, b] X.env = [(false, eval a X.env), (false, eval b X.env)] := by rfl) (hs2 : starEach [b] X.env = [(false, eval b X.env)] := by rfl) :
    RI X Wx tg (.Call (.Name "range" p) [a, b] [] pos) (rng2 fs) := by
  refine PI.conv (pi_range2 hg hm ha hs hs2) fun σ H Q ⟨W, env, st, R, Ev, h⟩ => ⟨W, env, st, R, Ev, split h (fun ds s h1 W1 H1 vs E1 R1 r1 => ?_) fun C fs st' hx => hx⟩
  split at h1
  · rename_i i j
    obtain ⟨v, r, rfl, q1, v2, r2, rfl, q2, q3⟩ := r1
    cases q1; cases q2; cases q3
    split at h1
    · rename_i hb
      unfold B62 at hb
      exact ⟨i, j, rfl, ⟨by omega, by omega, by omega, by omega⟩, h1 W1 H1 _ E1 R1 .rng⟩
    · exact h1.elim
  · exact h1.elim
/-- a text, sign by sign -/
def strIt (x : Str) : ItM := ⟨fun _ i => some (x.cps[i]?.map fun c => .t (.str ⟨#[c]⟩)), x.cps.size⟩
theorem JOk.str {K : PySem.W.Frag} {W : Wd} {H : Hp} {x : Str} : JOk K (Its x) (strIt x) W H := by
  intro W' H' st' i E' R'
  refine ⟨fun h => ?_, fun d h => ?_⟩
  · have h : some (x.cps[i]?.map fun c => D.t (.str ⟨#[c]⟩)) = some none := h
    cases q : x.cps[i]? with
    | none => exact Array.getElem?_eq_none_iff.mp q
    | some c => rw [q] at h; cases h
  · have h : some (x.cps[i]?.map fun c => D.t (.str ⟨#[c]⟩)) = some (some d) := h
    cases q : x.cps[i]? with
    | none => rw [q] at h; cases h
    | some c =>
      rw [q] at h
      cases h
      refine ⟨(Array.getElem?_eq_some_iff.mp q).1, fun y H2 hy => ?_⟩
      obtain ⟨rfl, c', e, rfl⟩ := hy
      rw [q] at e; cases e
      exact ⟨W', .refl, R', rfl⟩
def strOf (f : Env → Sto → Res D) (env : Env) (st : Sto) : Res ItM := (f env st).bind fun d s => match d with
  | .t (.str x) => .ok (strIt x) s
  | _ => .bad
theorem ri_str {tg l : Expr} (h : RE X Wx l f) : RI X Wx tg l (strOf f) := by
  refine PI.conv (pi_str h) fun σ H Q ⟨W, env, st, R, Ev, h⟩ => ⟨W, env, st, R, Ev, split h (fun d s h1 W1 H1 v E1 R1 r1 => ?_) fun C fs st' hx => hx⟩
  split at h1
  · rename_i x
    cases r1
    exact ⟨x, rfl, h1 W1 H1 _ E1 R1 .str⟩
  · exact h1.elim
end
end Mi
/-! Mir3 -/
namespace Mi
open L2 PySem PySem.Spec PyProof.Rows
section
variable {X : Cx} {Wx : WX}
/-- an operator's rule in terms of plain values -/
theorem op_of {f : Value → Value → Sem Value} {g : D → D → Sto → Option D} {r : R2} (ho : OpR X f r)
    (h : ∀ W st d e x y H Q z, Rl X.K W st H → RelD X.K W H d x → RelD X.K W H e y → g d e st = some z → OkD X.K W H Q z st → r x y H Q) : OpR X f (rM X.K g) := by
  intro pins s σ H x y v u Q I rx ry ⟨W, st, d, e, R, r1, r2, z, e1, q⟩
  exact ho pins s σ H x y v u Q I rx ry (h W st d e x y H Q z R r1 r2 e1 q)
def bD (b : Bool) : D := .t (.bl b)
def iD (i : Int) : D := .t (.int i)
def sD (x : Str) : D := .t (.str x)

/-! ### numbers -/
def subM (d e : D) (_ : Sto) : Option D := match d, e with
  | .t (.int i), .t (.int j) => some (iD (i - j))
  | _, _ => none
theorem o_sub : OpR X (binaryOp .Sub) (rM X.K subM) := op_of op_sub fun W st d e x y H Q z R r1 r2 h q => by
  unfold subM at h
  split at h
  · cases h; cases r1; cases r2; exact ⟨_, _, rfl, rfl, q W H _ .refl R rfl⟩
  · cases h
theorem io_sub : OpR X (inplaceOp .Sub) (rM X.K subM) := op_of iop_sub fun W st d e x y H Q z R r1 r2 h q => by
  unfold subM at h
  split at h
  · cases h; cases r1; cases r2; exact ⟨_, _, rfl, rfl, q W H _ .refl R rfl⟩
  · cases h
def B64 : Int := 18446744073709551616
def mulM (d e : D) (_ : Sto) : Option D := match d, e with
  | .t (.int i), .t (.int j) => if (-B64 < i ∧ i < B64) ∨ (-B64 < j ∧ j < B64) then some (iD (i * j)) else none
  | _, _ => none
theorem o_mul : OpR X (binaryOp .Mult) (rM X.K mulM) := op_of op_mul fun W st d e x y H Q z R r1 r2 h q => by
  unfold mulM at h
  split at h
  · split at h
    · rename_i c
      cases h; cases r1; cases r2
      exact ⟨_, _, rfl, rfl, by unfold CMul; unfold B64 at c; omega, q W H _ .refl R rfl⟩
    · cases h
  · cases h
def modM (d e : D) (_ : Sto) : Option D := match d, e with
  | .t (.int i), .t (.int j) => if 0 < j then some (iD (i % j)) else none
  | _, _ => none
theorem o_mod : OpR X (binaryOp .Mod) (rM X.K modM) := op_of op_mod fun W st d e x y H Q z R r1 r2 h q => by
  unfold modM at h
  split at h
  · split at h
    · rename_i c
      cases h; cases r1; cases r2
      exact ⟨_, _, rfl, rfl, c, q W H _ .refl R rfl⟩
    · cases h
  · cases h
def fdivM (d e : D) (_ : Sto) : Option D := match d, e with
  | .t (.int i), .t (.int j) => if 0 < j ∧ j < 1073741824 then some (iD (i / j)) else none
  | _, _ => none
theorem o_fdiv : OpR X (binaryOp .FloorDiv) (rM X.K fdivM) := op_of op_fdiv fun W st d e x y H Q z R r1 r2 h q => by
  unfold fdivM at h
  split at h
  · split at h
    · rename_i c
      cases h; cases r1; cases r2
      exact ⟨_, _, rfl, rfl, c, q W H _ .refl R rfl⟩
    · cases h
  · cases h
def powM (d e : D) (_ : Sto) : Option D := match d, e with
  | .t (.int i), .t (.int j) => if 0 ≤ j ∧ j ≤ 1000000 ∧ i.natAbs < 18446744073709551616 then some (iD (i ^ j.toNat)) else none
  | _, _ => none
theorem o_pow : OpR X (binaryOp .Pow) (rM X.K powM) := op_of op_pow fun W st d e x y H Q z R r1 r2 h q => by
  unfold powM at h
  split at h
  · split at h
    · rename_i c
      cases h; cases r1; cases r2
      exact ⟨_, _, rfl, rfl, c, q W H _ .refl R rfl⟩
    · cases h
  · cases h
def negM (d : D) (_ : Sto) : Option D := match d with
  | .t (.int i) => some (iD (-i))
  | _ => none
theorem o_neg : UnR X (unaryOp .USub) (rMu X.K negM) := by
  intro pins s σ H x v Q I rx ⟨W, st, d, R, r1, z, h, q⟩
  unfold negM at h
  split at h
  · cases h; cases r1
    exact un_neg pins s σ H _ v Q I rx ⟨_, rfl, q W H _ .refl R rfl⟩
  · cases h
def cmpI (p : Int → Int → Bool) (d e : D) (_ : Sto) : Option D := match d, e with
  | .t (.int i), .t (.int j) => some (bD (p i j))
  | _, _ => none
theorem cmpI_of {f : Value → Value → Sem Value} {p : Int → Int → Bool} (ho : OpR X f (rI0 fun i j => .bl (p i j))) : OpR X f (rM X.K (cmpI p)) := op_of ho fun W st d e x y H Q z R r1 r2 h q => by
  unfold cmpI at h
  split at h
  · cases h; cases r1; cases r2; exact ⟨_, _, rfl, rfl, q W H _ .refl R rfl⟩
  · cases h
abbrev ltM := cmpI fun i j => decide (i < j)
abbrev leM := cmpI fun i j => decide (i ≤ j)
abbrev gtM := cmpI fun i j => decide (j < i)
abbrev geM := cmpI fun i j => decide (j ≤ i)
theorem o_lt : OpR X (compareOp .Lt) (rM X.K ltM) := cmpI_of op_lt
theorem o_le : OpR X (compareOp .LtE) (rM X.K leM) := cmpI_of op_le
theorem o_gt : OpR X (compareOp .Gt) (rM X.K gtM) := cmpI_of op_gt
theorem o_ge : OpR X (compareOp .GtE) (rM X.K geM) := cmpI_of op_ge

/-! ### + -/
theorem rel_lst {K : PySem.W.Frag} {W : Wd} {H : Hp} {st : Sto} (R : Rl K W st H) {n : Nat} {ds : List D} {v : V} (h : st[n]? = some (SO.lst ds)) (r : RelD K W H (.r n) v) : ∃ a vs, v = .ref a ∧ W.ρ[n]? = some a ∧ H a = some (.lst vs) ∧ RelDs K W H ds vs := by
  obtain ⟨a, e, rfl⟩ := r
  obtain ⟨vs, q1, q2⟩ := R.live n a _ e h
  exact ⟨a, vs, rfl, e, q1, q2⟩
/-- an unlocked list's items -/
def litems (st : Sto) : D → Option (List D)
  | .t (.lst ts) => some (ts.map .t)
  | .t _ => none
  | .x .. => none
  | .r n => match st[n]? with
    | some (.lst ds) => some ds
    | _ => none
theorem litems_rel {K : PySem.W.Frag} {W : Wd} {H : Hp} {st : Sto} (R : Rl K W st H) {d : D} {ds : List D} {v : V} (h : litems st d = some ds) (r : RelD K W H d v) : ∃ a vs, v = .ref a ∧ H a = some (.lst vs) ∧ RelDs K W H ds vs := by
  cases d with
  | x => cases h
  | r n =>
    have h : (match st[n]? with | some (.lst ds) => some ds | _ => none) = some ds := h
    split at h
    · rename_i ds' q
      cases h
      obtain ⟨a, vs, e, _, q1, q2⟩ := rel_lst R q r
      exact ⟨a, vs, e, q1, q2⟩
    · cases h
  | t x =>
    cases x with
    | lst ts =>
      cases h
      obtain ⟨a, vs, e, f, q, rr⟩ := r
      exact ⟨a, vs, e, q, relDs_t rr⟩
    | _ => cases h
def catT (ts us : List T) : Option D := if ts.length + us.length ≤ LIM then some (.t (.tup (ts ++ us))) else none
def catL (d e : D) (st : Sto) : Option D := (litems st d).bind fun ds => (litems st e).bind fun es => if ds.length + es.length ≤ LIM then (plains (ds ++ es)).map fun ts => .t (.lst ts) else none
def addM (d e : D) (st : Sto) : Option D := match d, e with
  | .t (.int i), .t (.int j) => some (iD (i + j))
  | .t (.str x), .t (.str y) => if x.length + y.length ≤ LIM then some (sD (x ++ y)) else none
  | .t (.tup ts), .t (.tup us) => catT ts us
  | d, e => catL d e st
theorem o_add : OpR X (binaryOp .Add) (rM X.K addM) := by
  have ho : OpR X (binaryOp .Add) _ := OpR.or op_add (OpR.or op_add_str (OpR.or op_catA op_cat))
  refine op_of ho fun W st d e x y H Q z R r1 r2 h q => ?_
  unfold addM at h
  split at h
  · cases h; cases r1; cases r2
    exact .inl ⟨_, _, rfl, rfl, q W H _ .refl R rfl⟩
  · split at h
    · rename_i c
      cases h; cases r1; cases r2
      exact .inr (.inl ⟨_, _, rfl, rfl, lim_size c, q W H _ .refl R rfl⟩)
    · cases h
  · unfold catT at h
    split at h
    · rename_i ts us c
      cases h
      obtain ⟨a, vs, rfl, q1, rr1⟩ := id r1
      obtain ⟨b, ws, rfl, q2, rr2⟩ := id r2
      have l1 := relTs_len rr1
      have l2 := relTs_len rr2
      refine .inr (.inr (.inl ⟨a, b, vs, ws, rfl, rfl, q1.sq, q2.sq, lim_size (by omega), fun e => ?_, fun _ e => ?_, fun _ _ p hp => ?_⟩))
      · subst e
        have ts0 : ts = [] := by cases ts with | nil => rfl | cons _ _ => cases l1
        subst ts0
        exact q W H _ .refl R r2
      · subst e
        have us0 : us = [] := by cases us with | nil => rfl | cons _ _ => cases l2
        subst us0
        refine q W H _ .refl R ?_
        rw [List.append_nil]
        exact r1
      · exact q W _ _ (R.more hp) (R.rest hp) ⟨p, _, rfl, Or.inl upd_same, (R.more hp).relTs R _ _ (relTs_append rr1 rr2)⟩
    · cases h
  · unfold catL at h
    cases e1 : litems st d with
    | none => rw [e1] at h; cases h
    | some ds =>
      cases e2 : litems st e with
      | none => rw [e1, e2] at h; cases h
      | some es =>
        rw [e1, e2] at h
        have h : (if ds.length + es.length ≤ LIM then (plains (ds ++ es)).map fun ts => D.t (.lst ts) else none) = some z := h
        split at h
        · rename_i c
          cases e3 : plains (ds ++ es) with
          | none => rw [e3] at h; cases h
          | some ts =>
            rw [e3] at h
            cases h
            obtain ⟨a, vs, rfl, q1, rr1⟩ := litems_rel R e1 r1
            obtain ⟨b, ws, rfl, q2, rr2⟩ := litems_rel R e2 r2
            have l1 := relDs_len rr1
            have l2 := relDs_len rr2
            refine .inr (.inr (.inr ⟨a, b, vs, ws, rfl, rfl, q1, q2, lim_size (by omega), fun p hp => ?_⟩))
            exact q (W.fix p) _ _ (Ext.fix W hp) (R.fix hp) ⟨p, _, rfl, .inr rfl, upd_same, (Ext.fix W hp).relTs R _ _ (relTs_of e3 (relDs_append rr1 rr2))⟩
        · cases h
def iaddM (d e : D) (_ : Sto) : Option D := match d, e with
  | .t (.int i), .t (.int j) => some (iD (i + j))
  | .t (.str x), .t (.str y) => if x.length + y.length ≤ LIM then some (sD (x ++ y)) else none
  | _, _ => none
theorem io_add : OpR X (inplaceOp .Add) (rM X.K iaddM) := by
  have ho : OpR X (inplaceOp .Add) _ := OpR.or iop_add iop_add_str
  refine op_of ho fun W st d e x y H Q z R r1 r2 h q => ?_
  unfold iaddM at h
  split at h
  · cases h; cases r1; cases r2
    exact .inl ⟨_, _, rfl, rfl, q W H _ .refl R rfl⟩
  · split at h
    · rename_i c
      cases h; cases r1; cases r2
      exact .inr ⟨_, _, rfl, rfl, lim_size c, q W H _ .refl R rfl⟩
    · cases h
  · cases h
/-- a tuple many times -/
def repM (d e : D) (_ : Sto) : Option D := match d, e with
  | .t (.tup ts), .t (.int k) => if ts ≠ [] ∧ 2 ≤ k ∧ k ≤ 1000 ∧ ts.length ≤ 1000 then some (.t (.tup (List.replicate k.toNat ts).flatten)) else none
  | _, _ => none
theorem relTs_rep {K : PySem.W.Frag} {F : Addr → Prop} {H : Hp} {ts : List T} {vs : List V} (h : RelTs K F H ts vs) : ∀ k : Nat, RelTs K F H (List.replicate k ts).flatten (List.replicate k vs).flatten
  | 0 => rfl
  | k + 1 => by
    (rw [List.replicate_succ, List.replicate_succ, List.flatten_cons, List.flatten_cons])
    exact relTs_append h (relTs_rep h k)
theorem o_rep : OpR X (binaryOp .Mult) (rM X.K repM) := op_of op_repT fun W st d e x y H Q z R r1 r2 h q => by
  unfold repM at h
  split at h
  · rename_i ts k
    split at h
    · rename_i c
      cases h
      obtain ⟨a, vs, rfl, q1, rr⟩ := r1
      cases r2
      have l1 := relTs_len rr
      refine ⟨a, k, vs, rfl, rfl, q1.sq, fun z => ?_, c.2.1, c.2.2.1, by omega, fun p hp => ?_⟩
      · rw [z] at l1
        cases ts with
        | nil => exact c.1 rfl
        | cons _ _ => cases l1
      · exact q W _ _ (R.more hp) (R.rest hp) ⟨p, _, rfl, Or.inl upd_same, (R.more hp).relTs R _ _ (relTs_rep rr _)⟩
    · cases h
  · cases h

/-! ### == and != -/
mutual
def pyT : T → Option PyData
  | .non => some .none
  | .bl b => some (.bool b)
  | .int i => some (.int i)
  | .str x => some (.str x)
  | .tup ts => (pyTs ts).map .tuple
  | .lst ts => (pyTs ts).map .list
  | .scr ts => (pyTs ts).map .list
  | .glb _ => none
  | .ty _ => none
  | .ins .. => none
  | .dk .. => none
  | .dt .. => none
def pyTs : List T → Option (List PyData)
  | [] => some []
  | t :: ts => (pyT t).bind fun p => (pyTs ts).map (p :: ·)
end
def pyD (st : Sto) (d : D) : Option PyData := match d with
  | .t x => pyT x
  | .r n => (items st (.r n)).bind fun ds => (plains ds).bind fun ts => (pyTs ts).map .list
  | .x .. => none
mutual
theorem dp_of {K : PySem.W.Frag} {F : Addr → Prop} {H : Hp} : ∀ (t : T) (p : PyData) (v : V), pyT t = some p → RelT K F H t v → Dp K H v p
  | .ins .., p, v, h, r => by cases h
  | .dk .., p, v, h, r => by cases h
  | .dt .., p, v, h, r => by cases h
  | .non, p, v, h, r => by cases h; cases r; exact .non
  | .bl b, p, v, h, r => by cases h; cases r; exact .bl b
  | .int b, p, v, h, r => by cases h; cases r; exact .int b
  | .str b, p, v, h, r => by cases h; cases r; exact .str b
  | .tup ts, p, v, h, r => by
    obtain ⟨a, vs, rfl, q, rr⟩ := r
    have h : (pyTs ts).map PyData.tuple = some p := h
    cases e : pyTs ts with
    | none => (rw [e] at h; cases h)
    | some ps =>
      rw [e] at h
      cases h
      exact .tup q.sq (dps_of ts ps vs e rr)
  | .lst ts, p, v, h, r => by
    obtain ⟨a, vs, rfl, f, q, rr⟩ := r
    have h : (pyTs ts).map PyData.list = some p := h
    cases e : pyTs ts with
    | none => (rw [e] at h; cases h)
    | some ps =>
      rw [e] at h
      cases h
      exact .lst (SqL.of q) (dps_of ts ps vs e rr)
  | .scr ts, p, v, h, r => by
    obtain ⟨a, vs, rfl, q, rr⟩ := r
    have h : (pyTs ts).map PyData.list = some p := h
    cases e : pyTs ts with
    | none => (rw [e] at h; cases h)
    | some ps =>
      rw [e] at h
      cases h
      exact .lst q.sq (dps_of ts ps vs e rr)
  | .glb _, p, v, h, r => by cases h
  | .ty _, p, v, h, r => by cases h
theorem dps_of {K : PySem.W.Frag} {F : Addr → Prop} {H : Hp} : ∀ (ts : List T) (ps : List PyData) (vs : List V), pyTs ts = some ps → RelTs K F H ts vs → DpAll K H vs ps
  | [], ps, vs, h, r => by cases h; cases r; exact .nil
  | t :: ts, ps, vs, h, r => by
    obtain ⟨v, u, rfl, r1, r2⟩ := r
    have h : ((pyT t).bind fun p => (pyTs ts).map (p :: ·)) = some ps := h
    cases e : pyT t with
    | none => (rw [e] at h; cases h)
    | some p =>
      rw [e] at h
      have h : (pyTs ts).map (p :: ·) = some ps := h
      cases e2 : pyTs ts with
      | none => rw [e2] at h; cases h
      | some qs =>
        rw [e2] at h
        cases h
        exact .cons (dp_of t p v e r1) (dps_of ts qs u e2 r2)
end
theorem dpD_of {K : PySem.W.Frag} {W : Wd} {H : Hp} {st : Sto} (R : Rl K W st H) {d : D} {p : PyData} {v : V} (h : pyD st d = some p) (r : RelD K W H d v) : Dp K H v p := by
  cases d with
  | t x => exact dp_of x p v h r
  | x => cases h
  | r n =>
    have h : ((items st (.r n)).bind fun ds => (plains ds).bind fun ts => (pyTs ts).map PyData.list) = some p := h
    cases e1 : items st (.r n) with
    | none => rw [e1] at h; cases h
    | some ds =>
      rw [e1] at h
      have h : ((plains ds).bind fun ts => (pyTs ts).map PyData.list) = some p := h
      cases e2 : plains ds with
      | none => rw [e2] at h; cases h
      | some ts =>
        rw [e2] at h
        have h : (pyTs ts).map PyData.list = some p := h
        cases e3 : pyTs ts with
        | none => rw [e3] at h; cases h
        | some ps =>
          rw [e3] at h
          cases h
          have r0 := r
          obtain ⟨a, e4, rfl⟩ := r
          have e1 : (match st[n]? with | some (.lst ds) => some ds | _ => none) = some ds := e1
          split at e1
          · rename_i ds' q
            cases e1
            obtain ⟨vs, q1, q2⟩ := R.live n a _ e4 q
            exact .lst (SqL.of q1) (dps_of ts ps vs e3 (relTs_of e2 q2))
          · cases e1
/-- == by plain values -/
def eqB (d e : D) (st : Sto) : Option Bool := match d, e with
  | .t .non, .t .non => some true
  | .t (.bl x), .t (.bl y) => some (decide (x = y))
  | .t (.int x), .t (.int y) => some (decide (x = y))
  | .t (.str x), .t (.str y) => some (decide (x = y))
  | .t .non, .t (.int _) => some false
  | .t .non, .t (.str _) => some false
  | .t .non, .t (.bl _) => some false
  | .t (.int _), .t .non => some false
  | .t (.str _), .t .non => some false
  | .t (.bl _), .t .non => some false
  | .t (.int _), .t (.str _) => some false
  | .t (.str _), .t (.int _) => some false
  | .t (.bl _), .t (.str _) => some false
  | .t (.str _), .t (.bl _) => some false
  | d, e => (pyD st d).bind fun p => (pyD st e).bind fun q => if (SeqAt.shaped p && SeqAt.shaped q) = true then some (PyData.eqv p q) else none
def eqM (d e : D) (st : Sto) : Option D := (eqB d e st).map bD
def neM (d e : D) (st : Sto) : Option D := (eqB d e st).map fun b => bD (!b)
theorem eqB_rel {K : PySem.W.Frag} {W : Wd} {H : Hp} {st : Sto} (R : Rl K W st H) {d e : D} {b : Bool} {x y : V} (h : eqB d e st = some b) (r1 : RelD K W H d x) (r2 : RelD K W H e y) :
    (scal x y = true ∧ decide (x = y) = b) ∨ ∃ p q, Dp K H x p ∧ Dp K H y q ∧ SeqAt.shaped p = true ∧ SeqAt.shaped q = true ∧ PyData.eqv p q = b := by
  unfold eqB at h
  split at h
  case h_15 =>
    right
    cases e1 : pyD st d with
    | none => rw [e1] at h; cases h
    | some p =>
      cases e2 : pyD st e with
      | none => rw [e1, e2] at h; cases h
      | some q =>
        rw [e1, e2] at h
        have h : (if (SeqAt.shaped p && SeqAt.shaped q) = true then some (PyData.eqv p q) else none) = some b := h
        split at h
        · rename_i c
          rw [Bool.and_eq_true] at c
          exact ⟨p, q, dpD_of R e1 r1, dpD_of R e2 r2, c.1, c.2, Option.some.inj h⟩
        · cases h
  all_goals (left; cases h; cases r1; cases r2; exact ⟨rfl, by first | rfl | simp⟩)
theorem o_eq (hu : X.A.units + 64 < cLine) : OpR X (compareOp .Eq) (rM X.K eqM) := by
  have ho : OpR X (compareOp .Eq) _ := OpR.or op_eq (op_eqD hu)
  refine op_of ho fun W st d e x y H Q z R r1 r2 h q => ?_
  unfold eqM at h
  cases e1 : eqB d e st with
  | none => rw [e1] at h; cases h
  | some b =>
    rw [e1] at h
    cases h
    rcases eqB_rel R e1 r1 r2 with ⟨h1, h2⟩ | ⟨p, k, h1, h2, h3, h4, h5⟩
    · exact .inl ⟨h1, by rw [h2]; exact q W H _ .refl R rfl⟩
    · exact .inr ⟨p, k, h1, h2, h3, h4, by rw [h5]; exact q W H _ .refl R rfl⟩
theorem o_ne (hu : X.A.units + 64 < cLine) : OpR X (compareOp .NotEq) (rM X.K neM) := by
  have ho : OpR X (compareOp .NotEq) _ := OpR.or op_ne (op_neD hu)
  refine op_of ho fun W st d e x y H Q z R r1 r2 h q => ?_
  unfold neM at h
  cases e1 : eqB d e st with
  | none => rw [e1] at h; cases h
  | some b =>
    rw [e1] at h
    cases h
    rcases eqB_rel R e1 r1 r2 with ⟨h1, h2⟩ | ⟨p, k, h1, h2, h3, h4, h5⟩
    · exact .inl ⟨h1, by rw [h2]; exact q W H _ .refl R rfl⟩
    · exact .inr ⟨p, k, h1, h2, h3, h4, by rw [h5]; exact q W H _ .refl R rfl⟩
/-! ### is -/
def isB (d e : D) : Option Bool := match d, e with
  | .t (.bl x), .t (.bl y) => some (decide (x = y))
  | .t .non, .t .non => some true
  | .t (.bl _), .t .non => some false
  | .t (.int _), .t .non => some false
  | .t (.str _), .t .non => some false
  | .t (.tup _), .t .non => some false
  | .t (.lst _), .t .non => some false
  | .r _, .t .non => some false
  | _, _ => none
def isM (d e : D) (_ : Sto) : Option D := (isB d e).map bD
def isntM (d e : D) (_ : Sto) : Option D := (isB d e).map fun b => bD (!b)
theorem isB_rel {K : PySem.W.Frag} {W : Wd} {H : Hp} {d e : D} {b : Bool} {x y : V} (h : isB d e = some b) (r1 : RelD K W H d x) (r2 : RelD K W H e y) :
    (∃ p q, x = .bl p ∧ y = .bl q ∧ decide (p = q) = b) ∨ (y = .non ∧ decide (x = .non) = b) := by
  unfold isB at h
  split at h
  · cases h; cases r1; cases r2; exact .inl ⟨_, _, rfl, rfl, rfl⟩
  · cases h; cases r1; cases r2; exact .inr ⟨rfl, rfl⟩
  · cases h; cases r1; cases r2; exact .inr ⟨rfl, rfl⟩
  · cases h; cases r1; cases r2; exact .inr ⟨rfl, rfl⟩
  · cases h; cases r1; cases r2; exact .inr ⟨rfl, rfl⟩
  · cases h; obtain ⟨a, vs, rfl, _⟩ := r1; cases r2; exact .inr ⟨rfl, rfl⟩
  · cases h; obtain ⟨a, vs, rfl, _⟩ := r1; cases r2; exact .inr ⟨rfl, rfl⟩
  · cases h; obtain ⟨a, _, rfl⟩ := r1; cases r2; exact .inr ⟨rfl, rfl⟩
  · cases h
theorem o_is : OpR X (compareOp .Is) (rM X.K isM) := by
  have ho : OpR X (compareOp .Is) _ := OpR.or op_is_bl op_isN
  refine op_of ho fun W st d e x y H Q z R r1 r2 h q => ?_
  unfold isM at h
  cases e1 : isB d e with
  | none => rw [e1] at h; cases h
  | some b =>
    rw [e1] at h
    cases h
    rcases isB_rel e1 r1 r2 with ⟨p, k, rfl, rfl, h2⟩ | ⟨rfl, h2⟩
    · exact .inl ⟨p, k, rfl, rfl, by rw [h2]; exact q W H _ .refl R rfl⟩
    · exact .inr ⟨rfl, by rw [h2]; exact q W H _ .refl R rfl⟩
theorem o_isnt : OpR X (compareOp .IsNot) (rM X.K isntM) := by
  have ho : OpR X (compareOp .IsNot) _ := OpR.or op_isnot_bl op_notN
  refine op_of ho fun W st d e x y H Q z R r1 r2 h q => ?_
  unfold isntM at h
  cases e1 : isB d e with
  | none => rw [e1] at h; cases h
  | some b =>
    rw [e1] at h
    cases h
    rcases isB_rel e1 r1 r2 with ⟨p, k, rfl, rfl, h2⟩ | ⟨rfl, h2⟩
    · exact .inl ⟨p, k, rfl, rfl, by rw [h2]; exact q W H _ .refl R rfl⟩
    · exact .inr ⟨rfl, by rw [h2]; exact q W H _ .refl R rfl⟩
/-! ### in -/
def tV : T → Option V
  | .non => some .non
  | .bl b => some (.bl b)
  | .int i => some (.int i)
  | .str x => some (.str x)
  | _ => none
def tVs : List D → Option (List V)
  | [] => some []
  | .t x :: r => (tV x).bind fun v => (tVs r).map (v :: ·)
  | .r _ :: _ => none
  | .x .. :: _ => none
theorem tV_rel {K : PySem.W.Frag} {F : Addr → Prop} {H : Hp} {t : T} {v w : V} (h : tV t = some v) (r : RelT K F H t w) : w = v ∧ flatV v = true := by
  cases t <;> cases h <;> cases r <;> exact ⟨rfl, rfl⟩
theorem tVs_rel {K : PySem.W.Frag} {W : Wd} {H : Hp} : ∀ {ds : List D} {vs ws : List V}, tVs ds = some vs → RelDs K W H ds ws → ws = vs ∧ vs.all flatV = true
  | [], vs, ws, h, r => by cases h; cases r; exact ⟨rfl, rfl⟩
  | .r n :: ds, vs, ws, h, r => by cases h
  | .x .. :: ds, vs, ws, h, r => by cases h
  | .t x :: ds, vs, ws, h, r => by
    obtain ⟨w, u, rfl, r1, r2⟩ := r
    have h : ((tV x).bind fun v => (tVs ds).map (v :: ·)) = some vs := h
    cases e : tV x with
    | none => (rw [e] at h; cases h)
    | some v =>
      rw [e] at h
      have h : (tVs ds).map (v :: ·) = some vs := h
      cases e2 : tVs ds with
      | none => rw [e2] at h; cases h
      | some us =>
        rw [e2] at h
        cases h
        obtain ⟨e3, f3⟩ := tV_rel e r1
        obtain ⟨e4, f4⟩ := tVs_rel e2 r2
        subst e3; subst e4
        exact ⟨rfl, by rw [List.all_cons, f3, f4]; rfl⟩
def inB (d e : D) (st : Sto) : Option Bool := match d, e with
  | .t (.str x), .t (.str y) => some (!(Builtin.Str.occurrences y x 0 y.length 1).isEmpty)
  | .t x, e => (tV x).bind fun v => (items st e).bind fun ds => (tVs ds).map fun vs => inV v vs
  | _, _ => none
def inM (d e : D) (st : Sto) : Option D := (inB d e st).map bD
def notInM (d e : D) (st : Sto) : Option D := (inB d e st).map fun b => bD (!b)
theorem inB_rel {K : PySem.W.Frag} {W : Wd} {H : Hp} {st : Sto} (R : Rl K W st H) {d e : D} {b : Bool} {x y : V} (h : inB d e st = some b) (r1 : RelD K W H d x) (r2 : RelD K W H e y) :
    (∃ i j, x = .str i ∧ y = .str j ∧ (!(Builtin.Str.occurrences j i 0 j.length 1).isEmpty) = b) ∨ ∃ p xs, y = .ref p ∧ (SqL K H p xs ∨ SqT K H p xs) ∧ flatV x = true ∧ xs.all flatV = true ∧ inV x xs = b := by
  unfold inB at h
  split at h
  · cases h; cases r1; cases r2; exact .inl ⟨_, _, rfl, rfl, rfl⟩
  · rename_i t _
    right
    cases e1 : tV t with
    | none => rw [e1] at h; cases h
    | some v =>
      cases e2 : items st e with
      | none => rw [e1, e2] at h; cases h
      | some ds =>
        rw [e1, e2] at h
        have h : (tVs ds).map (fun vs => inV v vs) = some b := h
        cases e3 : tVs ds with
        | none => rw [e3] at h; cases h
        | some vs =>
          rw [e3] at h
          cases h
          obtain ⟨a, ws, rfl, sq, rr⟩ := items_seq R e2 r2
          obtain ⟨rfl, f1⟩ := tV_rel e1 r1
          obtain ⟨rfl, f2⟩ := tVs_rel e3 rr
          exact ⟨a, _, rfl, sq, f1, f2, rfl⟩
  · cases h
theorem o_in : OpR X (compareOp .In) (rM X.K inM) := by
  have ho : OpR X (compareOp .In) _ := OpR.or op_in_str op_in_seq
  refine op_of ho fun W st d e x y H Q z R r1 r2 h q => ?_
  unfold inM at h
  cases e1 : inB d e st with
  | none => rw [e1] at h; cases h
  | some b =>
    rw [e1] at h
    cases h
    rcases inB_rel R e1 r1 r2 with ⟨p, k, rfl, rfl, h2⟩ | ⟨p, xs, rfl, h1, h2, h3, h4⟩
    · exact .inl ⟨p, k, rfl, rfl, by rw [h2]; exact q W H _ .refl R rfl⟩
    · exact .inr ⟨p, xs, rfl, h1, h2, h3, by rw [h4]; exact q W H _ .refl R rfl⟩
theorem o_notIn : OpR X (compareOp .NotIn) (rM X.K notInM) := by
  have ho : OpR X (compareOp .NotIn) _ := OpR.or op_notIn_str op_notIn_seq
  refine op_of ho fun W st d e x y H Q z R r1 r2 h q => ?_
  unfold notInM at h
  cases e1 : inB d e st with
  | none => rw [e1] at h; cases h
  | some b =>
    rw [e1] at h
    cases h
    rcases inB_rel R e1 r1 r2 with ⟨p, k, rfl, rfl, h2⟩ | ⟨p, xs, rfl, h1, h2, h3, h4⟩
    · exact .inl ⟨p, k, rfl, rfl, by rw [h2]; exact q W H _ .refl R rfl⟩
    · exact .inr ⟨p, xs, rfl, h1, h2, h3, by rw [h4]; exact q W H _ .refl R rfl⟩
end
end Mi
/-! Mir4 -/
namespace Mi
open L2 PySem PySem.Spec PyProof.Rows
section
variable {X : Cx} {Wx : WX} {a b c e o : Expr} {fa fb f : Env → Sto → Res D} {fs : List (Env → Sto → Res D)} {es : List Expr} {pos p p2 : Pos}

/-! ### subscripts -/
def ixM (d e : D) (st : Sto) : Option D := match d, e with
  | .t (.str x), .t (.int i) => if x.length ≤ LIM then (atI x.cps.toList i).map fun c => sD ⟨#[c]⟩ else none
  | d, .t (.int i) => (items st d).bind fun ds => atI ds i
  | _, _ => none
theorem atI_rel {K : PySem.W.Frag} {W : Wd} {H : Hp} {ds : List D} {vs : List V} {i : Int} {z : D} (r : RelDs K W H ds vs) (h : atI ds i = some z) : ∃ v, atI vs i = some v ∧ RelD K W H z v := by
  unfold atI at h
  cases q : ixN ds.length i with
  | none => rw [q] at h; cases h
  | some j =>
    rw [q] at h
    obtain ⟨v, e1, r1⟩ := relDs_get r (show ds[j]? = some z from h)
    refine ⟨v, ?_, r1⟩
    unfold atI
    rw [relDs_len r, q]
    exact e1
theorem x_ix : IxR X (rM X.K ixM) := by
  intro value slice pins s σ H x y v u Q I rx ry ⟨W, st, d, e, R, r1, r2, z, h, q⟩ hs
  unfold ixM at h
  split at h
  · split at h
    · rename_i t i hl
      cases r1; cases r2
      cases e1 : atI t.cps.toList i with
      | none => rw [e1] at h; cases h
      | some c =>
        rw [e1] at h
        cases h
        exact ix_str value slice pins s σ H _ _ v u Q I rx ry ⟨t, i, c, rfl, rfl, lim_size hl, e1, q W H _ .refl R rfl⟩ hs
    · cases h
  · rename_i i _
    cases r2
    cases e1 : items st d with
    | none => rw [e1] at h; cases h
    | some ds =>
      rw [e1] at h
      obtain ⟨a, vs, rfl, sq, rr⟩ := items_seq R e1 r1
      obtain ⟨w, e2, r3⟩ := atI_rel rr h
      have qq := q W H _ .refl R r3
      rcases sq with sq | sq
      · exact ix_list value slice pins s σ H _ _ v u Q I rx ry ⟨a, vs, i, w, rfl, rfl, sq, e2, qq⟩ hs
      · exact ix_tup value slice pins s σ H _ _ v u Q I rx ry ⟨a, vs, i, w, rfl, rfl, sq, e2, qq⟩ hs
  · cases h
theorem re_ix {g : D → D → Sto → Option D} (hr : IxR X (rM X.K g)) (ha : RE X Wx a fa) (hb : RE X Wx b fb) (hs : PlainIx b := by exact fun _ _ => rfl) : RE X Wx (.Subscript a b pos) (bin g fa fb) :=
  PE.conv (pe_ix hr ha hb hs) fun _ _ _ h => two h
/-! ### slices -/
def cutG {α : Type} (xs : List α) (lo hi : Option Int) : List α := (xs.drop (HT.sIx xs.length 0 lo)).take (HT.sIx xs.length xs.length hi - HT.sIx xs.length 0 lo)
theorem cutG_V (xs : List V) (lo hi : Option Int) : cutG xs lo hi = cutV xs lo hi := rfl
theorem relTs_cut {K : PySem.W.Frag} {F : Addr → Prop} {H : Hp} {ts : List T} {vs : List V} {lo hi : Option Int} (r : RelTs K F H ts vs) : RelTs K F H (cutG ts lo hi) (cutV vs lo hi) := by
  unfold cutG cutV
  rw [relTs_len r]
  exact relTs_take _ (relTs_drop _ r)
def tO (K : PySem.W.Frag) (Wx : WX) (f : Env → Sto → Res (Option Int)) : TO := fun σ H Q => ∃ W env st, Rl K W st H ∧ EnvR K W H env σ ∧
  (f env st).Holds (fun o st' => ∀ W' H', Ext W H W' H' → Rl K W' st' H' → Q o H') (OkX K W H fun c o H' => Wx c o σ H')
abbrev RO (X : Cx) (Wx : WX) (e : Option Expr) (f : Env → Sto → Res (Option Int)) : Prop := PO X e (tO X.K Wx f)
theorem PO.conv {e : Option Expr} {t t' : TO} (h : PO X e t) (g : ∀ σ H Q, t' σ H Q → t σ H Q) : PO X e t' := ⟨fun pins s σ H Q I q => h.run pins s σ H Q I (g σ H Q q)⟩
def oNone (_ : Env) (st : Sto) : Res (Option Int) := .ok none st
def oSome (f : Env → Sto → Res D) (env : Env) (st : Sto) : Res (Option Int) := (f env st).bind fun d st1 => match d with
  | .t (.int i) => .ok (some i) st1
  | _ => .bad
theorem ro_none : RO X Wx none oNone := PO.conv po_none fun σ H Q ⟨W, env, st, R, Ev, h⟩ => h W H .refl R
theorem ro_some (he : RE X Wx e f) : RO X Wx (some e) (oSome f) := by
  refine PO.conv (po_some he) fun σ H Q ⟨W, env, st, R, Ev, h⟩ => ⟨W, env, st, R, Ev, split h (fun d st1 h1 W1 H1 v E1 R1 r1 => ?_) fun C fs st' hx => hx⟩
  split at h1
  · cases r1; exact ⟨_, rfl, h1 W1 H1 E1 R1⟩
  · exact h1.elim
def slM (d : D) (lo hi : Option Int) (st : Sto) : Option D := match d with
  | .t (.tup ts) => some (.t (.tup (cutG ts lo hi)))
  | d => (lsq st d).bind fun ds => (plains ds).map fun ts => .t (.lst (cutG ts lo hi))
def sliceM (f : Env → Sto → Res D) (fl fh : Env → Sto → Res (Option Int)) (env : Env) (st : Sto) : Res D := (f env st).bind fun d st1 => (fl env st1).bind fun lo st2 => (fh env st2).bind fun hi st3 => optR (slM d lo hi st3) st3
theorem sIx_all {n : Nat} {lo hi : Option Int} (h : HT.sIx n 0 lo = 0 ∧ HT.sIx n n hi = n) {α : Type} {xs : List α} (hl : xs.length = n) : cutG xs lo hi = xs := by
  unfold cutG
  rw [hl, h.1, h.2, List.drop_zero, Nat.sub_zero, ← hl, List.take_length]
theorem sl_any : SlR X (fun x lo hi H Q => ∃ W st d, Rl X.K W st H ∧ RelD X.K W H d x ∧ ∃ z, slM d lo hi st = some z ∧ OkD X.K W H Q z st) := by
  intro pins s σ H x v vl vu lo hi sl Q I rx hs pl pu ⟨W, st, d, R, r1, z, h, q⟩
  unfold slM at h
  split at h
  · rename_i ts
    cases h
    obtain ⟨a, vs, rfl, sq, rr⟩ := id r1
    have l := relTs_len rr
    refine sl_tupA pins s σ H _ v vl vu lo hi sl Q I rx hs pl pu ⟨a, vs, rfl, sq.sq, fun hw => ?_, fun _ p hp => ?_⟩
    · refine q W H _ .refl R ?_
      rw [sIx_all hw l.symm]
      exact r1
    · exact q W _ _ (R.more hp) (R.rest hp) ⟨p, _, rfl, Or.inl upd_same, (R.more hp).relTs R _ _ (relTs_cut rr)⟩
  · cases e1 : lsq st d with
    | none => rw [e1] at h; cases h
    | some ds =>
      rw [e1] at h
      have h : (plains ds).map (fun ts => D.t (.lst (cutG ts lo hi))) = some z := h
      cases e2 : plains ds with
      | none => rw [e2] at h; cases h
      | some ts =>
        rw [e2] at h
        cases h
        obtain ⟨a, vs, rfl, nt, rr⟩ := lsq_rel R e1 r1
        exact sl_list pins s σ H _ v vl vu lo hi sl Q I rx hs pl pu ⟨a, vs, rfl, nt, fun p hp => q (W.fix p) _ _ (Ext.fix W hp) (R.fix hp) ⟨p, _, rfl, .inr rfl, upd_same, (Ext.fix W hp).relTs R _ _ (relTs_cut (relTs_of e2 rr))⟩⟩
theorem re_slice {lo hi : Option Expr} {fl fh : Env → Sto → Res (Option Int)} (he : RE X Wx e f) (hl : RO X Wx lo fl) (hh : RO X Wx hi fh) : RE X Wx (.Subscript e (.Slice lo hi none p2) pos) (sliceM f fl fh) := by
  refine PE.conv (pe_slice sl_any he hl hh) fun σ H Q ⟨W, env, st, R, Ev, h⟩ => ⟨W, env, st, R, Ev, split h (fun d st1 h1 W1 H1 v E1 R1 r1 => ?_) fun C fs st' hx => hx⟩
  refine ⟨W1, env, st1, R1, Ev.mono E1 R, split h1 (fun lo st2 h2 W2 H2 E2 R2 => ?_) fun C fs st' hx => hx.mono E1⟩
  refine ⟨W2, env, st2, R2, (Ev.mono E1 R).mono E2 R1, split h2 (fun hi st3 h3 W3 H3 E3 R3 => ?_) fun C fs st' hx => hx.mono (E1.trans E2)⟩
  obtain ⟨z, e1, q⟩ := optR_holds h3
  exact ⟨W3, st3, d, R3, (E2.trans E3).relD R1 r1, z, e1, q.mono (E1.trans (E2.trans E3))⟩

/-! ### built-in functions and types by name -/
def rC (K : PySem.W.Frag) (g : List D → Sto → Option D) : List V → Hp → VK → Prop := fun xs H Q => ∃ W st ds, Rl K W st H ∧ RelDs K W H ds xs ∧ ∃ z, g ds st = some z ∧ OkD K W H Q z st
def callB (g : List D → Sto → Option D) (fs : List (Env → Sto → Res D)) (env : Env) (st : Sto) : Res D := (argsM fs env st).bind fun ds st1 => optR (g ds st1) st1
theorem callB_conv {K : PySem.W.Frag} {g : List D → Sto → Option D} {σ : L2.St} {H : Hp} {Q : VK} (h : tE K Wx (callB g fs) σ H Q) : tCB (rC K g) (tA K Wx (argsM fs)) σ H Q := by
  obtain ⟨W, env, st, R, Ev, h⟩ := h
  refine ⟨W, env, st, R, Ev, split h (fun ds st1 h1 W1 H1 vs E1 R1 r1 => ?_) fun C fs st' hx => hx⟩
  obtain ⟨z, e1, q⟩ := optR_holds h1
  exact ⟨W1, st1, ds, R1, r1, z, e1, q.mono E1⟩
theorem re_callB {x : Str} {id : String} {g : List D → Sto → Option D} (hc : CallR X (.builtin id) (rC X.K g)) (hg : Gl X x) (hm : X.mg x = none) (hv : bootBuiltins x = some (.builtin id)) (ha : RA X Wx (e :: es) (argsM fs)) (hn : x ≠ "__name__" := by decide) (hdb : (x == ("__debug__" : Str)) = false := by decide)
    (he : starEach (e :: es) X.env = (false, eval e X.env) :: starEach es X.env := by rfl) (hpl : (backTo pos (starEach es X.env)).any (·.1) = false := by rfl) : RE X Wx (.Call (.Name x p) (e :: es) [] pos) (callB g fs) :=
  PE.conv (pe_callB hc hg hm hv ha hn hdb he hpl) fun _ _ _ h => callB_conv h
theorem re_callTy {x : Str} {n : String} {g : List D → Sto → Option D} (hc : CallR X (.type n) (rC X.K g)) (hg : Gl X x) (hm : X.mg x = none) (hv : bootBuiltins x = some (.type n)) (ha : RA X Wx (e :: es) (argsM fs)) (hn : x ≠ "__name__" := by decide) (hdb : (x == ("__debug__" : Str)) = false := by decide)
    (he : starEach (e :: es) X.env = (false, eval e X.env) :: starEach es X.env := by rfl) (hpl : (backTo pos (starEach es X.env)).any (·.1) = false := by rfl) : RE X Wx (.Call (.Name x p) (e :: es) [] pos) (callB g fs) :=
  PE.conv (pe_callTy hc hg hm hv ha hn hdb he hpl) fun _ _ _ h => callB_conv h
theorem call_of {fv : Value} {g : List D → Sto → Option D} {r : List V → Hp → VK → Prop} (ho : CallR X fv r)
    (h : ∀ W st ds xs H Q z, Rl X.K W st H → RelDs X.K W H ds xs → g ds st = some z → OkD X.K W H Q z st → r xs H Q) : CallR X fv (rC X.K g) := by
  intro pins s σ H xs us Q I rx ⟨W, st, ds, R, r1, z, e1, q⟩
  exact ho pins s σ H xs us Q I rx (h W st ds xs H Q z R r1 e1 q)
theorem rel1 {K : PySem.W.Frag} {W : Wd} {H : Hp} {d : D} {xs : List V} (r : RelDs K W H [d] xs) : ∃ v, xs = [v] ∧ RelD K W H d v := by
  obtain ⟨v, u, rfl, r1, rfl⟩ := r
  exact ⟨v, rfl, r1⟩
theorem rel2 {K : PySem.W.Frag} {W : Wd} {H : Hp} {d e : D} {xs : List V} (r : RelDs K W H [d, e] xs) : ∃ v w, xs = [v, w] ∧ RelD K W H d v ∧ RelD K W H e w := by
  obtain ⟨v, u, rfl, r1, w, u2, rfl, r2, rfl⟩ := r
  exact ⟨v, w, rfl, r1, r2⟩
def lenB (ds : List D) (st : Sto) : Option D := match ds with
  | [.t (.str x)] => if x.length ≤ LIM then some (iD x.length) else none
  | [d] => (items st d).map fun is => iD is.length
  | _ => none
theorem c_len : CallR X (.builtin "len") (rC X.K lenB) := call_of call_len fun W st ds xs H Q z R r h q => by
  unfold lenB at h
  split at h
  · split at h
    · rename_i x hl
      cases h
      obtain ⟨v, rfl, r1⟩ := rel1 r
      cases r1
      exact ⟨_, _, rfl, ⟨lim_size hl, rfl⟩, q W H _ .refl R rfl⟩
    · cases h
  · rename_i d _
    obtain ⟨v, rfl, r1⟩ := rel1 r
    cases e1 : items st d with
    | none => rw [e1] at h; cases h
    | some is =>
      rw [e1] at h
      cases h
      obtain ⟨a, vs, rfl, sq, rr⟩ := items_seq R e1 r1
      refine ⟨_, is.length, rfl, ?_, q W H _ .refl R rfl⟩
      rcases sq with sq | sq
      · exact .inl ⟨vs, sq, (relDs_len rr).symm⟩
      · exact .inr ⟨vs, sq, (relDs_len rr).symm⟩
  · cases h
def absB (ds : List D) (_ : Sto) : Option D := match ds with
  | [.t (.int i)] => some (iD (if i < 0 then -i else i))
  | _ => none
theorem c_abs : CallR X (.builtin "abs") (rC X.K absB) := call_of call_abs fun W st ds xs H Q z R r h q => by
  unfold absB at h
  split at h
  · cases h; obtain ⟨v, rfl, r1⟩ := rel1 r; cases r1; exact ⟨_, rfl, q W H _ .refl R rfl⟩
  · cases h
def intB (ds : List D) (_ : Sto) : Option D := match ds with
  | [.t (.int i)] => some (iD i)
  | [.t (.bl k)] => some (iD (if k then 1 else 0))
  | _ => none
theorem c_int : CallR X (.type "int") (rC X.K intB) := call_of call_int1 fun W st ds xs H Q z R r h q => by
  unfold intB at h
  split at h
  · cases h; obtain ⟨v, rfl, r1⟩ := rel1 r; cases r1; exact .inl ⟨_, rfl, q W H _ .refl R rfl⟩
  · cases h; obtain ⟨v, rfl, r1⟩ := rel1 r; cases r1; exact .inr ⟨_, rfl, q W H _ .refl R rfl⟩
  · cases h
/-- whole numbers, truth values of a list -/
def intsOf : List D → Option (List Int)
  | [] => some []
  | .t (.int i) :: r => (intsOf r).map (i :: ·)
  | _ => none
def blsOf : List D → Option (List Bool)
  | [] => some []
  | .t (.bl i) :: r => (blsOf r).map (i :: ·)
  | _ => none
theorem intsOf_rel {K : PySem.W.Frag} {W : Wd} {H : Hp} : ∀ {ds : List D} {ns : List Int} {vs : List V}, intsOf ds = some ns → RelDs K W H ds vs → vs = ns.map V.int
  | [], ns, vs, h, r => by cases h; exact r
  | d :: ds, ns, vs, h, r => by
    obtain ⟨v, u, rfl, r1, r2⟩ := r
    unfold intsOf at h
    split at h
    · rename_i heq; cases heq
    · rename_i i r' heq
      cases heq
      cases e : intsOf ds with
      | none => (rw [e] at h; cases h)
      | some ms =>
        rw [e] at h
        cases h
        cases r1
        rw [intsOf_rel e r2]; rfl
    · cases h
theorem blsOf_rel {K : PySem.W.Frag} {W : Wd} {H : Hp} : ∀ {ds : List D} {ns : List Bool} {vs : List V}, blsOf ds = some ns → RelDs K W H ds vs → vs = ns.map V.bl
  | [], ns, vs, h, r => by cases h; exact r
  | d :: ds, ns, vs, h, r => by
    obtain ⟨v, u, rfl, r1, r2⟩ := r
    unfold blsOf at h
    split at h
    · rename_i heq; cases heq
    · rename_i i r' heq
      cases heq
      cases e : blsOf ds with
      | none => (rw [e] at h; cases h)
      | some ms =>
        rw [e] at h
        cases h
        cases r1
        rw [blsOf_rel e r2]; rfl
    · cases h
def allB (ds : List D) (st : Sto) : Option D := match ds with
  | [d] => (lsq st d).bind fun is => (blsOf is).map fun bs => bD (bs.all id)
  | _ => none
def anyB (ds : List D) (st : Sto) : Option D := match ds with
  | [d] => (lsq st d).bind fun is => (blsOf is).map fun bs => bD (bs.any id)
  | _ => none
theorem c_all (hc : X.calm = true) : CallR X (.builtin "all") (rC X.K allB) := call_of (cr_all hc) fun W st ds xs H Q z R r h q => by
  unfold allB at h
  split at h
  · rename_i d
    obtain ⟨v, rfl, r1⟩ := rel1 r
    cases e1 : lsq st d with
    | none => rw [e1] at h; cases h
    | some is =>
      rw [e1] at h
      have h : (blsOf is).map (fun bs => bD (bs.all id)) = some z := h
      cases e2 : blsOf is with
      | none => rw [e2] at h; cases h
      | some bs =>
        rw [e2] at h
        cases h
        obtain ⟨a, vs, rfl, sq, rr⟩ := lsq_rel R e1 r1
        exact ⟨a, bs, rfl, by rw [← blsOf_rel e2 rr]; exact sq, q W H _ .refl R rfl⟩
  · cases h
theorem c_any (hc : X.calm = true) : CallR X (.builtin "any") (rC X.K anyB) := call_of (cr_any hc) fun W st ds xs H Q z R r h q => by
  unfold anyB at h
  split at h
  · rename_i d
    obtain ⟨v, rfl, r1⟩ := rel1 r
    cases e1 : lsq st d with
    | none => rw [e1] at h; cases h
    | some is =>
      rw [e1] at h
      have h : (blsOf is).map (fun bs => bD (bs.any id)) = some z := h
      cases e2 : blsOf is with
      | none => rw [e2] at h; cases h
      | some bs =>
        rw [e2] at h
        cases h
        obtain ⟨a, vs, rfl, sq, rr⟩ := lsq_rel R e1 r1
        exact ⟨a, bs, rfl, by rw [← blsOf_rel e2 rr]; exact sq, q W H _ .refl R rfl⟩
  · cases h
def sumB (ds : List D) (st : Sto) : Option D := match ds with
  | [d] => (lsq st d).bind fun is => (intsOf is).map fun bs => iD bs.sum
  | _ => none
theorem c_sum (hc : X.calm = true) : CallR X (.builtin "sum") (rC X.K sumB) := call_of (cr_sum hc) fun W st ds xs H Q z R r h q => by
  unfold sumB at h
  split at h
  · rename_i d
    obtain ⟨v, rfl, r1⟩ := rel1 r
    cases e1 : lsq st d with
    | none => rw [e1] at h; cases h
    | some is =>
      rw [e1] at h
      have h : (intsOf is).map (fun bs => iD bs.sum) = some z := h
      cases e2 : intsOf is with
      | none => rw [e2] at h; cases h
      | some bs =>
        rw [e2] at h
        cases h
        obtain ⟨a, vs, rfl, sq, rr⟩ := lsq_rel R e1 r1
        exact ⟨a, bs, rfl, by rw [← intsOf_rel e2 rr]; exact sq, q W H _ .refl R rfl⟩
  · cases h
/-- the greatest, the least -/
def top : List Int → Int
  | [] => 0
  | [x] => x
  | x :: y :: r => top ((if x < y then y else x) :: r)
termination_by l => l.length
def bot : List Int → Int
  | [] => 0
  | [x] => x
  | x :: y :: r => bot ((if y < x then y else x) :: r)
termination_by l => l.length
theorem top_mem : ∀ (n : Nat) (l : List Int), l.length = n + 1 → top l ∈ l ∧ ∀ y ∈ l, y ≤ top l
  | 0, [x], _ => by rw [top]; exact ⟨by simp, fun y h => by simp at h; omega⟩
  | n + 1, x :: y :: r, h => by
    rw [top]
    by_cases c : x < y
    · rw [if_pos c]
      obtain ⟨h1, h2⟩ := top_mem n (y :: r) (by simpa using h)
      refine ⟨List.mem_cons_of_mem _ h1, fun z hz => ?_⟩
      have h3 := h2 y List.mem_cons_self
      rcases List.mem_cons.mp hz with e | e
      · omega
      · exact h2 z e
    · rw [if_neg c]
      obtain ⟨h1, h2⟩ := top_mem n (x :: r) (by simpa using h)
      have h3 := h2 x List.mem_cons_self
      refine ⟨?_, fun z hz => ?_⟩
      · rcases List.mem_cons.mp h1 with e | e
        · rw [e]; exact List.mem_cons_self
        · exact List.mem_cons_of_mem _ (List.mem_cons_of_mem _ e)
      · rcases List.mem_cons.mp hz with e | e
        · omega
        · (rcases List.mem_cons.mp e with e | e)
          · omega
          · exact h2 z (List.mem_cons_of_mem _ e)
theorem bot_mem : ∀ (n : Nat) (l : List Int), l.length = n + 1 → bot l ∈ l ∧ ∀ y ∈ l, bot l ≤ y
  | 0, [x], _ => by rw [bot]; exact ⟨by simp, fun y h => by simp at h; omega⟩
  | n + 1, x :: y :: r, h => by
    rw [bot]
    by_cases c : y < x
    · rw [if_pos c]
      obtain ⟨h1, h2⟩ := bot_mem n (y :: r) (by simpa using h)
      refine ⟨List.mem_cons_of_mem _ h1, fun z hz => ?_⟩
      have h3 := h2 y List.mem_cons_self
      rcases List.mem_cons.mp hz with e | e
      · omega
      · exact h2 z e
    · rw [if_neg c]
      obtain ⟨h1, h2⟩ := bot_mem n (x :: r) (by simpa using h)
      have h3 := h2 x List.mem_cons_self
      refine ⟨?_, fun z hz => ?_⟩
      · rcases List.mem_cons.mp h1 with e | e
        · rw [e]; exact List.mem_cons_self
        · exact List.mem_cons_of_mem _ (List.mem_cons_of_mem _ e)
      · rcases List.mem_cons.mp hz with e | e
        · omega
        · (rcases List.mem_cons.mp e with e | e)
          · omega
          · exact h2 z (List.mem_cons_of_mem _ e)
def maxB (ds : List D) (st : Sto) : Option D := match ds with
  | [.t (.int i), .t (.int j)] => some (iD (if j > i then j else i))
  | [d] => (lsq st d).bind fun is => (intsOf is).bind fun bs => if 0 < bs.length then some (iD (top bs)) else none
  | _ => none
def minB (ds : List D) (st : Sto) : Option D := match ds with
  | [.t (.int i), .t (.int j)] => some (iD (if j < i then j else i))
  | [d] => (lsq st d).bind fun is => (intsOf is).bind fun bs => if 0 < bs.length then some (iD (bot bs)) else none
  | _ => none
theorem c_max (hc : X.calm = true) : CallR X (.builtin "max") (rC X.K maxB) := call_of (CallR.or (call_max2 hc) (cr_max hc)) fun W st ds xs H Q z R r h q => by
  unfold maxB at h
  split at h
  · cases h; obtain ⟨v, w, rfl, r1, r2⟩ := rel2 r; cases r1; cases r2; exact .inl ⟨_, _, rfl, q W H _ .refl R rfl⟩
  · rename_i d
    obtain ⟨v, rfl, r1⟩ := rel1 r
    cases e1 : lsq st d with
    | none => rw [e1] at h; cases h
    | some is =>
      rw [e1] at h
      have h : (intsOf is).bind (fun bs => if 0 < bs.length then some (iD (top bs)) else none) = some z := h
      cases e2 : intsOf is with
      | none => rw [e2] at h; cases h
      | some bs =>
        rw [e2] at h
        have h : (if 0 < bs.length then some (iD (top bs)) else none) = some z := h
        split at h
        · rename_i hl
          cases h
          obtain ⟨a, vs, rfl, sq, rr⟩ := lsq_rel R e1 r1
          refine .inr ⟨a, bs, rfl, by rw [← intsOf_rel e2 rr]; exact sq, hl, fun m hm hu => ?_⟩
          obtain ⟨k1, k2⟩ := top_mem (bs.length - 1) bs (by omega)
          have em : m = top bs := Int.le_antisymm (k2 m hm) (hu _ k1)
          rw [em]
          exact q W H _ .refl R rfl
        · cases h
  · cases h
theorem c_min (hc : X.calm = true) : CallR X (.builtin "min") (rC X.K minB) := call_of (CallR.or (call_min2 hc) (cr_min hc)) fun W st ds xs H Q z R r h q => by
  unfold minB at h
  split at h
  · cases h; obtain ⟨v, w, rfl, r1, r2⟩ := rel2 r; cases r1; cases r2; exact .inl ⟨_, _, rfl, q W H _ .refl R rfl⟩
  · rename_i d
    obtain ⟨v, rfl, r1⟩ := rel1 r
    cases e1 : lsq st d with
    | none => rw [e1] at h; cases h
    | some is =>
      rw [e1] at h
      have h : (intsOf is).bind (fun bs => if 0 < bs.length then some (iD (bot bs)) else none) = some z := h
      cases e2 : intsOf is with
      | none => rw [e2] at h; cases h
      | some bs =>
        rw [e2] at h
        have h : (if 0 < bs.length then some (iD (bot bs)) else none) = some z := h
        split at h
        · rename_i hl
          cases h
          obtain ⟨a, vs, rfl, sq, rr⟩ := lsq_rel R e1 r1
          refine .inr ⟨a, bs, rfl, by rw [← intsOf_rel e2 rr]; exact sq, hl, fun m hm hu => ?_⟩
          obtain ⟨k1, k2⟩ := bot_mem (bs.length - 1) bs (by omega)
          have em : m = bot bs := Int.le_antisymm (hu _ k1) (k2 m hm)
          rw [em]
          exact q W H _ .refl R rfl
        · cases h
  · cases h
/-- tuple(xs), list(xs) -/
def tupB (ds : List D) (st : Sto) : Option D := match ds with
  | [.t (.tup ts)] => some (.t (.tup ts))
  | [d] => (lsq st d).bind fun is => (plains is).map fun ts => .t (.tup ts)
  | _ => none
theorem c_tup : CallR X (.type "tuple") (rC X.K tupB) := call_of call_tuple_of fun W st ds xs H Q z R r h q => by
  unfold tupB at h
  split at h
  · rename_i ts
    cases h
    obtain ⟨v, rfl, r1⟩ := rel1 r
    obtain ⟨a, vs, rfl, sq, rr⟩ := id r1
    exact ⟨a, vs, rfl, .inr ⟨sq.sq, q W H _ .refl R r1⟩⟩
  · rename_i d _
    obtain ⟨v, rfl, r1⟩ := rel1 r
    cases e1 : lsq st d with
    | none => rw [e1] at h; cases h
    | some is =>
      rw [e1] at h
      have h : (plains is).map (fun ts => D.t (.tup ts)) = some z := h
      cases e2 : plains is with
      | none => rw [e2] at h; cases h
      | some ts =>
        rw [e2] at h
        cases h
        obtain ⟨a, vs, rfl, sq, rr⟩ := lsq_rel R e1 r1
        have rt := relTs_of e2 rr
        exact ⟨a, vs, rfl, .inl ⟨sq, fun p hp => q W _ _ (R.more hp) (R.rest hp) ⟨p, _, rfl, Or.inl upd_same, (R.more hp).relTs R _ _ rt⟩⟩⟩
  · cases h
def lstB (ds : List D) (st : Sto) : Option D := match ds with
  | [d] => (items st d).bind fun is => (plains is).map fun ts => .t (.lst ts)
  | _ => none
theorem c_lst : CallR X (.type "list") (rC X.K lstB) := call_of call_list_of fun W st ds xs H Q z R r h q => by
  unfold lstB at h
  split at h
  · rename_i d
    obtain ⟨v, rfl, r1⟩ := rel1 r
    cases e1 : items st d with
    | none => rw [e1] at h; cases h
    | some is =>
      rw [e1] at h
      have h : (plains is).map (fun ts => D.t (.lst ts)) = some z := h
      cases e2 : plains is with
      | none => rw [e2] at h; cases h
      | some ts =>
        rw [e2] at h
        cases h
        obtain ⟨a, vs, rfl, sq, rr⟩ := items_seq R e1 r1
        have rt := relTs_of e2 rr
        exact ⟨a, vs, rfl, sq, fun p hp => q (W.fix p) _ _ (Ext.fix W hp) (R.fix hp) ⟨p, _, rfl, .inr rfl, upd_same, (Ext.fix W hp).relTs R _ _ rt⟩⟩
  · cases h
/-! ### isinstance -/
def tyName (st : Sto) (d : D) : Option String := match d with
  | .t .non => some "NoneType"
  | .t (.bl _) => some "bool"
  | .t (.int _) => some "int"
  | .t (.str _) => some "str"
  | .t (.tup _) => some "tuple"
  | .t (.lst _) => some "list"
  | .t (.scr _) => some "list"
  | .t (.dk ..) => some "dict"
  | .t (.dt ..) => some "dict"
  | .r n => match st[n]? with
    |  some (.lst _) => some "list"
    | some (.dk ..) => some "dict"
    | some (.dt _) => some "dict"
    | _ => none
  | _ => none
def isaB (s n : String) : Option Bool := if n = "int" ∨ n = "str" ∨ n = "bool" ∨ n = "tuple" ∨ n = "list" ∨ n = "dict" ∨ n = "bytes" then some (decide (s = n) || (decide (s = "bool") && decide (n = "int"))) else none
def isaAll (s : String) : List T → Option Bool
  | [] => some false
  | .ty n :: r => (isaB s n).bind fun b => (isaAll s r).map fun c => b || c
  | _ => none
def isiB (ds : List D) (st : Sto) : Option D := match ds with
  | [d, .t (.ty n)] => (tyName st d).bind fun s => (isaB s n).map bD
  | [d, .t (.tup ts)] => (tyName st d).bind fun s => (isaAll s ts).map bD
  | _ => none
theorem isaB_ok {s n : String} {b : Bool} (h : isaB s n = some b) (hs : s = "NoneType" ∨ s = "bool" ∨ s = "int" ∨ s = "str" ∨ s = "tuple" ∨ s = "list" ∨ s = "dict") : kitB s n = some b := by
  unfold isaB at h
  split at h
  · rename_i hn
    cases h
    rcases hs with rfl | rfl | rfl | rfl | rfl | rfl | rfl <;> rcases hn with rfl | rfl | rfl | rfl | rfl | rfl | rfl <;> decide +kernel
  · cases h
theorem tyName_rel {K : PySem.W.Frag} {W : Wd} {H : Hp} {st : Sto} (R : Rl K W st H) {d : D} {s : String} {v : V} (h : tyName st d = some s) (r : RelD K W H d v) :
    (s = "NoneType" ∨ s = "bool" ∨ s = "int" ∨ s = "str" ∨ s = "tuple" ∨ s = "list" ∨ s = "dict") ∧ TyX K H v (.type s) := by
  cases d with
  | x => cases h
  | r n =>
    obtain ⟨a, e, rfl⟩ := r
    have h : (match st[n]? with | some (.lst _) => some "list" | some (.dk ..) => some "dict" | some (.dt _) => some "dict" | _ => none) = some s := h
    split at h
    · rename_i ds' q
      cases h
      obtain ⟨vs, q1, q2⟩ := R.live n a _ e q
      exact ⟨by simp, .base (.lst q1)⟩
    · rename_i lk kvs q
      cases h
      obtain ⟨vs, q1, q2⟩ := R.live n a _ e q
      refine ⟨by simp, ?_⟩
      cases lk with
      | true => rw [if_pos rfl] at q1; obtain ⟨o, q1⟩ := q1; exact .fDict q1
      | false => rw [if_neg (by decide)] at q1; exact .base (.dK q1)
    · rename_i kvs q
      cases h
      obtain ⟨vs, q1, q2⟩ := R.live n a _ e q
      exact ⟨by simp, .base (.dT q1)⟩
    · cases h
  | t x =>
    cases x with
    | non => cases h; cases r; exact ⟨by simp, .base .non⟩
    | bl b => cases h; cases r; exact ⟨by simp, .base (.bl b)⟩
    | int b => cases h; cases r; exact ⟨by simp, .base (.int b)⟩
    | str b => cases h; cases r; exact ⟨by simp, .base (.str b)⟩
    | tup ts =>
      cases h
      obtain ⟨a, vs, rfl, sq, rr⟩ := r
      refine ⟨by simp, ?_⟩
      rcases sq with sq | ⟨o, its, n, hk, hc, _⟩
      · exact .base (.tup sq)
      · exact .kTuple hk hc
    | lst ts =>
      cases h
      obtain ⟨a, vs, rfl, _, sq, rr⟩ := r
      exact ⟨by simp, .base (.lst sq)⟩
    | scr ts =>
      cases h
      obtain ⟨a, vs, rfl, q, rr⟩ := r
      refine ⟨by simp, ?_⟩
      rcases q with ⟨o, q⟩ | ⟨o, its, n, hk, hc, _⟩
      · exact .base (.frz q)
      · exact .kList hk hc
    | dk ks ts =>
      cases h
      obtain ⟨a, vs, rfl, _, q, _⟩ := r
      exact ⟨by simp, q.elim (fun q => .base (.dK q)) fun ⟨o, q⟩ => .fDict q⟩
    | dt ks ts =>
      cases h
      obtain ⟨a, vs, rfl, _, q, _⟩ := r
      exact ⟨by simp, .base (.dT q)⟩
    | _ => cases h
theorem isaAll_ok {K : PySem.W.Frag} {F : Addr → Prop} {H : Hp} {s : String} (hs : s = "NoneType" ∨ s = "bool" ∨ s = "int" ∨ s = "str" ∨ s = "tuple" ∨ s = "list" ∨ s = "dict") : ∀ {ts : List T} {vs : List V} {b : Bool}, isaAll s ts = some b → RelTs K F H ts vs →
    ∃ us, Paired ClsV vs us ∧ PySem.W.kitAny K (.type s) us = some b
  | [], vs, b, h, r => by cases h; cases r; exact ⟨[], .nil, kitAny_nil⟩
  | t :: ts, vs, b, h, r => by
    obtain ⟨v, u, rfl, r1, r2⟩ := r
    cases t with
    | ty n =>
      cases r1
      have h : ((isaB s n).bind fun b => (isaAll s ts).map fun c => b || c) = some b := h
      cases e1 : isaB s n with
      | none => rw [e1] at h; cases h
      | some k =>
        rw [e1] at h
        have h : ((isaAll s ts).map fun c => k || c) = some b := h
        cases e2 : isaAll s ts with
        | none => rw [e2] at h; cases h
        | some c =>
          rw [e2] at h
          cases h
          obtain ⟨us, p1, p2⟩ := isaAll_ok hs e2 r2
          refine ⟨.type n :: us, .cons (.ty n) p1, kitAny_cons (kit_ty (isaB_ok e1 hs)) (fun hk => ?_) (fun hk => ?_)⟩
          · rw [hk]; exact p2
          · rw [hk]; rfl
    | _ => cases h
theorem c_isi : CallR X (.builtin "isinstance") (rC X.K isiB) := call_of (CallR.or call_isi (CallR.or call_isiT call_isiK)) fun W st ds xs H Q z R r h q => by
  unfold isiB at h
  split at h
  · rename_i d n
    obtain ⟨v, w, rfl, r1, r2⟩ := rel2 r
    cases r2
    cases e1 : tyName st d with
    | none => rw [e1] at h; cases h
    | some s =>
      rw [e1] at h
      have h : (isaB s n).map bD = some z := h
      cases e2 : isaB s n with
      | none => rw [e2] at h; cases h
      | some b =>
        rw [e2] at h
        cases h
        obtain ⟨hs, ty⟩ := tyName_rel R e1 r1
        exact .inl ⟨v, .ty n, _, _, b, rfl, .ty n, ty, kit_ty (isaB_ok e2 hs), q W H _ .refl R rfl⟩
  · rename_i d ts
    obtain ⟨v, w, rfl, r1, r2⟩ := rel2 r
    cases e1 : tyName st d with
    | none => rw [e1] at h; cases h
    | some s =>
      rw [e1] at h
      have h : (isaAll s ts).map bD = some z := h
      cases e2 : isaAll s ts with
      | none => rw [e2] at h; cases h
      | some b =>
        rw [e2] at h
        cases h
        obtain ⟨hs, ty⟩ := tyName_rel R e1 r1
        obtain ⟨a, vs, rfl, sq, rr⟩ := r2
        obtain ⟨us, p1, p2⟩ := isaAll_ok hs e2 rr
        rcases sq with sq | ⟨o, its, n, hk, hc, hd, hz, hv⟩
        · exact .inr (.inl ⟨v, a, vs, _, us, b, rfl, sq, p1, ty, p2, q W H _ .refl R rfl⟩)
        · have ev := ClsV.all p1 hv
          obtain ⟨oc, od, dt, sl⟩ := o
          simp only at hc hd
          subst hc hd
          exact .inr (.inr ⟨v, a, od, us, n, sl, _, b, rfl, by rw [hk, ← ev], ty, p2, q W H _ .refl R rfl⟩)
  · cases h
end
end Mi
/-! Mir5 -/
namespace Mi
open L2 PySem PySem.Spec PyProof.Rows
section
variable {X : Cx} {Wx : WX} {a b c e o : Expr} {fa fb f fo fi : Env → Sto → Res D} {fs : List (Env → Sto → Res D)} {es : List Expr} {pos p p2 : Pos}

/-! ### methods of lists and texts -/
def rMt (K : PySem.W.Frag) (g : D → List D → Sto → Option (D × Sto)) : V → List V → Hp → VK → Prop := fun x xs H Q => ∃ W st d ds, Rl K W st H ∧ RelD K W H d x ∧ RelDs K W H ds xs ∧ ∃ z, g d ds st = some z ∧ OkD K W H Q z.1 z.2
def tyOk (n : String) (st : Sto) (d : D) : Bool := match d with
  | .t (.str _) => decide (n = "str")
  | .t (.lst _) => decide (n = "list")
  | .t (.scr _) => decide (n = "list")
  | .r m => decide (n = "list") && (items st (.r m)).isSome
  | _ => false
theorem tyOk_rel {K : PySem.W.Frag} {W : Wd} {H : Hp} {st : Sto} (R : Rl K W st H) {n : String} {d : D} {v : V} (h : tyOk n st d = true) (r : RelD K W H d v) : tyV K n v H := by
  unfold tyOk at h
  split at h
  · cases r
    have h2 : n = "str" := of_decide_eq_true h
    exact h2
  · obtain ⟨a, vs, rfl, _, q, rr⟩ := r
    exact .inl ⟨of_decide_eq_true h, vs, SqL.of q⟩
  · obtain ⟨a, vs, rfl, q, rr⟩ := r
    exact .inl ⟨of_decide_eq_true h, vs, q.sq⟩
  · rw [Bool.and_eq_true] at h
    cases e1 : items st (.r _) with
    | none => rw [e1] at h; cases h.2
    | some ds =>
      obtain ⟨a, vs, rfl, sq, rr⟩ := lsq_rel R (show lsq st (.r _) = some ds from e1) r
      exact .inl ⟨of_decide_eq_true h.1, vs, sq⟩
  · cases h
def optS (o : Option (D × Sto)) : Res D := match o with
  | some z => .ok z.1 z.2
  | none => .bad
def methM (n : String) (g : D → List D → Sto → Option (D × Sto)) (fo : Env → Sto → Res D) (fs : List (Env → Sto → Res D)) (env : Env) (st : Sto) : Res D := (fo env st).bind fun d st1 =>
  if tyOk n st1 d = true then (argsM fs env st1).bind fun ds st2 => optS (g d ds st2) else .bad
theorem optS_holds {o : Option (D × Sto)} {A : D → Sto → Prop} {B : Addr → List (Str × T) → Sto → Prop} (h : (optS o).Holds A B) : ∃ z, o = some z ∧ A z.1 z.2 := by
  cases o with
  | none => exact h.elim
  | some z => exact ⟨z, rfl, h⟩
variable {name : Str} {apos cpos : Pos} {id n : String} {g : D → List D → Sto → Option (D × Sto)}
theorem re_bm (pa : PlainAttrs n) (slot : Slot n name id) (hty : typeOf (.builtin id) = pure (.type "method_descriptor")) (hm : MtR X id (rMt X.K g)) (ho : RE X Wx o fo) (ha : RA X Wx (e :: es) (argsM fs))
    (hbase : attributeBase o name X.env (eval o X.env) = eval o X.env := by rfl) (hfew : ((backTo cpos (starEach (e :: es) X.env)).all (fun x => !x.1) && (backToKw cpos (keywordEach [] X.env)).all (fun x => x.1.isSome) && decide ((e :: es).length + ([] : List Keyword).length + (if ([] : List Keyword).isEmpty then 0 else 1) < 30)) = true := by rfl) (hline : (apos.endLine == cpos.line) = true := by rfl)
    (hs : starEach (e :: es) X.env = (false, eval e X.env) :: starEach es X.env := by rfl) (hplain : (backTo cpos (starEach es X.env)).any (·.1) = false := by rfl) :
    RE X Wx (.Call (.Attribute o name apos) (e :: es) [] cpos) (methM n g fo fs) := by
  refine PE.conv (pe_bm pa slot hty hm ho ha hbase hfew hline hs hplain) fun σ H Q ⟨W, env, st, R, Ev, h⟩ => ⟨W, env, st, R, Ev, split h (fun d st1 h1 W1 H1 v E1 R1 r1 => ?_) fun C fs st' hx => hx⟩
  split at h1
  · rename_i ht
    refine ⟨tyOk_rel R1 ht r1, W1, env, st1, R1, Ev.mono E1 R, Mi.split h1 (fun ds st2 h2 W2 H2 vs E2 R2 r2 => ?_) fun C fs st' hx => hx.mono E1⟩
    obtain ⟨z, e1, q⟩ := optS_holds h2
    exact ⟨W2, st2, d, ds, R2, E2.relD R1 r1, r2, z, e1, q.mono (E1.trans E2)⟩
  · exact h1.elim
theorem re_bm0 (pa : PlainAttrs n) (slot : Slot n name id) (hty : typeOf (.builtin id) = pure (.type "method_descriptor")) (hm : MtR X id (rMt X.K g)) (ho : RE X Wx o fo)
    (hbase : attributeBase o name X.env (eval o X.env) = eval o X.env := by rfl) (hline : (apos.endLine == cpos.line) = true := by rfl) : RE X Wx (.Call (.Attribute o name apos) [] [] cpos) (methM n g fo []) := by
  refine PE.conv (pe_bm0 pa slot hty hm ho hbase hline) fun σ H Q ⟨W, env, st, R, Ev, h⟩ => ⟨W, env, st, R, Ev, split h (fun d st1 h1 W1 H1 v E1 R1 r1 => ?_) fun C fs st' hx => hx⟩
  split at h1
  · rename_i ht
    refine ⟨tyOk_rel R1 ht r1, ?_⟩
    obtain ⟨z, e1, q⟩ := optS_holds (show (optS (g d [] st1)).Holds _ _ from h1)
    exact ⟨W1, st1, d, [], R1, r1, rfl, z, e1, q.mono E1⟩
  · exact h1.elim
/-- l.append(x) -/
def appG (d : D) (ds : List D) (st : Sto) : Option (D × Sto) := match d, ds with
  | .r n, [x] => match st[n]? with
    | some (.lst xs) => if xs.length < LIM then some (.t .non, st.set n (.lst (xs ++ [x]))) else none
    | _ => none
  | _, _ => none
theorem m_append : MtR X "list.append" (rMt X.K appG) := by
  intro pins s σ H x xs v us Q I rx rs ⟨W, st, d, ds, R, r1, r2, z, h, q⟩
  unfold appG at h
  split at h
  · rename_i n y
    split at h
    · rename_i ys hn
      split at h
      · rename_i hl
        cases h
        obtain ⟨w, rfl, r3⟩ := rel1 r2
        obtain ⟨p, vs, rfl, hp, hH, rr⟩ := rel_lst R hn r1
        refine mt_append pins s σ H _ _ v us Q I rx rs ⟨p, vs, w, rfl, rfl, hH, ?_, ?_⟩
        · rw [relDs_len rr]; exact lim_lt (Nat.le_of_lt hl)
        · exact q W _ _ (Ext.put hp hH) (R.put (ds := ys) hp hH (relDs_append rr ⟨w, [], rfl, r3, rfl⟩)) rfl
      · cases h
    · cases h
  · cases h
/-- l.extend(xs) -/
def extG (d : D) (ds : List D) (st : Sto) : Option (D × Sto) := match d, ds with
  | .r n, [x] => match st[n]? with
    | some (.lst xs) => (litems st x).bind fun ys => if xs.length + ys.length ≤ LIM then some (.t .non, st.set n (.lst (xs ++ ys))) else none
    | _ => none
  | _, _ => none
theorem m_extend : MtR X "list.extend" (rMt X.K extG) := by
  intro pins s σ H x xs v us Q I rx rs ⟨W, st, d, ds, R, r1, r2, z, h, q⟩
  unfold extG at h
  split at h
  · rename_i n y
    split at h
    · rename_i ys hn
      cases e1 : litems st y with
      | none => rw [e1] at h; cases h
      | some zs =>
        rw [e1] at h
        have h : (if ys.length + zs.length ≤ LIM then some (D.t .non, st.set n (.lst (ys ++ zs))) else none) = some z := h
        split at h
        · rename_i hl
          cases h
          obtain ⟨w, rfl, r3⟩ := rel1 r2
          obtain ⟨p, vs, rfl, hp, hH, rr⟩ := rel_lst R hn r1
          obtain ⟨p2, ws, rfl, hH2, rr2⟩ := litems_rel R e1 r3
          refine mt_extend pins s σ H _ _ v us Q I rx rs ⟨p, p2, vs, ws, rfl, rfl, hH, hH2, ?_, ?_⟩
          · rw [relDs_len rr, relDs_len rr2]; exact lim_size hl
          · exact q W _ _ (Ext.put hp hH) (R.put (ds := ys) hp hH (relDs_append rr rr2)) rfl
        · cases h
    · cases h
  · cases h
/-- l.pop() -/
def popG (d : D) (ds : List D) (st : Sto) : Option (D × Sto) := match d, ds with
  | .r n, [] => match st[n]? with
    | some (.lst xs) => (xs[xs.length - 1]?).map fun y => (y, st.set n (.lst xs.dropLast))
    | _ => none
  | _, _ => none
theorem m_pop : MtR X "list.pop" (rMt X.K popG) := by
  intro pins s σ H x xs v us Q I rx rs ⟨W, st, d, ds, R, r1, r2, z, h, q⟩
  unfold popG at h
  split at h
  · rename_i n
    split at h
    · rename_i ys hn
      cases e1 : ys[ys.length - 1]? with
      | none => rw [e1] at h; cases h
      | some y =>
        rw [e1] at h
        cases h
        obtain rfl : xs = [] := r2
        obtain ⟨p, vs, rfl, hp, hH, rr⟩ := rel_lst R hn r1
        obtain ⟨w, e2, r3⟩ := relDs_get rr e1
        refine mt_pop pins s σ H _ _ v us Q I rx rs ⟨p, vs, w, rfl, rfl, hH, by rw [relDs_len rr]; exact e2, ?_⟩
        have E : Ext W H W (upd H p (.lst vs.dropLast)) := Ext.put hp hH
        exact q W _ _ E (R.put (ds := ys) hp hH (relDs_dropLast rr)) (E.relD R r3)
    · cases h
  · cases h
/-- l[i] = x -/
def setItM (fo fi f : Env → Sto → Res D) (env : Env) (st : Sto) : Out := (f env st).out env fun x s => (fo env s).out env fun d s1 => (fi env s1).out env fun i s2 => match d, i with
  | .r n, .t (.int k) => match s2[n]? with
    | some (.lst xs) => match ixN xs.length k with
      | some j => .nx env (s2.set n (.lst (xs.set j x)))
      | none => .bad
    | _ => .bad
  | _, _ => .bad
theorem rs_setItem {i : Expr} {tpos : Pos} (ho : RE X Wx o fo) (hi : RE X Wx i fi) (he : RE X Wx e f) (hs : swapsWithSole [.Subscript o i tpos] e pos.line X.env = pure false := by rfl) (hw : swappedStores [.Subscript o i tpos] e X.env = pure none := by rfl)
    (h1 : (assignEach [.Subscript o i tpos] X.env).map (·.2) = [assign (.Subscript o i tpos) X.env] := by rfl)
    (ha : ∀ v, assign (.Subscript o i tpos) X.env v = (do let ov ← holding [v] (eval o X.env); let iv ← holding [v, ov] (eval i X.env); standAt tpos; holding [v, ov, iv] (setItem ov iv v); release [v, ov, iv] []) := by intro _; rfl) : RS X Wx (.Assign [.Subscript o i tpos] e pos) (setItM fo fi f) := by
  refine PS.conv (ps_asg he (pg_sub ho hi set_list ha) hs hw h1) fun E σ H ⟨W, env, st, R, Ev, h⟩ => ⟨W, env, st, R, Ev, out_split h Ev R fun x s h1 W1 H1 v E1 R1 r1 => ?_⟩
  have Ev1 := Ev.mono E1 R
  refine ⟨W1, env, s, R1, Ev1, out_split (Out.Holds.mono h1 E1) Ev1 R1 fun d s1 h2 W2 H2 w E2 R2 r2 => ?_⟩
  have Ev2 := Ev1.mono E2 R1
  refine ⟨W2, env, s1, R2, Ev2, out_split (Out.Holds.mono h2 E2) Ev2 R2 fun i s2 h3 W3 H3 u E3 R3 r3 => ?_⟩
  split at h3
  · rename_i n k
    split at h3
    · rename_i xs hn
      split at h3
      · rename_i j hj
        cases r3
        obtain ⟨p, vs, e4, hp, hH, rr⟩ := rel_lst R3 hn (E3.relD R2 r2)
        subst e4
        refine ⟨p, vs, k, j, rfl, rfl, hH, by rw [relDs_len rr]; exact hj, ?_⟩
        have E4 : Ext W3 H3 W3 (upd H3 p (.lst (vs.set j v))) := Ext.put hp hH
        exact h3 W3 σ _ (E3.trans E4) (R3.put (ds := xs) hp hH (relDs_set j rr (E3.relD R2 (E2.relD R1 r1)))) ((Ev2.mono E3 R2).mono E4 R3)
      · exact h3.elim
    · exact h3.elim
  · exact h3.elim

/-! ### comprehensions -/
def wipeE (env : Env) : List Nat → Env
  | [] => env
  | v :: vs => (wipeE env vs).set v none
theorem wipeE_len (env : Env) : ∀ vs : List Nat, (wipeE env vs).length = env.length
  | [] => rfl
  | v :: vs => by unfold wipeE; rw [List.length_set, wipeE_len env vs]
theorem wipeE_some {env : Env} {i : Nat} {x : D} : ∀ {vs : List Nat}, (wipeE env vs)[i]? = some (some x) → env[i]? = some (some x) ∧ i ∉ vs
  | [], h => ⟨h, by simp⟩
  | v :: vs, h => by
    unfold wipeE at h
    by_cases hi : v = i
    · subst hi
      by_cases hv : v < (wipeE env vs).length
      · (rw [List.getElem?_set_self hv] at h; cases h)
      · (rw [List.getElem?_eq_none (by simpa using hv)] at h; cases h)
    · (rw [List.getElem?_set_ne hi] at h)
      obtain ⟨h1, h2⟩ := wipeE_some h
      (exact ⟨h1, by simp only [List.mem_cons, not_or]; exact ⟨fun e => hi e.symm, h2⟩⟩)
theorem EnvR.wipe {K : PySem.W.Frag} {W : Wd} {H : Hp} {env : Env} {σ : L2.St} (h : EnvR K W H env σ) (vs : List Nat) : EnvR K W H (wipeE env vs) (wipe σ vs) := by
  refine ⟨by rw [wipe_length, wipeE_len]; exact h.len, fun i d q => ?_⟩
  obtain ⟨h1, h2⟩ := wipeE_some q
  obtain ⟨v, e, r⟩ := h.get i d h1
  exact ⟨v, by rw [wipe_out h2]; exact e, r⟩
theorem wipe_in {σ : L2.St} {i : Nat} (hl : i < σ.length) : ∀ {vs : List Nat}, i ∈ vs → (wipe σ vs)[i]? = some none
  | v :: vs, h => by
    unfold wipe
    by_cases e : v = i
    · subst e; exact List.getElem?_set_self (by rw [wipe_length]; exact hl)
    · rw [List.getElem?_set_ne e]
      exact wipe_in hl ((List.mem_cons.mp h).resolve_left fun z => e z.symm)
theorem Agree.wipe {vs : List Nat} {σ σ' : L2.St} (h : Agree vs (L2.wipe σ vs) σ') : L2.wipe σ' vs = L2.wipe σ vs := by
  apply List.ext_getElem?
  intro i
  have hl : σ'.length = σ.length := by rw [h.1, wipe_length]
  by_cases hi : i ∈ vs
  · by_cases hb : i < σ.length
    · rw [wipe_in (by omega) hi, wipe_in hb hi]
    · rw [List.getElem?_eq_none (by rw [wipe_length]; omega), List.getElem?_eq_none (by rw [wipe_length]; omega)]
  · rw [wipe_out hi]
    exact h.2 i hi
def lcI (ga : D → Env → Option Env) (gt : Env → Sto → Res Bool) (fe : Env → Sto → Res D) (it : ItM) (env0 : Env) : Nat → Nat → Sto → List D → Option (List D × Sto)
  | 0, i, st, acc => match it.nth st i with
    | some none => some (acc, st)
    | _ => none
  | m + 1, i, st, acc => match it.nth st i with
    | some none => some (acc, st)
    | some (some d) => match ga d env0 with
      | some env1 => match gt env1 st with
        | .ok true st1 => match fe env1 st1 with
          | .ok z st2 => if acc.length < LIM then lcI ga gt fe it env0 m (i + 1) st2 (acc ++ [z]) else none
          | _ => none
        | .ok false st1 => lcI ga gt fe it env0 m (i + 1) st1 acc
        | _ => none
      | none => none
    | none => none
/-- [..]: a plain list; a list that will be changed -/
def lcM (us : List Nat) (fi : Env → Sto → Res ItM) (ga : D → Env → Option Env) (gt : Env → Sto → Res Bool) (fe : Env → Sto → Res D) (env : Env) (st : Sto) : Res D := (fi env st).bind fun it s =>
  match lcI ga gt fe it (wipeE env us) it.most 0 s [] with
  | some (acc, s2) => optR ((plains acc).map fun ts => .t (.lst ts)) s2
  | none => .bad
def lcN (us : List Nat) (fi : Env → Sto → Res ItM) (ga : D → Env → Option Env) (gt : Env → Sto → Res Bool) (fe : Env → Sto → Res D) (env : Env) (st : Sto) : Res D := (fi env st).bind fun it s =>
  match lcI ga gt fe it (wipeE env us) it.most 0 s [] with
  | some (acc, s2) => .ok (.r s2.length) (s2 ++ [.lst acc])
  | none => .bad
def W0 : WX := fun _ _ _ _ => False
/-- the world within a comprehension: the new list at L is nobody's -/
structure LcW (K : PySem.W.Frag) (W1 : Wd) (H1 : Hp) (L : Addr) (W : Wd) (st : Sto) (H : Hp) (acc : List D) (vs : List V) : Prop where
  E : Ext W1 H1 W H
  R : Rl K W st H
  at_ : H L = some (.lst vs)
  nr : L ∉ W.ρ
  nF : ¬ W.F L
  rr : RelDs K W H acc vs
theorem LcW.step {K : PySem.W.Frag} {W1 W W' : Wd} {H1 H H' : Hp} {L : Addr} {st st' : Sto} {acc : List D} {vs : List V} (w : LcW K W1 H1 L W st H acc vs) (E : Ext W H W' H') (R : Rl K W' st' H') : LcW K W1 H1 L W' st' H' acc vs := by
  refine ⟨w.E.trans E, R, E.keep _ _ w.at_ w.nr, fun hm => ?_, fun hm => ?_, E.relDs w.R w.rr⟩
  · rcases E.new _ hm with h | h
    · exact w.nr h
    · rw [w.at_] at h; cases h
  · rcases E.nF _ hm with h | h
    · exact w.nF h
    · rw [w.at_] at h; cases h
theorem LcW.put {K : PySem.W.Frag} {W1 W : Wd} {H1 H : Hp} {L : Addr} {st : Sto} {acc : List D} {vs : List V} {z : D} {y : V} (w : LcW K W1 H1 L W st H acc vs) (hL : H1 L = none) (r : RelD K W H z y) : LcW K W1 H1 L W st (upd H L (.lst (vs ++ [y]))) (acc ++ [z]) (vs ++ [y]) := by
  have k : KeepT W.F H W.F (upd H L (.lst (vs ++ [y]))) := ⟨fun _ h => h, fun a xs f q => by rw [upd_ne (fun e => w.nF (by rw [← e]; exact f))]; exact q, fun a xs q => by
    rw [upd_ne (fun e => by subst e; rw [w.at_] at q; cases q)]; exact q, fun a o xs q => by
    rw [upd_ne (fun e => by subst e; rw [w.at_] at q; cases q)]; exact q, fun a xs q => by
    rw [upd_ne (fun e => by subst e; rw [w.at_] at q; cases q)]; exact q⟩
  have R : Rl K W st (upd H L (.lst (vs ++ [y]))) := w.R.keep k rfl (fun a ha => upd_ne fun e => w.nr (by rw [← e]; exact ha)) w.R.sep fun a ha => by
    obtain ⟨xs, q⟩ := w.R.fz a ha
    exact ⟨xs, by rw [upd_ne (fun e => w.nF (by rw [← e]; exact ha))]; exact q⟩
  refine ⟨⟨w.E.pre, w.E.new, w.E.fF, w.E.nF, fun a u q hm => by rw [upd_ne (ne_of_none q hL)]; exact w.E.keep a u q hm, fun a u q => ?_, fun a o kvs q => by rw [upd_ne (ne_of_none q hL)]; exact w.E.lk a o kvs q⟩, R, upd_same, w.nr, w.nF, ?_⟩
  · obtain ⟨u', q'⟩ := w.E.there a u q
    exact ⟨u', by rw [upd_ne (ne_of_none q hL)]; exact q'⟩
  · exact k.relDs (List.prefix_refl _) (relDs_append w.rr ⟨y, [], rfl, r, rfl⟩)
/-- the core: from any world the turns lead to the end -/
theorem lc_run {K : PySem.W.Frag} {tg : TG} {tt : TT} {te : TE} {us : List Nat} {ga : D → Env → Option Env} {gt : Env → Sto → Res Bool} {fe : Env → Sto → Res D} {σ : L2.St} {W1 : Wd} {H1 : Hp} {J : It} {it : ItM} {env : Env} {s : Sto} {Q : VK}
    (hg : tg = tG K us ga) (ht : tt = tT K W0 gt) (he : te = tE K W0 fe) (R1 : Rl K W1 s H1) (Ev : EnvR K W1 H1 env σ) (j : JOk K J it W1 H1) {acc' : List D} {s' : Sto} (hr : lcI ga gt fe it (wipeE env us) it.most 0 s [] = some (acc', s'))
    (fin : ∀ L W H vs, H1 L = none → LcW K W1 H1 L W s' H acc' vs → Q (.ref L) H) :
    ∀ D, H1 D = none → ∃ Wn : Nat → Nat → Hp → Prop, (∃ m, Wn 0 m (upd H1 D (.lst []))) ∧ ∀ i m H, Wn i m H →
      (J.stop i H ∧ Q (.ref D) H) ∨ (J.go i H ∧ ∃ Nx : Hp → Prop, (∀ H', Nx H' → ∃ m', m' < m ∧ Wn (i + 1) m' H') ∧ ∀ x H', J.yld i H x H' → tg x (wipe σ us) H' fun σ2 H2 => wipe σ2 us = wipe σ us ∧ tt σ2 H2 fun b H3 => if b = true then te σ2 H3 fun y H4 => ∃ acc, H4 D = some (.lst acc) ∧ acc.length < sizeLine ∧ Nx (upd H4 D (.lst (acc ++ [y]))) else Nx H3) := by
  subst hg ht he
  intro L hL
  refine ⟨fun i m H => ∃ W st acc vs, LcW K W1 H1 L W st H acc vs ∧ lcI ga gt fe it (wipeE env us) m i st acc = some (acc', s'), ⟨it.most, W1, s, [], [], ⟨R1.more hL, R1.rest hL, upd_same, fun hm => ?_, fun hf => ?_, rfl⟩, hr⟩, ?_⟩
  · obtain ⟨u, q⟩ := R1.mem hm; rw [hL] at q; cases q
  · obtain ⟨u, q⟩ := R1.fz _ hf; rw [hL] at q; cases q
  rintro i m H ⟨W, st, acc, vs, w, h⟩
  obtain ⟨j1, j2⟩ := j W H st i w.E w.R
  have stop : it.nth st i = some none → lcI ga gt fe it (wipeE env us) m i st acc = some (acc, st) := fun q => by
    cases m with
    | zero => unfold lcI; rw [q]
    | succ m => unfold lcI; rw [q]
  cases q : it.nth st i with
  | none =>
    exfalso
    cases m with
    | zero => unfold lcI at h; rw [q] at h; cases h
    | succ m => unfold lcI at h; rw [q] at h; cases h
  | some od =>
    cases od with
    | none =>
      rw [stop q] at h
      cases h
      exact .inl ⟨j1 q, fin L W H vs hL w⟩
    | some d =>
      cases m with
      | zero => exfalso; unfold lcI at h; rw [q] at h; cases h
      | succ m =>
        obtain ⟨jg, jy⟩ := j2 d q
        refine .inr ⟨jg, fun H' => ∃ W st acc vs, LcW K W1 H1 L W st H' acc vs ∧ lcI ga gt fe it (wipeE env us) m (i + 1) st acc = some (acc', s'), fun H' h => ⟨m, Nat.lt_succ_self m, h⟩, fun x H3 hy => ?_⟩
        obtain ⟨W3, E3, R3, r3⟩ := jy x H3 hy
        have w3 := w.step E3 R3
        unfold lcI at h
        simp only [q] at h
        cases q2 : ga d (wipeE env us) with
        | none => rw [q2] at h; cases h
        | some env1 =>
          simp only [q2] at h
          refine ⟨W3, wipeE env us, st, d, env1, R3, (Ev.mono w3.E R1).wipe us, r3, q2, fun σ3 Ev3 ag => ⟨ag.wipe, W3, env1, st, R3, Ev3, ?_⟩⟩
          cases q3 : gt env1 st with
          | bad => simp only [q3] at h; cases h
          | exc C x y => simp only [q3] at h; cases h
          | ok k st1 =>
            intro W4 H4 E4 R4
            have w4 := w3.step E4 R4
            cases k with
            | false =>
              simp only [q3] at h
              exact ite_ff ⟨W4, st1, acc, vs, w4, h⟩
            | true =>
              simp only [q3] at h
              refine ite_tt ⟨W4, env1, st1, R4, Ev3.mono E4 R3, ?_⟩
              cases q4 : fe env1 st1 with
              | bad => simp only [q4] at h; cases h
              | exc C x y => simp only [q4] at h; cases h
              | ok z st2 =>
                simp only [q4] at h
                split at h
                · rename_i hl
                  intro W5 H5 y E5 R5 r5
                  have w5 := w4.step E5 R5
                  exact ⟨vs, w5.at_, by rw [relDs_len w5.rr]; exact lim_lt (Nat.le_of_lt hl), W5, st2, acc ++ [z], vs ++ [y], w5.put hL r5, h⟩
                · cases h
theorem LcW.fixed {K : PySem.W.Frag} {W1 W : Wd} {H1 H : Hp} {L : Addr} {st : Sto} {acc : List D} {vs : List V} (w : LcW K W1 H1 L W st H acc vs) (hL : H1 L = none) : Ext W1 H1 (W.fix L) H ∧ Rl K (W.fix L) st H ∧ KeepT W.F H (W.fix L).F H := by
  have k : KeepT W.F H (W.fix L).F H := ⟨fun _ h => .inl h, fun _ _ _ q => q, fun _ _ q => q, fun _ _ _ q => q, fun _ _ q => q⟩
  refine ⟨⟨w.E.pre, w.E.new, fun a h => .inl (w.E.fF a h), fun a h => ?_, w.E.keep, w.E.there, w.E.lk⟩, ?_, k⟩
  · rcases h with h | h
    · exact w.E.nF a h
    · rw [h]; exact .inr hL
  · exact w.R.keep k rfl (fun _ _ => rfl) (fun a ha h => h.elim (w.R.sep a ha) fun e => w.nr (by rw [← e]; exact ha)) fun a ha => by
      rcases ha with ha | rfl
      · exact w.R.fz a ha
      · exact ⟨_, w.at_⟩
theorem LcW.added {K : PySem.W.Frag} {W1 W : Wd} {H1 H : Hp} {L : Addr} {st : Sto} {acc : List D} {vs : List V} (w : LcW K W1 H1 L W st H acc vs) (hL : H1 L = none) : Ext W1 H1 (W.add L) H ∧ Rl K (W.add L) (st ++ [.lst acc]) H := by
  have k : KeepT W.F H (W.add L).F H := ⟨fun _ h => h, fun _ _ _ q => q, fun _ _ q => q, fun _ _ _ q => q, fun _ _ q => q⟩
  have pre : W.ρ <+: (W.add L).ρ := List.prefix_append _ _
  refine ⟨⟨w.E.pre.trans pre, fun a h => ?_, w.E.fF, w.E.nF, w.E.keep, w.E.there, w.E.lk⟩, ?_, ?_, fun n a o h1 h2 => ?_, fun a ha h => ?_, w.R.fz⟩
  · (rcases List.mem_append.mp h with h | h)
    · exact w.E.new a h
    · rw [List.mem_singleton] at h; rw [h]; exact .inr hL
  · show (W.ρ ++ [L]).length = _
    rw [List.length_append, List.length_append, w.R.len]; rfl
  · show (W.ρ ++ [L]).Nodup
    rw [List.nodup_append]
    exact ⟨w.R.nd, by simp, fun a ha b hb e => by rw [List.mem_singleton] at hb; subst hb; subst e; exact w.nr ha⟩
  · have h1 : (W.ρ ++ [L])[n]? = some a := h1
    by_cases hn : n < W.ρ.length
    · rw [List.getElem?_append_left hn] at h1
      rw [List.getElem?_append_left (by rw [← w.R.len]; exact hn)] at h2
      have q := w.R.live n a o h1 h2
      exact k.soOk pre rfl q
    · rw [List.getElem?_append_right (by omega)] at h1
      rw [List.getElem?_append_right (by rw [← w.R.len]; omega)] at h2
      have hz : n - W.ρ.length = 0 := by
        cases e : n - W.ρ.length with
        | zero => rfl
        | succ k => rw [e] at h1; simp at h1
      rw [hz] at h1
      rw [← w.R.len, hz] at h2
      have e1 : L = a := by simpa using h1
      have e2 : SO.lst acc = o := by simpa using h2
      subst e1; subst e2
      exact ⟨vs, w.at_, k.relDs pre w.rr⟩
  · (rcases List.mem_append.mp ha with ha | ha)
    · exact w.R.sep a ha h
    · rw [List.mem_singleton] at ha; subst ha; exact w.nF h
variable {elt tg iter : Expr} {ifs : List Expr} {scope : Scope} {own : List (Str × Nat)} {us : List Nat} {ga : D → Env → Option Env} {gt : Env → Sto → Res Bool} {fe : Env → Sto → Res D} {fit : Env → Sto → Res ItM}
abbrev RTs (X : Cx) (ifs : List Expr) (gt : Env → Sto → Res Bool) : Prop := PTs X ifs (tT X.K W0 gt)
def yesM (_ : Env) (st : Sto) : Res Bool := .ok true st
theorem rts_nil : RTs X [] yesM := ⟨fun pins s σ H Q I ⟨W, env, st, R, Ev, h⟩ => pts_nil.run pins s σ H Q I (h W H .refl R)⟩
theorem rts_one (h : RT X W0 c gt) : RTs X [c] gt := pts_one h
theorem re_lc (hc : X.calm = true) (hN : X.N.Nodup) (hi : RI X Wx tg iter fit) (ok : BlkOk X.N X.env.scope scope own)
    (hg : ∀ (s : Shared) (H : Hp) (C : Addr) (cl : List (Str × Addr)) (fp : List Addr), RG (X.blk s H scope (compEnvC scope cl C X.env) fp) (own.map (·.2)) tg ga) (ht : ∀ (s : Shared) (H : Hp) (C : Addr) (cl : List (Str × Addr)) (fp : List Addr), RTs (X.blk s H scope (compEnvC scope cl C X.env) fp) ifs gt)
    (he : ∀ (s : Shared) (H : Hp) (C : Addr) (cl : List (Str × Addr)) (fp : List Addr), RE (X.blk s H scope (compEnvC scope cl C X.env) fp) W0 elt fe) (hs : ∀ x, foldedSetIterable iter X.env x = pure x := by intro _; rfl) :
    RE X Wx (.ListComp elt [⟨tg, iter, ifs, 0⟩] scope pos) (lcM (own.map (·.2)) fit ga gt fe) := by
  refine PE.conv (pe_lc (g := tG X.K (own.map (·.2)) ga) (tt := tT X.K W0 gt) (te := tE X.K W0 fe) hc hN hi ok hg ht he hs) fun σ H Q ⟨W, env, st, R, Ev, h⟩ => ⟨W, env, st, R, Ev, split h (fun it s h1 W1 H1 J E1 R1 j => ?_) fun C fs st' hx => hx⟩
  split at h1
  · rename_i acc s2 hr
    obtain ⟨z, e1, q⟩ := optR_holds h1
    cases e2 : plains acc with
    | none => rw [e2] at e1; cases e1
    | some ts =>
      rw [e2] at e1
      cases e1
      refine lc_run rfl rfl rfl R1 (Ev.mono E1 R) j hr fun L W2 H2 vs hL w => ?_
      obtain ⟨a1, a2, a3⟩ := w.fixed hL
      exact q _ H2 _ (E1.trans a1) a2 ⟨L, vs, rfl, .inr rfl, w.at_, a3.relTs _ _ (relTs_of e2 w.rr)⟩
  · exact h1.elim
theorem re_lcN (hc : X.calm = true) (hN : X.N.Nodup) (hi : RI X Wx tg iter fit) (ok : BlkOk X.N X.env.scope scope own)
    (hg : ∀ (s : Shared) (H : Hp) (C : Addr) (cl : List (Str × Addr)) (fp : List Addr), RG (X.blk s H scope (compEnvC scope cl C X.env) fp) (own.map (·.2)) tg ga) (ht : ∀ (s : Shared) (H : Hp) (C : Addr) (cl : List (Str × Addr)) (fp : List Addr), RTs (X.blk s H scope (compEnvC scope cl C X.env) fp) ifs gt)
    (he : ∀ (s : Shared) (H : Hp) (C : Addr) (cl : List (Str × Addr)) (fp : List Addr), RE (X.blk s H scope (compEnvC scope cl C X.env) fp) W0 elt fe) (hs : ∀ x, foldedSetIterable iter X.env x = pure x := by intro _; rfl) :
    RE X Wx (.ListComp elt [⟨tg, iter, ifs, 0⟩] scope pos) (lcN (own.map (·.2)) fit ga gt fe) := by
  refine PE.conv (pe_lc (g := tG X.K (own.map (·.2)) ga) (tt := tT X.K W0 gt) (te := tE X.K W0 fe) hc hN hi ok hg ht he hs) fun σ H Q ⟨W, env, st, R, Ev, h⟩ => ⟨W, env, st, R, Ev, split h (fun it s h1 W1 H1 J E1 R1 j => ?_) fun C fs st' hx => hx⟩
  split at h1
  · rename_i acc s2 hr
    refine lc_run rfl rfl rfl R1 (Ev.mono E1 R) j hr fun L W2 H2 vs hL w => ?_
    obtain ⟨a1, a2⟩ := w.added hL
    exact h1 _ H2 _ (E1.trans a1) a2 ⟨L, by
      show (W2.ρ ++ [L])[s2.length]? = some L
      rw [← w.R.len, List.getElem?_append_right (Nat.le_refl _), Nat.sub_self]; rfl, rfl⟩
  · exact h1.elim
/-- x = [..] -/
theorem rs_setLc {i : Nat} {y : Str} {py spos : Pos} (hc : X.calm = true) (hN : X.N.Nodup) (hy : X.N[i]? = some y) (hyl : X.env.scope.names.lookup y = some .local)
    (hsw : swapsWith (.ListComp elt [⟨tg, iter, ifs, 0⟩] scope pos) (some (.Name y py)) spos.line X.env = pure true) (hi : RI X Wx tg iter fit) (ok : BlkOk X.N X.env.scope scope own)
    (hg : ∀ (s : Shared) (H : Hp) (C : Addr) (cl : List (Str × Addr)) (fp : List Addr), RG (X.blk s H scope (compEnvC scope cl C X.env) fp) (own.map (·.2)) tg ga) (ht : ∀ (s : Shared) (H : Hp) (C : Addr) (cl : List (Str × Addr)) (fp : List Addr), RTs (X.blk s H scope (compEnvC scope cl C X.env) fp) ifs gt)
    (he : ∀ (s : Shared) (H : Hp) (C : Addr) (cl : List (Str × Addr)) (fp : List Addr), RE (X.blk s H scope (compEnvC scope cl C X.env) fp) W0 elt fe) (hs : ∀ x, foldedSetIterable iter X.env x = pure x := by intro _; rfl) :
    RS X Wx (.Assign [.Name y py] (.ListComp elt [⟨tg, iter, ifs, 0⟩] scope pos) spos) (setM i (lcM (own.map (·.2)) fit ga gt fe)) := by
  refine PS.conv (ps_setLc (g := tG X.K (own.map (·.2)) ga) (tt := tT X.K W0 gt) (te := tE X.K W0 fe) hc hN hy hyl hsw hi ok hg ht he hs) fun E σ H ⟨W, env, st, R, Ev, h⟩ => ?_
  have hh := out_split h Ev R (A := fun d s => Out.Holds X.K Wx E W H (.nx (env.set i (some d)) s)) fun d s q => q
  refine ⟨W, env, st, R, Ev, split hh (fun it s h1 W1 H1 J E1 R1 j => ?_) fun C fs st' hx => hx⟩
  split at h1
  · rename_i acc s2 hr
    obtain ⟨z, e1, q⟩ := optR_holds h1
    cases e2 : plains acc with
    | none => rw [e2] at e1; cases e1
    | some ts =>
      rw [e2] at e1
      cases e1
      refine lc_run (Q := fun x H1 => gName _ x σ H1 E.nx) rfl rfl rfl R1 (Ev.mono E1 R) j hr fun L W2 H2 vs hL w => ?_
      obtain ⟨a1, a2, a3⟩ := w.fixed hL
      exact q _ _ H2 (E1.trans a1) a2 (((Ev.mono E1 R).mono a1 R1).set i ⟨L, vs, rfl, .inr rfl, w.at_, a3.relTs _ _ (relTs_of e2 w.rr)⟩)
  · exact h1.elim
theorem rs_setLcN {i : Nat} {y : Str} {py spos : Pos} (hc : X.calm = true) (hN : X.N.Nodup) (hy : X.N[i]? = some y) (hyl : X.env.scope.names.lookup y = some .local)
    (hsw : swapsWith (.ListComp elt [⟨tg, iter, ifs, 0⟩] scope pos) (some (.Name y py)) spos.line X.env = pure true) (hi : RI X Wx tg iter fit) (ok : BlkOk X.N X.env.scope scope own)
    (hg : ∀ (s : Shared) (H : Hp) (C : Addr) (cl : List (Str × Addr)) (fp : List Addr), RG (X.blk s H scope (compEnvC scope cl C X.env) fp) (own.map (·.2)) tg ga) (ht : ∀ (s : Shared) (H : Hp) (C : Addr) (cl : List (Str × Addr)) (fp : List Addr), RTs (X.blk s H scope (compEnvC scope cl C X.env) fp) ifs gt)
    (he : ∀ (s : Shared) (H : Hp) (C : Addr) (cl : List (Str × Addr)) (fp : List Addr), RE (X.blk s H scope (compEnvC scope cl C X.env) fp) W0 elt fe) (hs : ∀ x, foldedSetIterable iter X.env x = pure x := by intro _; rfl) :
    RS X Wx (.Assign [.Name y py] (.ListComp elt [⟨tg, iter, ifs, 0⟩] scope pos) spos) (setM i (lcN (own.map (·.2)) fit ga gt fe)) := by
  refine PS.conv (ps_setLc (g := tG X.K (own.map (·.2)) ga) (tt := tT X.K W0 gt) (te := tE X.K W0 fe) hc hN hy hyl hsw hi ok hg ht he hs) fun E σ H ⟨W, env, st, R, Ev, h⟩ => ?_
  have hh := out_split h Ev R (A := fun d s => Out.Holds X.K Wx E W H (.nx (env.set i (some d)) s)) fun d s q => q
  refine ⟨W, env, st, R, Ev, split hh (fun it s h1 W1 H1 J E1 R1 j => ?_) fun C fs st' hx => hx⟩
  split at h1
  · rename_i acc s2 hr
    refine lc_run (Q := fun x H1 => gName _ x σ H1 E.nx) rfl rfl rfl R1 (Ev.mono E1 R) j hr fun L W2 H2 vs hL w => ?_
    obtain ⟨a1, a2⟩ := w.added hL
    exact h1 _ _ H2 (E1.trans a1) a2 (((Ev.mono E1 R).mono a1 R1).set i ⟨L, by
      show (W2.ρ ++ [L])[s2.length]? = some L
      rw [← w.R.len, List.getElem?_append_right (Nat.le_refl _), Nat.sub_self]; rfl, rfl⟩)
  · exact h1.elim
end
end Mi
/-! Mir6 -/
namespace Mi
open L2 PySem PySem.Spec PyProof.Rows

/-! ### defs: a promise kept wherever nothing is being shown by repr -/
structure FnG (P : Program) (w : World) (K : PySem.W.Frag) (mg : Str → Option Value) (base : Heap) (k : Nat) (f : Addr) (fd : FuncData) (ps : List Str) (sp : Sp) : Prop where
  count : ∀ vs H Q E, sp vs H Q E → vs.length = ps.length
  go : ∀ (A : Around) (outer : List PySem.Env) (s : Shared) (H : Hp) (args : Args) (us : List Value) (vs : List V) (Q : VK) (E : XK),
    Room k A → A.guards = some [] → Env0 P w K mg base A outer s H → BindsTo s fd args (ps.zip us) → Vals vs us → sp vs H Q E →
    codeAny (model P w) A (.call (.ref f) args) (CR (L2.CX P w) outer P w H s Q E) s
theorem FnG.mono {P : Program} {w : World} {K : PySem.W.Frag} {mg : Str → Option Value} {base : Heap} {j k : Nat} {f : Addr} {fd : FuncData} {ps : List Str} {sp : Sp} (F : FnG P w K mg base j f fd ps sp) (h : j ≤ k) : FnG P w K mg base k f fd ps sp :=
  ⟨F.count, fun A outer s H args us vs Q E room => F.go A outer s H args us vs Q E (room.mono h)⟩
section
variable {P : Program} {w : World}  {K : PySem.W.Frag}  {mg : Str → Option Value}  {base : Heap}
/-- a def of the text keeps its promise if its body does -/
theorem def_ok {x qual : Str} {st : Stmt} {f : Addr} {fd : FuncData} {N ps : List Str} {k : Nat} {sp : Sp} (F : Fun K x qual st f fd) (S : FnScope N ps (defScope st)) (cnt : ∀ vs H Q E, sp vs H Q E → vs.length = ps.length)
    (body : ∀ (cd : Value) (A : Around) (outer : List PySem.Env) (s : Shared) (H : Hp) (vs : List V) (Q : VK) (E : XK), Room k (A.deeper (envOfC qual (defScope st) s.heap.objs.size f cd)) → A.guards = some [] → sp vs H Q E →
      ∃ t, PSs (cxOf (L2.CX P w) P w K mg base N qual (defScope st) f cd A outer s H E) (defBody st) t ∧ t ⟨fun _ H' => Q .non H', Q, fun _ _ => False, fun _ _ => False⟩ (L2.start N vs) H) : FnG P w K mg base (k + 1) f fd ps sp := by
  obtain ⟨oc, od, kV, doc, pm, an, cd, ct, osl, rfl, look, code⟩ := F.ex
  refine ⟨cnt, ?_⟩
  intro A outer s H args us vs Q E room gd e0 bnd rel ask
  have many := cnt vs H Q E ask
  have stay : ∀ b o, base.get? b = some o → s.heap.get? b = some o := fun b o q => (e0.bs b o q).left
  have inK : K.In s.heap := e0.mod.kin.keeps stay
  have places : ∀ y ∈ ps.zip us, (defScope st).names.lookup y.1 = some .local ∨
      ((defScope st).names.lookup y.1 = some .cell ∧ ((cellsFrom (s.heap.objs.size + 1) (defScope st).names []).lookup y.1).isSome = true) := by
    intro y hy
    have hm : y.1 ∈ ps := (List.of_mem_zip (a := y.1) (b := y.2) hy).left
    rcases S.par y.1 hm with q | q
    · exact Or.inl q
    · exact Or.inr ⟨q, PySem.W.cellsFrom_some _ _ _ (Or.inl q)⟩
  refine codeAny_call_function room.depth (inK f _ look) rfl
    S.co S.gen rfl (PySem.W.codeRec_of inK code) (bnd _ _ _ _ ?_)
  refine wpAny_newFunctionEnv_cells S.kind places ?_
  intro env he s1 x
  subst he
  refine ⟨(e0.mod.nolimit.keeps stay).keeps x.toInCall.keep, ?_⟩
  refine codeAny_func ?_
  obtain ⟨t, ht, hq⟩ := body cd A outer s H vs Q E (room.deeper _) gd ask
  have I0 := inv_start (CX := L2.CX P w) (E := E) S room.hd e0 many rel x
  have run := ht.run [] s1 (L2.start N vs) H _ I0 hq
  refine wpAny_mono run (fun fl s' hs => ?_) fun e s' q => q
  cases fl with
  | ret u =>
    (obtain ⟨v, σ', H', J, rv, q⟩ := hs)
    exact ⟨v, H', J.os, J.bare, J.base, J.hok, rv, q⟩
  | next =>
    obtain ⟨σ', H', J, q⟩ := hs
    exact ⟨.non, H', J.os, J.bare, J.base, J.hok, rfl, q⟩
  | brk => obtain ⟨_, _, _, q⟩ := hs; exact q.elim
  | cont => obtain ⟨_, _, _, q⟩ := hs; exact q.elim
end
section
variable {X : Cx} {Wx : WX} {k : Nat} {f : Addr} {fd : FuncData} {ps : List Str} {sp : Sp} {x : Str} {p pos : Pos} {e : Expr} {es : List Expr}
/-- the callee runs -/
theorem run_g {pins : List (Addr × Obj)} {σ : L2.St} {H : Hp} {s : Shared} {Q : VK} {us : List Value} {vs : List V} (G : FnG X.prog X.w X.K X.mg X.base k f fd ps sp) (room : Room k X.A) (gd : X.A.guards = some [])
    (tk : Takes X Wx) (hb : Binds X.K fd ps []) (I : Inv X pins σ H s) (r : Vals vs us) (h : sp vs H Q (fun c o H' => Wx c o σ H')) : wpAny (model X.prog X.w) X.A (call (.ref f) us) (EP X pins σ Q) X.xe s := by
  have many : us.length = ps.length := r.length.symm.trans (G.count _ _ _ _ h)
  have bnd := hb s us I.kIn (by rw [List.append_nil, many])
  rw [List.append_nil] at bnd
  have run := G.go X.A X.stack s H ⟨us, []⟩ us vs Q _ room gd I.env0 bnd r h
  refine wpAny_call (codeAny_mono run ?_)
  intro res s' hq
  cases res with
  | error e => exact passAt tk σ pins H s e s' I hq
  | ok fl =>
    cases fl with
    | ret u => exact I.after hq
    | next => exact hq.elim
    | brk => exact hq.elim
    | cont => exact hq.elim
def tCallG (sp : Sp) (Wx : WX) (t : TA) : TE := fun σ H Q => t σ H fun vs H1 => sp vs H1 Q fun c o H' => Wx c o σ H'
theorem pe_g (G : FnG X.prog X.w X.K X.mg X.base k f fd ps sp) (room : Room k X.A) (gd : X.A.guards = some []) (tk : Takes X Wx) (hg : Gl X x) (hm : X.mg x = some (.ref f)) (hk : PySem.W.keepIn X.K (.ref f) = true) (hb : Binds X.K fd ps [])
    {t : TA} (ha : PA X (e :: es) t) (hdb : (x == ("__debug__" : Str)) = false := by decide) (he : starEach (e :: es) X.env = (false, eval e X.env) :: starEach es X.env := by rfl)
    (hpl : (backTo pos (starEach es X.env)).any (·.1) = false := by rfl) : PE X (.Call (.Name x p) (e :: es) [] pos) (tCallG sp Wx t) := by
  (refine ⟨fun pins s σ H Q I h => ?_⟩)
  refine wpAny_Call_Name_kw (ld_glob I hg hm (PySem.W.callWith_K (h₀ := X.base) I.ok.mod.kin hk ?_ he hpl) hdb)
  refine thn (ha.run pos pins s σ H _ I h) ?_
  rintro us s1 ⟨vs, H1, I1, r, q⟩
  exact ⟨I1.kIn, run_g G room gd tk hb I1 r q⟩
theorem pe_g0 (G : FnG X.prog X.w X.K X.mg X.base k f fd ps sp) (room : Room k X.A) (gd : X.A.guards = some []) (tk : Takes X Wx) (hg : Gl X x) (hm : X.mg x = some (.ref f)) (hk : PySem.W.keepIn X.K (.ref f) = true) (hb : Binds X.K fd ps [])
    (hdb : (x == ("__debug__" : Str)) = false := by decide) : PE X (.Call (.Name x p) [] [] pos) (tCallG sp Wx tNil) := by
  (refine ⟨fun pins s σ H Q I h => ?_⟩)
  refine wpAny_Call_Name_kw (ld_glob I hg hm (PySem.W.callWith_K0 I.kIn hk ?_) hdb)
  exact run_g (us := []) (vs := []) G room gd tk hb I .nil h

/-! ### the two kinds of promises -/
inductive Rp where
  | ok (t : T) | exc (C : Addr) (fs : List (Str × T)) | bad
abbrev Fz (F : Addr → Prop) (H : Hp) : Prop := ∀ a, F a → ∃ o, H a = some o
/-- a def of plain values: F says what it gives -/
def spP (K : PySem.W.Frag) (n : Nat) (F : List T → Rp) : Sp := fun vs H Q E => ∃ (S : Addr → Prop) (ts : List T), Fz S H ∧ RelTs K S H ts vs ∧ ts.length = n ∧ (match F ts with
  | .ok t => ∀ S' H' v, Ext ⟨[], S⟩ H ⟨[], S'⟩ H' → Fz S' H' → RelT K S' H' t v → Q v H'
  | .exc C fs => ∀ S' H' o, Ext ⟨[], S⟩ H ⟨[], S'⟩ H' → Fz S' H' → ExD K ⟨[], S'⟩ H' fs o → E (.ref C) o H'
  | .bad => False)
/-- a def that changes objects -/
def spG (K : PySem.W.Frag) (n : Nat) (F : List D → Sto → Res D) : Sp := fun vs H Q E => ∃ W st ds, Rl K W st H ∧ RelDs K W H ds vs ∧ ds.length = n ∧ (F ds st).Holds (OkD K W H Q) (OkX K W H E)
theorem spP_count {K : PySem.W.Frag} {n : Nat} {F : List T → Rp} {ps : List Str} (hn : ps.length = n) : ∀ vs H Q E, spP K n F vs H Q E → vs.length = ps.length := fun vs H Q E ⟨S, ts, _, r, l, _⟩ => by rw [relTs_len r, l, hn]
theorem spG_count {K : PySem.W.Frag} {n : Nat} {F : List D → Sto → Res D} {ps : List Str} (hn : ps.length = n) : ∀ vs H Q E, spG K n F vs H Q E → vs.length = ps.length := fun vs H Q E ⟨W, st, ds, _, r, l, _⟩ => by rw [relDs_len r, l, hn]

/-! ### their calls -/
def callP (F : List T → Rp) (fs : List (Env → Sto → Res D)) (env : Env) (st : Sto) : Res D := (argsM fs env st).bind fun ds st1 => match plains ds with
  | some ts => match F ts with
    | .ok t => .ok (.t t) st1
    | .exc C x => .exc C x st1
    | .bad => .bad
  | none => .bad
def callG (F : List D → Sto → Res D) (fs : List (Env → Sto → Res D)) (env : Env) (st : Sto) : Res D := (argsM fs env st).bind fun ds st1 => F ds st1
/-- behind a call of plain values the changed objects stand as they stood -/
theorem back {K : PySem.W.Frag} {W : Wd} {H H' : Hp} {st : Sto} {S' : Addr → Prop} (R : Rl K W st H) (E : Ext ⟨[], W.F⟩ H ⟨[], S'⟩ H') (fz : Fz S' H') : Ext W H ⟨W.ρ, S'⟩ H' ∧ Rl K ⟨W.ρ, S'⟩ st H' := by
  have E2 : Ext W H ⟨W.ρ, S'⟩ H' := ⟨List.prefix_refl _, fun a h => .inl h, E.fF, E.nF, fun a o h _ => E.keep a o h (by simp), E.there, E.lk⟩
  refine ⟨E2, R.mono E2 rfl (fun a ha => ?_) (fun a ha h => ?_) fz⟩
  · obtain ⟨o, q⟩ := R.mem ha
    rw [q]; exact E.keep a o q (by simp)
  · rcases E.nF a h with h | h
    · exact R.sep a ha h
    · obtain ⟨o, q⟩ := R.mem ha
      have h : H a = none := h
      rw [q] at h; cases h
variable {fs : List (Env → Sto → Res D)}
theorem callP_conv {K : PySem.W.Frag} {n : Nat} {F : List T → Rp} {σ : L2.St} {H : Hp} {Q : VK} (hl : fs.length = n) (h : tE K Wx (callP F fs) σ H Q) : tCallG (spP K n F) Wx (tA K Wx (argsM fs)) σ H Q := by
  obtain ⟨W, env, st, R, Ev, h⟩ := h
  refine ⟨W, env, st, R, Ev, splitA h (fun ds st1 e0 h1 W1 H1 vs E1 R1 r1 => ?_) fun C fs st' hx => hx⟩
  split at h1
  · rename_i ts e1
    have rt := relTs_of e1 r1
    have l : ts.length = n := by
      have l1 := relTs_len rt
      have l2 := relDs_len r1
      have l3 := argsM_len e0
      omega
    refine ⟨W1.F, ts, R1.fz, rt, l, ?_⟩
    cases e2 : F ts with
    | ok t =>
      rw [e2] at h1
      intro S' H' v E' fz r'
      obtain ⟨a1, a2⟩ := back R1 E' fz
      exact h1 _ H' v (E1.trans a1) a2 r'
    | exc C x =>
      rw [e2] at h1
      intro S' H' o E' fz r'
      obtain ⟨a1, a2⟩ := back R1 E' fz
      refine h1 _ H' o (E1.trans a1) a2 ?_
      rcases r' with r' | ⟨a, us, q1, q2, q3⟩
      · exact .inl r'
      · refine .inr ⟨a, us, q1, q2, ?_⟩
        clear q2 q1 e2 h1
        induction x generalizing us with
        | nil => exact q3
        | cons y r ih =>
          obtain ⟨nm, t⟩ := y
          obtain ⟨v, u, c1, c2, c3⟩ := q3
          exact ⟨v, u, c1, c2, ih u c3⟩
    | bad => rw [e2] at h1; exact h1.elim
  · exact h1.elim
theorem callG_conv {K : PySem.W.Frag} {n : Nat} {F : List D → Sto → Res D} {σ : L2.St} {H : Hp} {Q : VK} (hl : fs.length = n) (h : tE K Wx (callG F fs) σ H Q) : tCallG (spG K n F) Wx (tA K Wx (argsM fs)) σ H Q := by
  obtain ⟨W, env, st, R, Ev, h⟩ := h
  refine ⟨W, env, st, R, Ev, splitA h (fun ds st1 e0 h1 W1 H1 vs E1 R1 r1 => ?_) fun C fs st' hx => hx⟩
  exact ⟨W1, st1, ds, R1, r1, by rw [argsM_len e0, hl], Res.Holds.imp h1 (fun _ _ q => q.mono E1) fun _ _ _ q => q.mono E1⟩
theorem re_callP {n : Nat} {F : List T → Rp} (G : FnG X.prog X.w X.K X.mg X.base k f fd ps (spP X.K n F)) (room : Room k X.A) (gd : X.A.guards = some []) (tk : Takes X Wx) (hg : Gl X x) (hm : X.mg x = some (.ref f)) (hk : PySem.W.keepIn X.K (.ref f) = true) (hb : Binds X.K fd ps [])
    (ha : RA X Wx (e :: es) (argsM fs)) (hl : fs.length = n := by rfl) (hdb : (x == ("__debug__" : Str)) = false := by decide) (he : starEach (e :: es) X.env = (false, eval e X.env) :: starEach es X.env := by rfl)
    (hpl : (backTo pos (starEach es X.env)).any (·.1) = false := by rfl) : RE X Wx (.Call (.Name x p) (e :: es) [] pos) (callP F fs) :=
  PE.conv (pe_g G room gd tk hg hm hk hb ha hdb he hpl) fun _ _ _ h => callP_conv hl h
theorem re_callG {n : Nat} {F : List D → Sto → Res D} (G : FnG X.prog X.w X.K X.mg X.base k f fd ps (spG X.K n F)) (room : Room k X.A) (gd : X.A.guards = some []) (tk : Takes X Wx) (hg : Gl X x) (hm : X.mg x = some (.ref f)) (hk : PySem.W.keepIn X.K (.ref f) = true) (hb : Binds X.K fd ps [])
    (ha : RA X Wx (e :: es) (argsM fs)) (hl : fs.length = n := by rfl) (hdb : (x == ("__debug__" : Str)) = false := by decide) (he : starEach (e :: es) X.env = (false, eval e X.env) :: starEach es X.env := by rfl)
    (hpl : (backTo pos (starEach es X.env)).any (·.1) = false := by rfl) : RE X Wx (.Call (.Name x p) (e :: es) [] pos) (callG F fs) :=
  PE.conv (pe_g G room gd tk hg hm hk hb ha hdb he hpl) fun _ _ _ h => callG_conv hl h
theorem re_callP0 {F : List T → Rp} (G : FnG X.prog X.w X.K X.mg X.base k f fd ps (spP X.K 0 F)) (room : Room k X.A) (gd : X.A.guards = some []) (tk : Takes X Wx) (hg : Gl X x) (hm : X.mg x = some (.ref f)) (hk : PySem.W.keepIn X.K (.ref f) = true) (hb : Binds X.K fd ps [])
    (hdb : (x == ("__debug__" : Str)) = false := by decide) : RE X Wx (.Call (.Name x p) [] [] pos) (callP F []) := by
  refine PE.conv (pe_g0 G room gd tk hg hm hk hb hdb) fun σ H Q h => ?_
  obtain ⟨W, env, st, R, Ev, q⟩ := callP_conv (fs := []) rfl h
  exact q W H [] .refl R rfl
end

/-! ### the body of a def -/
def startE (n : Nat) (ds : List D) : Env := ds.map some ++ List.replicate (n - ds.length) none
theorem startE_rel {K : PySem.W.Frag} {W : Wd} {H : Hp} {N : List Str} {ds : List D} {vs : List V} (r : RelDs K W H ds vs) : EnvR K W H (startE N.length ds) (L2.start N vs) := by
  have l := relDs_len r
  unfold startE L2.start
  refine ⟨by rw [List.length_append, List.length_append, List.length_map, List.length_map, List.length_replicate, List.length_replicate, l], fun i d q => ?_⟩
  by_cases hi : i < ds.length
  · rw [List.getElem?_append_left (by simpa using hi), List.getElem?_map] at q
    cases e : ds[i]? with
    | none => rw [e] at q; cases q
    | some d2 =>
      rw [e] at q
      cases q
      obtain ⟨v, e2, rv⟩ := relDs_get r e
      exact ⟨v, by rw [List.getElem?_append_left (by rw [List.length_map, l]; exact hi), List.getElem?_map, e2]; rfl, rv⟩
  · rw [List.getElem?_append_right (by simpa using hi), List.getElem?_replicate] at q
    split at q <;> cases q
/-- an object of the store and what it holds, as a plain value: nobody changes it from here on; those below n are not touched -/
def optAll {α : Type} : List (Option α) → Option (List α)
  | [] => some []
  | x :: r => x.bind fun a => (optAll r).map (a :: ·)
def fzD : Nat → Nat → Sto → D → Option T
  | 0, _, _, _ => none
  | m + 1, n, st, d => match d with
    | .t x => some x
    | .x .. => none
    | .r j => if j < n then none else match st[j]? with
      | some (.lst ds) => (optAll (ds.map (fzD m n st))).map .lst
      | some (.ins C fs) => (optAll (fs.map fun p => fzD m n st p.2)).map (.ins C (fs.map (·.1)))
      | some (.dk _ kvs) => (optAll (kvs.map fun p => fzD m n st p.2)).map (.dk (kvs.map (·.1)))
      | some (.dt kvs) => (optAll (kvs.map fun p => fzD m n st p.2)).map (.dt (kvs.map (·.1)))
      | none => none
theorem optAll_rel {K : PySem.W.Frag} {F : Addr → Prop} {W : Wd} {H : Hp} {f : D → Option T} (hf : ∀ d t v, f d = some t → RelD K W H d v → RelT K F H t v) : ∀ {ds : List D} {ts : List T} {vs : List V}, optAll (ds.map f) = some ts → RelDs K W H ds vs → RelTs K F H ts vs
  | [], ts, vs, h, r => by cases h; exact r
  | d :: ds, ts, vs, h, r => by
    obtain ⟨v, u, rfl, r1, r2⟩ := r
    have h : ((f d).bind fun a => (optAll (ds.map f)).map (a :: ·)) = some ts := h
    cases e1 : f d with
    | none => rw [e1] at h; cases h
    | some t =>
      rw [e1, Option.bind_some] at h
      cases e2 : optAll (ds.map f) with
      | none => rw [e2] at h; cases h
      | some us =>
        rw [e2] at h
        cases h
        exact ⟨v, u, rfl, hf d t v e1 r1, optAll_rel hf e2 r2⟩
theorem optAll_relK {κ : Type} {K : PySem.W.Frag} {F : Addr → Prop} {W : Wd} {H : Hp} {f : D → Option T} (hf : ∀ d t v, f d = some t → RelD K W H d v → RelT K F H t v) : ∀ {fs : List (κ × D)} {ts : List T} {vs : List (κ × V)}, optAll (fs.map fun p => f p.2) = some ts → RelKs K W H fs vs →
    ∃ us, vs = (fs.map (·.1)).zip us ∧ (fs.map (·.1)).length = ts.length ∧ RelTs K F H ts us
  | [], ts, vs, h, r => by cases h; cases r; exact ⟨[], rfl, rfl, rfl⟩
  | (k, d) :: ds, ts, vs, h, r => by
    obtain ⟨v, u, rfl, r1, r2⟩ := r
    have h : ((f d).bind fun a => (optAll (ds.map fun p => f p.2)).map (a :: ·)) = some ts := h
    cases e1 : f d with
    | none => rw [e1] at h; cases h
    | some t =>
      rw [e1, Option.bind_some] at h
      cases e2 : optAll (ds.map fun p => f p.2) with
      | none => rw [e2] at h; cases h
      | some us =>
        rw [e2] at h
        cases h
        obtain ⟨ws, q1, q2, q3⟩ := optAll_relK hf e2 r2
        exact ⟨v :: ws, by rw [q1]; rfl, by rw [List.map_cons, List.length_cons, List.length_cons, q2], v, ws, rfl, hf d t v e1 r1, q3⟩
theorem fzD_rel {K : PySem.W.Frag} {F : Addr → Prop} {W : Wd} {H : Hp} {st : Sto} {n : Nat} (R : Rl K W st H) (k : KeepT W.F H F H) (hF : ∀ j a, n ≤ j → W.ρ[j]? = some a → F a) : ∀ (m : Nat) (d : D) (t : T) (v : V), fzD m n st d = some t → RelD K W H d v → RelT K F H t v
  | 0, d, t, v, h, r => by cases h
  | m + 1, d, t, v, h, r => by
    have ih := fzD_rel R k hF m
    cases d with
    | t x => cases h; exact k.relT _ v r
    | x => cases h
    | r j =>
      obtain ⟨a, ea, rfl⟩ := r
      unfold fzD at h
      dsimp only at h
      by_cases hj : j < n
      · rw [if_pos hj] at h; cases h
      · rw [if_neg hj] at h
        have fa : F a := hF j a (by omega) ea
        cases e1 : st[j]? with
        | none => simp only [e1] at h; cases h
        | some so =>
          have live := R.live j a so ea e1
          cases so with
          | lst ds =>
            simp only [e1] at h
            cases e2 : optAll (ds.map (fzD m n st)) with
            | none => rw [e2] at h; cases h
            | some ts =>
              rw [e2] at h
              cases h
              obtain ⟨vs, h1, h2⟩ := live
              exact ⟨a, vs, rfl, fa, h1, optAll_rel ih e2 h2⟩
          | ins C fs =>
            simp only [e1] at h
            cases e2 : optAll (fs.map fun p => fzD m n st p.2) with
            | none => rw [e2] at h; cases h
            | some ts =>
              rw [e2] at h
              cases h
              obtain ⟨dx, vs, h1, h2⟩ := live
              obtain ⟨us, q1, q2, q3⟩ := optAll_relK ih e2 h2
              exact ⟨a, dx, us, rfl, fa, by rw [← q1]; exact h1, q2, q3⟩
          | dk lk fs =>
            simp only [e1] at h
            cases e2 : optAll (fs.map fun p => fzD m n st p.2) with
            | none => rw [e2] at h; cases h
            | some ts =>
              rw [e2] at h
              cases h
              obtain ⟨vs, h1, h2⟩ := live
              obtain ⟨us, q1, q2, q3⟩ := optAll_relK ih e2 h2
              refine ⟨a, us, rfl, fa, ?_, q2, q3⟩
              rw [← q1]
              cases lk with
              | true => rw [if_pos rfl] at h1; exact .inr h1
              | false => rw [if_neg (by decide)] at h1; exact .inl h1
          | dt fs =>
            simp only [e1] at h
            cases e2 : optAll (fs.map fun p => fzD m n st p.2) with
            | none => rw [e2] at h; cases h
            | some ts =>
              rw [e2] at h
              cases h
              obtain ⟨vs, h1, h2⟩ := live
              obtain ⟨us, q1, q2, q3⟩ := optAll_relK ih e2 h2
              exact ⟨a, us, rfl, fa, by rw [← q1]; exact h1, q2, q3⟩
def rpO (o : Option T) : Rp := match o with
  | some t => .ok t
  | none => .bad
/-- what a def of plain values hands back -/
def exitP (o : Out) : Rp := match o with
  | .rt (.t x) _ => .ok x
  | .rt (.r n) st => match st[n]? with
    | some (.lst ds) => match plains ds with
      | some ts => .ok (.lst ts)
      | none => rpO (fzD 8 0 st (.r n))
    | _ => rpO (fzD 8 0 st (.r n))
  | .nx _ _ => .ok .non
  | .exc C fs _ _ => .exc C fs
  | _ => .bad
def defP (n : Nat) (g : Env → Sto → Out) (ts : List T) : Rp := exitP (g (startE n (ts.map .t)) [])
/-- a def that changes objects -/
def exitG (o : Out) : Res D := match o with
  | .rt d st => .ok d st
  | .nx _ st => .ok (.t .non) st
  | .exc C fs _ st => .exc C fs st
  | _ => .bad
def defG (n : Nat) (g : Env → Sto → Out) (ds : List D) (st : Sto) : Res D := exitG (g (startE n ds) st)
/-- .. and leaves no new ones -/
def D.below (n : Nat) : D → Bool
  | .t _ => true
  | .x .. => true
  | .r m => decide (m < n)
def SO.below (n : Nat) : SO → Bool
  | .lst ds => ds.all (D.below n)
  | .ins _ fs => fs.all fun p => p.2.below n
  | .dk _ fs => fs.all fun p => p.2.below n
  | .dt fs => fs.all fun p => p.2.below n
def okO (o : Option T) (st : Sto) : Res D := match o with
  | some t => .ok (.t t) st
  | none => .bad
def trim (n : Nat) (d : D) (st : Sto) : Res D := if (st.take n).all (SO.below n) = true then (match d with
  | .t x => .ok (.t x) (st.take n)
  | .x .. => .bad
  | .r m => if m < n then .ok (.r m) (st.take n) else match st[m]? with
    | some (.lst ds) => match plains ds with
      | some ts => .ok (.t (.lst ts)) (st.take n)
      | none => okO (fzD 8 n st (.r m)) (st.take n)
    | _ => okO (fzD 8 n st (.r m)) (st.take n)) else .bad
def exitT (n : Nat) (o : Out) : Res D := match o with
  | .rt d st => trim n d st
  | .nx _ st => trim n (.t .non) st
  | .exc C fs _ st => if (st.take n).all (SO.below n) = true then .exc C fs (st.take n) else .bad
  | _ => .bad
def defT (n : Nat) (g : Env → Sto → Out) (ds : List D) (st : Sto) : Res D := exitT st.length (g (startE n ds) st)
section
variable {P : Program} {w : World} {K : PySem.W.Frag} {mg : Str → Option Value} {base : Heap} {x qual : Str} {st : Stmt} {f : Addr} {fd : FuncData} {N ps : List Str} {k : Nat} {g : Env → Sto → Out}
theorem relFs_F {K : PySem.W.Frag} {W W' : Wd} {H : Hp} (k : KeepT W.F H W'.F H) : ∀ {fs : List (Str × T)} {vs : List (Str × V)}, RelFs K W H fs vs → RelFs K W' H fs vs
  | [], vs, h => h
  | (n, t) :: r, vs, h => by
    obtain ⟨v, u, e, a, b⟩ := h
    exact ⟨v, u, e, k.relT t v a, relFs_F k b⟩
theorem exd_F {K : PySem.W.Frag} {W W' : Wd} {H : Hp} (k : KeepT W.F H W'.F H) {fs : List (Str × T)} {o : Option Addr} (h : ExD K W H fs o) : ExD K W' H fs o := by
  rcases h with h | ⟨a, vs, h1, h2, h3⟩
  · exact .inl h
  · exact .inr ⟨a, vs, h1, h2, relFs_F k h3⟩
abbrev WR (E : XK) : WX := fun c o _ H => E c o H
/-- the context of a body lets errors out as the def's promise says -/
theorem takes_def {cd : Value} {A : Around} {outer : List PySem.Env} {s : Shared} {H : Hp} {E : XK} : Takes (cxOf (L2.CX P w) P w K mg base N qual (defScope st) f cd A outer s H E) (WR E) := takes_of rfl rfl rfl rfl
theorem own_def {cd : Value} {A : Around} {outer : List PySem.Env} {s : Shared} {H : Hp} {E : XK} : PassesOwn (model P w) (A.deeper (envOfC qual (defScope st) s.heap.objs.size f cd)) (envOfC qual (defScope st) s.heap.objs.size f cd) (cxOf (L2.CX P w) P w K mg base N qual (defScope st) f cd A outer s H E).xe :=
  passes_of (X := cxOf (L2.CX P w) P w K mg base N qual (defScope st) f cd A outer s H E) (K := fun e s'' => L2.CX P w outer H s E e s'') rfl
theorem okP (F : Fun K x qual st f fd) (S : FnScope N ps (defScope st)) {n m : Nat} (hn : ps.length = n) (hm : N.length = m)
    (body : ∀ (cd : Value) (A : Around) (outer : List PySem.Env) (s : Shared) (H : Hp) (E : XK), Room k (A.deeper (envOfC qual (defScope st) s.heap.objs.size f cd)) → A.guards = some [] →
      RSs (cxOf (L2.CX P w) P w K mg base N qual (defScope st) f cd A outer s H E) (WR E) (defBody st) g) : FnG P w K mg base (k + 1) f fd ps (spP K n (defP m g)) := by
  refine def_ok F S (spP_count hn) fun cd A outer s H vs Q E room gd ask => ⟨_, body cd A outer s H E room gd, ?_⟩
  obtain ⟨S0, ts, fz, rt, hl, ask⟩ := ask
  have R0 : Rl K ⟨[], S0⟩ [] H := ⟨rfl, List.nodup_nil, fun n a o h _ => by simp at h, fun a h => absurd h (by simp), fz⟩
  refine ⟨⟨[], S0⟩, startE m (ts.map .t), [], R0, by rw [← hm]; exact startE_rel (relDs_t (W := ⟨[], S0⟩) rt), ?_⟩
  unfold defP at ask
  have toF : ∀ {W' : Wd} {H' : Hp} {S' : Addr → Prop}, Ext ⟨[], S0⟩ H W' H' → (∀ a, W'.F a → S' a) → (∀ a, S' a → W'.F a ∨ a ∈ W'.ρ) → Ext ⟨[], S0⟩ H ⟨[], S'⟩ H' := fun {W' H' S'} E h1 h2 =>
    ⟨List.prefix_refl _, fun a h => absurd h (by simp), fun a h => h1 a (E.fF a h), fun a h => (h2 a h).elim (E.nF a) fun h => (E.new a h).elim (fun z => absurd z (by simp)) .inr, E.keep, E.there, E.lk⟩
  cases q : g (startE m (ts.map .t)) [] with
  | nx e s2 =>
    rw [q] at ask
    intro W' σ' H' E' R' _
    exact ask W'.F H' _ (toF E' (fun _ h => h) fun _ h => .inl h) R'.fz rfl
  | rt d s2 =>
    rw [q] at ask
    intro W' H' v E' R' r'
    cases d with
    | t y => exact ask W'.F H' v (toF E' (fun _ h => h) fun _ h => .inl h) R'.fz r'
    | x => exact ask.elim
    | r j =>
      obtain ⟨a, ea, rfl⟩ := r'
      have ask : (match exitP (.rt (.r j) s2) with
        | .ok t => ∀ S' H' v, Ext ⟨[], S0⟩ H ⟨[], S'⟩ H' → Fz S' H' → RelT K S' H' t v → Q v H'
        | .exc C fs => ∀ S' H' o, Ext ⟨[], S0⟩ H ⟨[], S'⟩ H' → Fz S' H' → ExD K ⟨[], S'⟩ H' fs o → E (.ref C) o H'
        | .bad => False) := ask
      have all : ∀ y, RelT K (fun b => W'.F b ∨ b ∈ W'.ρ) H' y (.ref a) → (∀ S' H' v, Ext ⟨[], S0⟩ H ⟨[], S'⟩ H' → Fz S' H' → RelT K S' H' y v → Q v H') → Q (.ref a) H' := fun y ry hq =>
        hq (fun b => W'.F b ∨ b ∈ W'.ρ) H' (.ref a) (toF E' (fun _ h => .inl h) fun b h => h) (fun b hb => hb.elim (R'.fz b) R'.mem) ry
      have k : KeepT W'.F H' (fun b => W'.F b ∨ b ∈ W'.ρ) H' := ⟨fun _ h => .inl h, fun _ _ _ q => q, fun _ _ q => q, fun _ _ _ q => q, fun _ _ q => q⟩
      have hF : ∀ (i : Nat) (b : Addr), 0 ≤ i → W'.ρ[i]? = some b → W'.F b ∨ b ∈ W'.ρ := fun i b _ e => .inr (List.mem_of_getElem? e)
      have fzo : (match rpO (fzD 8 0 s2 (.r j)) with
        | .ok t => ∀ S' H' v, Ext ⟨[], S0⟩ H ⟨[], S'⟩ H' → Fz S' H' → RelT K S' H' t v → Q v H'
        | .exc C fs => ∀ S' H' o, Ext ⟨[], S0⟩ H ⟨[], S'⟩ H' → Fz S' H' → ExD K ⟨[], S'⟩ H' fs o → E (.ref C) o H'
        | .bad => False) → Q (.ref a) H' := fun z => by
        cases e2 : fzD 8 0 s2 (.r j) with
        | none => rw [e2] at z; exact z.elim
        | some y => rw [e2] at z; exact all y (fzD_rel R' k hF 8 (.r j) y (.ref a) e2 ⟨a, ea, rfl⟩) z
      unfold exitP at ask
      simp only at ask
      cases e1 : s2[j]? with
      | none => simp only [e1] at ask; exact fzo ask
      | some so =>
        cases so with
        | ins => simp only [e1] at ask; exact fzo ask
        | dk => simp only [e1] at ask; exact fzo ask
        | dt => simp only [e1] at ask; exact fzo ask
        | lst ds =>
          simp only [e1] at ask
          cases e2 : plains ds with
          | none => simp only [e2] at ask; exact fzo ask
          | some us =>
            simp only [e2] at ask
            obtain ⟨vs', h1, h2⟩ := R'.live j a _ ea e1
            exact all (.lst us) ⟨a, vs', rfl, .inr (List.mem_of_getElem? ea), h1, k.relTs _ _ (relTs_of e2 h2)⟩ ask
  | exc C fs e s2 =>
    rw [q] at ask
    intro W' σ' H' o E' R' _ xx
    exact ask W'.F H' o (toF E' (fun _ h => h) fun _ h => .inl h) R'.fz (exd_F (K := K) (W := W') (W' := ⟨[], W'.F⟩) ⟨fun _ h => h, fun _ _ _ q => q, fun _ _ q => q, fun _ _ _ q => q, fun _ _ q => q⟩ xx)
  | bk e s2 => rw [q] at ask; exact ask.elim
  | ct e s2 => rw [q] at ask; exact ask.elim
  | bad => rw [q] at ask; exact ask.elim
theorem okG (F : Fun K x qual st f fd) (S : FnScope N ps (defScope st)) {n m : Nat} (hn : ps.length = n) (hm : N.length = m)
    (body : ∀ (cd : Value) (A : Around) (outer : List PySem.Env) (s : Shared) (H : Hp) (E : XK), Room k (A.deeper (envOfC qual (defScope st) s.heap.objs.size f cd)) → A.guards = some [] →
      RSs (cxOf (L2.CX P w) P w K mg base N qual (defScope st) f cd A outer s H E) (WR E) (defBody st) g) : FnG P w K mg base (k + 1) f fd ps (spG K n (defG m g)) := by
  refine def_ok F S (spG_count hn) fun cd A outer s H vs Q E room gd ask => ⟨_, body cd A outer s H E room gd, ?_⟩
  obtain ⟨W, s0, ds, R, r, hl, ask⟩ := ask
  refine ⟨W, startE m ds, s0, R, by rw [← hm]; exact startE_rel r, ?_⟩
  unfold defG at ask
  cases q : g (startE m ds) s0 with
  | nx e s2 => rw [q] at ask; exact fun W' σ' H' E' R' _ => ask W' H' _ E' R' rfl
  | rt d s2 => rw [q] at ask; exact ask
  | exc C fs e s2 => rw [q] at ask; exact fun W' σ' H' o E' R' _ xx => ask W' H' o E' R' xx
  | bk e s2 => rw [q] at ask; exact ask.elim
  | ct e s2 => rw [q] at ask; exact ask.elim
  | bad => rw [q] at ask; exact ask.elim
theorem below_rel {K : PySem.W.Frag} {W W' : Wd} {H : Hp} {n : Nat} (hp : W'.ρ = W.ρ.take n) (k : KeepT W.F H W'.F H) {d : D} {v : V} (hb : D.below n d = true) (r : RelD K W H d v) : RelD K W' H d v := by
  cases d with
  | t x => exact k.relT x v r
  | x a o C fs => exact ⟨r.1, k.exd r.2⟩
  | r m =>
    obtain ⟨a, e, rfl⟩ := r
    refine ⟨a, ?_, rfl⟩
    rw [hp, List.getElem?_take_of_lt (of_decide_eq_true hb)]
    exact e
theorem belows_rel {K : PySem.W.Frag} {W W' : Wd} {H : Hp} {n : Nat} (hp : W'.ρ = W.ρ.take n) (k : KeepT W.F H W'.F H) : ∀ {ds : List D} {vs : List V}, ds.all (D.below n) = true → RelDs K W H ds vs → RelDs K W' H ds vs
  | [], vs, _, h => h
  | d :: ds, vs, hb, h => by
    rw [List.all_cons, Bool.and_eq_true] at hb
    obtain ⟨v, u, e, a, b⟩ := h
    exact ⟨v, u, e, below_rel hp k hb.1 a, belows_rel hp k hb.2 b⟩
theorem belows_relK {κ : Type} {K : PySem.W.Frag} {W W' : Wd} {H : Hp} {n : Nat} (hp : W'.ρ = W.ρ.take n) (k : KeepT W.F H W'.F H) : ∀ {ds : List (κ × D)} {vs : List (κ × V)}, (ds.all fun p => p.2.below n) = true → RelKs K W H ds vs → RelKs K W' H ds vs
  | [], vs, _, h => h
  | (x, d) :: ds, vs, hb, h => by
    rw [List.all_cons, Bool.and_eq_true] at hb
    obtain ⟨v, u, e, a, b⟩ := h
    exact ⟨v, u, e, below_rel hp k hb.1 a, belows_relK hp k hb.2 b⟩
/-- the new objects are let go -/
theorem Rl.trim {K : PySem.W.Frag} {W W' : Wd} {H : Hp} {s : Sto} {n : Nat} (R : Rl K W s H) (hp : W'.ρ = W.ρ.take n) (k : KeepT W.F H W'.F H) (hb : (s.take n).all (SO.below n) = true) (hs : ∀ a ∈ W.ρ.take n, ¬ W'.F a) (hf : Fz W'.F H) : Rl K W' (s.take n) H := by
  refine ⟨by rw [hp, List.length_take, List.length_take, R.len], by rw [hp]; exact R.nd.sublist (List.take_sublist _ _), fun m a o h1 h2 => ?_, fun a ha => hs a (by rw [← hp]; exact ha), hf⟩
  rw [hp] at h1
  have hm : m < n := by
    have := (List.getElem?_eq_some_iff.mp h1).1
    rw [List.length_take] at this
    omega
  have hmem : o ∈ s.take n := List.mem_of_getElem? h2
  rw [List.getElem?_take_of_lt hm] at h1 h2
  have q := R.live m a o h1 h2
  have hbo : SO.below n o = true := List.all_eq_true.mp hb o hmem
  cases o with
  | lst ds => obtain ⟨vs, q1, q2⟩ := q; exact ⟨vs, q1, belows_rel hp k hbo q2⟩
  | ins C fs => obtain ⟨dx, vs, q1, q2⟩ := q; exact ⟨dx, vs, q1, belows_relK hp k hbo q2⟩
  | dk lk fs => obtain ⟨vs, q1, q2⟩ := q; exact ⟨vs, q1, belows_relK hp k hbo q2⟩
  | dt fs => obtain ⟨vs, q1, q2⟩ := q; exact ⟨vs, q1, belows_relK hp k hbo q2⟩
theorem okT (F : Fun K x qual st f fd) (S : FnScope N ps (defScope st)) {n m : Nat} (hn : ps.length = n) (hm : N.length = m)
    (body : ∀ (cd : Value) (A : Around) (outer : List PySem.Env) (s : Shared) (H : Hp) (E : XK), Room k (A.deeper (envOfC qual (defScope st) s.heap.objs.size f cd)) → A.guards = some [] →
      RSs (cxOf (L2.CX P w) P w K mg base N qual (defScope st) f cd A outer s H E) (WR E) (defBody st) g) : FnG P w K mg base (k + 1) f fd ps (spG K n (defT m g)) := by
  refine def_ok F S (spG_count hn) fun cd A outer s H vs Q E room gd ask => ⟨_, body cd A outer s H E room gd, ?_⟩
  obtain ⟨W, s0, ds, R, r, hl, ask⟩ := ask
  refine ⟨W, startE m ds, s0, R, by rw [← hm]; exact startE_rel r, ?_⟩
  unfold defT at ask
  -- the world without the new objects
  have cut : ∀ {W' : Wd} {H' : Hp} {s2 : Sto} {S' : Addr → Prop}, Ext W H W' H' → Rl K W' s2 H' → (∀ a, W'.F a → S' a) → (∀ a, S' a → W'.F a ∨ (a ∈ W'.ρ ∧ a ∉ W.ρ)) → Fz S' H' → (s2.take s0.length).all (SO.below s0.length) = true →
      Ext W H ⟨W.ρ, S'⟩ H' ∧ Rl K ⟨W.ρ, S'⟩ (s2.take s0.length) H' := fun {W' H' s2 S'} E' R' h1 h2 fz hb => by
    have hp : W.ρ = W'.ρ.take s0.length := by
      obtain ⟨t, ht⟩ := E'.pre
      rw [← ht, ← R.len, List.take_left]
    refine ⟨⟨List.prefix_refl _, fun a h => .inl h, fun a h => h1 a (E'.fF a h), fun a h => ?_, E'.keep, E'.there, E'.lk⟩, R'.trim hp ⟨h1, fun _ _ _ q => q, fun _ _ q => q, fun _ _ _ q => q, fun _ _ q => q⟩ hb (fun a ha h => ?_) fz⟩
    · rcases h2 a h with h | ⟨h, hn⟩
      · exact E'.nF a h
      · exact (E'.new a h).elim (fun z => absurd z hn) .inr
    · rw [← hp] at ha
      rcases h2 a h with h | ⟨h, hn⟩
      · exact R'.sep a (by
          obtain ⟨t, ht⟩ := E'.pre
          rw [← ht]; exact List.mem_append_left _ ha) h
      · exact hn ha
  have fin : ∀ {d : D} {s2 : Sto}, (trim s0.length d s2).Holds (OkD K W H Q) (OkX K W H E) → OkD K W H Q d s2 := fun {d s2} ask W' H' v E' R' r' => by
    unfold Mi.trim at ask
    split at ask
    · rename_i hb
      cases d with
      | t y =>
        obtain ⟨a1, a2⟩ := cut (S' := W'.F) E' R' (fun _ h => h) (fun _ h => .inl h) R'.fz hb
        exact ask _ H' v a1 a2 r'
      | x => exact ask.elim
      | r j =>
        simp only at ask
        split at ask
        · rename_i hj
          obtain ⟨a1, a2⟩ := cut (S' := W'.F) E' R' (fun _ h => h) (fun _ h => .inl h) R'.fz hb
          obtain ⟨a, ea, rfl⟩ := r'
          refine ask _ H' (.ref a) a1 a2 ⟨a, ?_, rfl⟩
          obtain ⟨t, ht⟩ := E'.pre
          rw [← ht, List.getElem?_append_left (by rw [R.len]; exact hj)] at ea
          exact ea
        · rename_i hj
          obtain ⟨a, ea, rfl⟩ := r'
          have out : ∀ (i : Nat) (b : Addr), s0.length ≤ i → W'.ρ[i]? = some b → b ∈ W'.ρ ∧ b ∉ W.ρ := fun i b hi e => ⟨List.mem_of_getElem? e, fun hm => by
            obtain ⟨i2, hi2, e2⟩ := List.getElem_of_mem hm
            obtain ⟨t, ht⟩ := E'.pre
            have e3 : W'.ρ[i2]? = some b := by rw [← ht, List.getElem?_append_left hi2, List.getElem?_eq_getElem hi2, e2]
            obtain ⟨k1, z1⟩ := List.getElem?_eq_some_iff.mp e3
            obtain ⟨k2, z2⟩ := List.getElem?_eq_some_iff.mp e
            have : i2 = i := (List.getElem_inj R'.nd).mp (z1.trans z2.symm)
            rw [R.len] at hi2
            omega⟩
          have all : ∀ y, RelT K (fun b => W'.F b ∨ b ∈ W'.ρ ∧ b ∉ W.ρ) H' y (.ref a) → OkD K W H Q (.t y) (s2.take s0.length) → Q (.ref a) H' := fun y ry hq => by
            obtain ⟨a1, a2⟩ := cut (S' := fun b => W'.F b ∨ b ∈ W'.ρ ∧ b ∉ W.ρ) E' R' (fun _ h => .inl h) (fun b h => h) (fun b hb => hb.elim (R'.fz b) fun h => R'.mem h.1) hb
            exact hq _ H' (.ref a) a1 a2 ry
          have k : KeepT W'.F H' (fun b => W'.F b ∨ b ∈ W'.ρ ∧ b ∉ W.ρ) H' := ⟨fun _ h => .inl h, fun _ _ _ q => q, fun _ _ q => q, fun _ _ _ q => q, fun _ _ q => q⟩
          have fzo : (okO (fzD 8 s0.length s2 (.r j)) (s2.take s0.length)).Holds (OkD K W H Q) (OkX K W H E) → Q (.ref a) H' := fun z => by
            cases e2 : fzD 8 s0.length s2 (.r j) with
            | none => rw [e2] at z; exact z.elim
            | some y => rw [e2] at z; exact all y (fzD_rel R' k (fun i b hi e => .inr (out i b hi e)) 8 (.r j) y (.ref a) e2 ⟨a, ea, rfl⟩) z
          cases e1 : s2[j]? with
          | none => simp only [e1] at ask; exact fzo ask
          | some so =>
            cases so with
            | ins => simp only [e1] at ask; exact fzo ask
            | dk => simp only [e1] at ask; exact fzo ask
            | dt => simp only [e1] at ask; exact fzo ask
            | lst ds =>
              simp only [e1] at ask
              cases e2 : plains ds with
              | none => simp only [e2] at ask; exact fzo ask
              | some us =>
                simp only [e2] at ask
                obtain ⟨vs', h1, h2⟩ := R'.live j a _ ea e1
                exact all (.lst us) ⟨a, vs', rfl, .inr (out j a (by omega) ea), h1, k.relTs _ _ (relTs_of e2 h2)⟩ ask
    · exact ask.elim
  cases q : g (startE m ds) s0 with
  | nx e s2 => rw [q] at ask; exact fun W' σ' H' E' R' _ => fin (d := .t .non) ask W' H' _ E' R' rfl
  | rt d s2 => rw [q] at ask; exact fin ask
  | exc C fs e s2 =>
    rw [q] at ask
    intro W' σ' H' o E' R' _ xx
    have ask : (if (s2.take s0.length).all (SO.below s0.length) = true then Res.exc (α := D) C fs (s2.take s0.length) else .bad).Holds (OkD K W H Q) (OkX K W H E) := ask
    split at ask
    · rename_i hb
      obtain ⟨a1, a2⟩ := cut (S' := W'.F) E' R' (fun _ h => h) (fun _ h => .inl h) R'.fz hb
      exact ask _ H' o a1 a2 (exd_F (K := K) (W := W') (W' := ⟨W.ρ, W'.F⟩) ⟨fun _ h => h, fun _ _ _ q => q, fun _ _ q => q, fun _ _ _ q => q, fun _ _ q => q⟩ xx)
    · exact ask.elim
  | bk e s2 => rw [q] at ask; exact ask.elim
  | ct e s2 => rw [q] at ask; exact ask.elim
  | bad => rw [q] at ask; exact ask.elim
end
end Mi
/-! Mir7 -/
namespace Mi
open L2 PySem PySem.Spec PyProof.Rows
section
variable {X : Cx} {Wx : WX} {k : Nat}
/-! ### str(x), repr(x) -/
def showB (p : PyData) : Option D := if p.showable = true ∧ p.hasDict = false ∧ p.depth ≤ 60 ∧ p.shown.length ≤ LIM then some (sD p.shown) else none
def strB (ds : List D) (st : Sto) : Option D := match ds with
  | [.t (.str x)] => some (sD x)
  | [.t (.int i)] => if i.natAbs.log2 < 1920 then some (sD (toString i)) else none
  | [.t (.tup ts)] => (pyT (.tup ts)).bind showB
  | [.t (.lst ts)] => (pyT (.lst ts)).bind showB
  | [.r n] => (pyD st (.r n)).bind showB
  | _ => none
theorem shown_call {fv : Value} (hf : ∀ (a : Addr) (d : PyData) (as : List Addr) (s : Shared) (Q : Value → Shared → Prop), Reads s.heap (.ref a) d as → d.showable = true → d.hasDict = false → d.depth ≤ 60 → d.shown.length ≤ sizeLine →
      (∀ h' u tk, (∀ b o, s.heap.get? b = some o → h'.get? b = some o) → Q (.str d.shown u) { s with heap := h', toks := tk }) → wpAny (model X.prog X.w) X.A (call fv [.ref a]) Q X.xe s) :
    CallR X fv (fun xs H Q => ∃ (a : Addr) (p : PyData), xs = [.ref a] ∧ Dp X.K H (.ref a) p ∧ p.showable = true ∧ p.hasDict = false ∧ p.depth ≤ 60 ∧ p.shown.length ≤ LIM ∧ Q (.str p.shown) H) := by
  intro pins s σ H xs us Q I r ⟨a, p, e, hd, h1, h2, h3, h4, q⟩
  subst e
  rw [Vals.ref1 r]
  obtain ⟨as, rd⟩ := Dp.reads I p (.ref a) (.ref a) hd rfl
  refine hf a p as s _ rd h1 h2 h3 (lim_size h4) fun h' u tk hk => ?_
  exact ⟨.str p.shown, H, I.kept hk, ⟨u, rfl⟩, q⟩
theorem c_str (room : Room k X.A) (gd : X.A.guards = some []) : CallR X (.type "str") (rC X.K strB) := by
  have hs : CallR X (.type "str") _ := shown_call (fv := .type "str") fun a d as s Q rd h1 h2 h3 h4 hq =>
    str_of_reads rd h1 (fun z => by rw [h2] at z; cases z) gd (by have := room.un; omega) (fun _ _ e => e) hq h4
  refine call_of (CallR.or SkE.call_str_str (CallR.or call_str_int hs)) fun W st ds xs H Q z R r h q => ?_
  have big : ∀ (d : D) (p : PyData), (∃ a, xs = [.ref a]) → (∃ v, xs = [v] ∧ Dp X.K H v p) → showB p = some z → ∃ (a : Addr) (p : PyData), xs = [.ref a] ∧ Dp X.K H (.ref a) p ∧ p.showable = true ∧ p.hasDict = false ∧ p.depth ≤ 60 ∧ p.shown.length ≤ LIM ∧ Q (.str p.shown) H := fun d p ⟨a, e1⟩ ⟨v, e2, hd⟩ hz => by
    unfold showB at hz
    split at hz
    · rename_i c
      cases hz
      rw [e1] at e2
      cases e2
      exact ⟨a, p, e1, hd, c.1, c.2.1, c.2.2.1, c.2.2.2, q W H _ .refl R rfl⟩
    · cases hz
  unfold strB at h
  split at h
  · cases h; obtain ⟨v, rfl, r1⟩ := rel1 r; cases r1; exact .inl ⟨_, rfl, q W H _ .refl R rfl⟩
  · split at h
    · rename_i i hl
      cases h; obtain ⟨v, rfl, r1⟩ := rel1 r; cases r1; exact .inr (.inl ⟨_, rfl, hl, q W H _ .refl R rfl⟩)
    · cases h
  · rename_i ts
    cases e1 : pyT (.tup ts) with
    | none => rw [e1] at h; cases h
    | some p =>
      rw [e1] at h
      obtain ⟨v, rfl, r1⟩ := rel1 r
      have hd := dp_of (.tup ts) p v e1 r1
      obtain ⟨a, vs, rfl, _⟩ := r1
      exact .inr (.inr (big (.t (.tup ts)) p ⟨a, rfl⟩ ⟨_, rfl, hd⟩ h))
  · rename_i ts
    cases e1 : pyT (.lst ts) with
    | none => rw [e1] at h; cases h
    | some p =>
      rw [e1] at h
      obtain ⟨v, rfl, r1⟩ := rel1 r
      have hd := dp_of (.lst ts) p v e1 r1
      obtain ⟨a, vs, rfl, _⟩ := r1
      exact .inr (.inr (big (.t (.lst ts)) p ⟨a, rfl⟩ ⟨_, rfl, hd⟩ h))
  · rename_i n
    cases e1 : pyD st (.r n) with
    | none => rw [e1] at h; cases h
    | some p =>
      rw [e1] at h
      obtain ⟨v, rfl, r1⟩ := rel1 r
      have hd := dpD_of R e1 r1
      obtain ⟨a, _, rfl⟩ := r1
      exact .inr (.inr (big (.r n) p ⟨a, rfl⟩ ⟨_, rfl, hd⟩ h))
  · cases h
def reprB (ds : List D) (st : Sto) : Option D := match ds with
  | [.t .non] => some (sD "None")
  | [.t (.bl b)] => some (sD (if b then "True" else "False"))
  | [.t (.str x)] => if (reprText x).length ≤ LIM then some (sD (reprText x)) else none
  | [.t (.int i)] => if i.natAbs.log2 < 1920 then some (sD (toString i)) else none
  | [.t (.tup ts)] => (pyT (.tup ts)).bind showB
  | [.t (.lst ts)] => (pyT (.lst ts)).bind showB
  | [.r n] => (pyD st (.r n)).bind showB
  | _ => none
theorem call_repr_flat : CallR X (.builtin "repr") (fun xs H Q => (xs = [.non] ∧ Q (.str "None") H) ∨ (∃ b, xs = [.bl b] ∧ Q (.str (if b then "True" else "False")) H) ∨ ∃ x, xs = [.str x] ∧ (reprText x).length ≤ LIM ∧ Q (.str (reprText x)) H) := by
  (intro pins s σ H xs us Q I r h)
  rcases h with ⟨rfl, q⟩ | ⟨b, rfl, q⟩ | ⟨x, rfl, hl, q⟩
  · cases r with
    | cons r1 rn => cases rn; cases r1; exact PySem.P.repr_of_none ⟨.str _, H, I.tok _, ⟨_, rfl⟩, q⟩
  · cases r with
    | cons r1 rn => cases rn; cases r1; exact PySem.P.repr_of_bool ⟨.str _, H, I.tok _, ⟨_, rfl⟩, q⟩
  · cases r with
    | cons r1 rn =>
      cases rn
      obtain ⟨t, rfl⟩ := r1
      exact PySem.P.repr_of_str ⟨.str _, H, I.tok _, ⟨_, rfl⟩, q⟩ (lim_size hl)
theorem c_reprU (room : X.A.units + 200 < cLine) (gd : X.A.guards = some []) : CallR X (.builtin "repr") (rC X.K reprB) := by
  have hs : CallR X (.builtin "repr") _ := shown_call (fv := .builtin "repr") fun a d as s Q rd h1 h2 h3 h4 hq =>
    repr_of_reads' rd h1 (fun z => by rw [h2] at z; cases z) gd (by omega) (fun _ _ e => e) hq h4
  refine call_of (CallR.or call_repr_flat (CallR.or SkE.call_repr_int hs)) fun W st ds xs H Q z R r h q => ?_
  have big : ∀ (d : D) (p : PyData), (∃ a, xs = [.ref a]) → (∃ v, xs = [v] ∧ Dp X.K H v p) → showB p = some z → ∃ (a : Addr) (p : PyData), xs = [.ref a] ∧ Dp X.K H (.ref a) p ∧ p.showable = true ∧ p.hasDict = false ∧ p.depth ≤ 60 ∧ p.shown.length ≤ LIM ∧ Q (.str p.shown) H := fun d p ⟨a, e1⟩ ⟨v, e2, hd⟩ hz => by
    unfold showB at hz
    split at hz
    · rename_i c
      cases hz
      rw [e1] at e2
      cases e2
      exact ⟨a, p, e1, hd, c.1, c.2.1, c.2.2.1, c.2.2.2, q W H _ .refl R rfl⟩
    · cases hz
  unfold reprB at h
  split at h
  · cases h; obtain ⟨v, rfl, r1⟩ := rel1 r; cases r1; exact .inl (.inl ⟨rfl, q W H _ .refl R rfl⟩)
  · cases h; obtain ⟨v, rfl, r1⟩ := rel1 r; cases r1; exact .inl (.inr (.inl ⟨_, rfl, q W H _ .refl R rfl⟩))
  · split at h
    · rename_i x hl
      cases h; obtain ⟨v, rfl, r1⟩ := rel1 r; cases r1; exact .inl (.inr (.inr ⟨_, rfl, hl, q W H _ .refl R rfl⟩))
    · cases h
  · split at h
    · rename_i i hl
      cases h; obtain ⟨v, rfl, r1⟩ := rel1 r; cases r1; exact .inr (.inl ⟨_, rfl, hl, q W H _ .refl R rfl⟩)
    · cases h
  · rename_i ts
    cases e1 : pyT (.tup ts) with
    | none => rw [e1] at h; cases h
    | some p =>
      rw [e1] at h
      obtain ⟨v, rfl, r1⟩ := rel1 r
      have hd := dp_of (.tup ts) p v e1 r1
      obtain ⟨a, vs, rfl, _⟩ := r1
      exact .inr (.inr (big (.t (.tup ts)) p ⟨a, rfl⟩ ⟨_, rfl, hd⟩ h))
  · rename_i ts
    cases e1 : pyT (.lst ts) with
    | none => rw [e1] at h; cases h
    | some p =>
      rw [e1] at h
      obtain ⟨v, rfl, r1⟩ := rel1 r
      have hd := dp_of (.lst ts) p v e1 r1
      obtain ⟨a, vs, rfl, _⟩ := r1
      exact .inr (.inr (big (.t (.lst ts)) p ⟨a, rfl⟩ ⟨_, rfl, hd⟩ h))
  · rename_i n
    cases e1 : pyD st (.r n) with
    | none => rw [e1] at h; cases h
    | some p =>
      rw [e1] at h
      obtain ⟨v, rfl, r1⟩ := rel1 r
      have hd := dpD_of R e1 r1
      obtain ⟨a, _, rfl⟩ := r1
      exact .inr (.inr (big (.r n) p ⟨a, rfl⟩ ⟨_, rfl, hd⟩ h))
  · cases h
/-! ### texts -/
theorem c_repr (room : Room k X.A) (gd : X.A.guards = some []) : CallR X (.builtin "repr") (rC X.K reprB) := c_reprU (by have := room.un; omega) gd
theorem relTs_strs {K : PySem.W.Frag} {F : Addr → Prop} {H : Hp} : ∀ ys : List Str, RelTs K F H (ys.map .str) (ys.map V.str)
  | [] => rfl
  | y :: ys => ⟨.str y, _, rfl, rfl, relTs_strs ys⟩
def splitG (d : D) (ds : List D) (st : Sto) : Option (D × Sto) := match d, ds with
  | .t (.str a), [.t (.str b)] => if (b.length == 0) = false ∧ a.length + 2 ≤ LIM then some (.t (.lst ((Txt.split a b).map .str)), st) else none
  | _, _ => none
theorem m_split : MtR X "str.split" (rMt X.K splitG) := by
  intro pins s σ H x xs v us Q I rx rs ⟨W, st, d, ds, R, r1, r2, z, h, q⟩
  unfold splitG at h
  split at h
  · rename_i a b
    split at h
    · rename_i c
      cases h
      obtain ⟨w, rfl, r3⟩ := rel1 r2
      cases r1; cases r3
      refine mt_split pins s σ H _ _ v us Q I rx rs ⟨a, b, rfl, rfl, c.1, lim_size c.2, fun p hp => ?_⟩
      exact q (W.fix p) _ _ (Ext.fix W hp) (R.fix hp) ⟨p, _, rfl, .inr rfl, upd_same, relTs_strs _⟩
    · cases h
  · cases h
/-- xs.count(y), flat -/
def rCntV (K : PySem.W.Frag) : V → List V → Hp → VK → Prop := fun x xs H Q => ∃ (p : Addr) (ys : List V) (y : V), x = .ref p ∧ xs = [y] ∧ SqL K H p ys ∧ flatV y = true ∧ ys.all flatV = true ∧ Q (.int ((ys.countP fun z => eqV z y : Nat) : Int)) H
theorem count_eqU {x : V} : ∀ {xs : List V} {us : List Value}, Vals xs us → xs.all flatV = true → us.countP (eqU x) = xs.countP fun y => eqV y x
  | _, _, .nil, _ => rfl
  | _, _, .cons r t, f => by
    (rw [List.all_cons, Bool.and_eq_true] at f)
    rw [List.countP_cons, List.countP_cons, count_eqU t f.2, eqU_of r f.1]
theorem mt_countV : MtR X "list.count" (rCntV X.K) := by
  intro pins s σ H x xs v us Q I rx rxs ⟨p, ys, y, e1, e2, hs, fy, fys, q⟩
  subst e1; subst e2
  cases rx
  (obtain ⟨u, rfl, ru⟩ := rxs.one)
  (obtain ⟨its, rv, ⟨⟨cls, dd, data, sl⟩, n, ho, hc, hdn, hd⟩, hlen⟩ := I.list hs)
  simp only at hc hd
  subst hc hd
  refine call_meets PySem.F.slot_list_count ⟨_, ho, rfl⟩ PySem.F.entry_list_count (PySem.F.args_list_count_2 _ _) (SeqAt.list_countAt p its.toArray n dd sl u (eqU y)) ⟨ho, fun z hz => mem_eqAt ru fy rv fys z (by simpa using hz), ?_⟩
  have e := count_eqU rv fys (x := y)
  refine ⟨.int ((ys.countP fun z => eqV z y : Nat) : Int), H, I.tok _, ⟨s.toks, ?_⟩, q⟩
  show Value.int ((its.toArray.toList.countP (eqU y) : Nat) : Int) s.toks = _
  rw [List.toList_toArray, e]
def countG (d : D) (ds : List D) (st : Sto) : Option (D × Sto) := match ds with
  | [.t y] => (tV y).bind fun w => (lsq st d).bind fun is => (tVs is).map fun vs => (iD ((vs.countP fun z => eqV z w : Nat) : Int), st)
  | _ => none
theorem m_count : MtR X "list.count" (rMt X.K countG) := by
  intro pins s σ H x xs v us Q I rx rs ⟨W, st, d, ds, R, r1, r2, z, h, q⟩
  unfold countG at h
  split at h
  · rename_i y
    cases e1 : tV y with
    | none => rw [e1] at h; cases h
    | some w =>
      cases e2 : lsq st d with
      | none => rw [e1, e2] at h; cases h
      | some is =>
        rw [e1, e2] at h
        have h : (tVs is).map (fun vs => (iD ((vs.countP fun z => eqV z w : Nat) : Int), st)) = some z := h
        cases e3 : tVs is with
        | none => rw [e3] at h; cases h
        | some vs =>
          rw [e3] at h
          cases h
          obtain ⟨u, rfl, r3⟩ := rel1 r2
          obtain ⟨a, ws, rfl, sq, rr⟩ := lsq_rel R e2 r1
          obtain ⟨rfl, f1⟩ := tV_rel e1 r3
          obtain ⟨rfl, f2⟩ := tVs_rel e3 rr
          exact mt_countV pins s σ H _ _ v us Q I rx rs ⟨a, _, _, rfl, rfl, sq, f1, f2, q W H _ .refl R rfl⟩
  · cases h
def strsOf : List D → Option (List Str)
  | [] => some []
  | .t (.str i) :: r => (strsOf r).map (i :: ·)
  | _ => none
theorem strsOf_rel {K : PySem.W.Frag} {W : Wd} {H : Hp} : ∀ {ds : List D} {ns : List Str} {vs : List V}, strsOf ds = some ns → RelDs K W H ds vs → vs = ns.map V.str
  | [], ns, vs, h, r => by cases h; exact r
  | d :: ds, ns, vs, h, r => by
    obtain ⟨v, u, rfl, r1, r2⟩ := r
    unfold strsOf at h
    split at h
    · rename_i heq; cases heq
    · rename_i i r' heq
      cases heq
      cases e : strsOf ds with
      | none => (rw [e] at h; cases h)
      | some ms =>
        rw [e] at h
        cases h
        cases r1
        rw [strsOf_rel e r2]; rfl
    · cases h
def joinG (d : D) (ds : List D) (st : Sto) : Option (D × Sto) := match d, ds with
  | .t (.str a), [y] => (items st y).bind fun is => (strsOf is).bind fun ys => if (ys.map (·.length)).sum + ys.length * a.length ≤ LIM then some (sD (Txt.join a ys), st) else none
  | _, _ => none
theorem m_join : MtR X "str.join" (rMt X.K joinG) := by
  intro pins s σ H x xs v us Q I rx rs ⟨W, st, d, ds, R, r1, r2, z, h, q⟩
  unfold joinG at h
  split at h
  · rename_i a y
    cases e1 : items st y with
    | none => rw [e1] at h; cases h
    | some is =>
      rw [e1] at h
      have h : ((strsOf is).bind fun ys => if (ys.map (·.length)).sum + ys.length * a.length ≤ LIM then some (sD (Txt.join a ys), st) else none) = some z := h
      cases e2 : strsOf is with
      | none => rw [e2] at h; cases h
      | some ys =>
        rw [e2] at h
        have h : (if (ys.map (·.length)).sum + ys.length * a.length ≤ LIM then some (sD (Txt.join a ys), st) else none) = some z := h
        split at h
        · rename_i c
          cases h
          obtain ⟨u, rfl, r3⟩ := rel1 r2
          cases r1
          obtain ⟨p, ws, rfl, sq, rr⟩ := items_seq R e1 r3
          have e3 := strsOf_rel e2 rr
          subst e3
          exact mt_join pins s σ H _ _ v us Q I rx rs ⟨a, p, ys, rfl, rfl, sq, Nat.le_trans c (by decide), q W H _ .refl R rfl⟩
        · cases h
  · cases h
end

/-! ### what the module has written -/
mutual
/-- the module's value says this -/
def repV (K : PySem.W.Frag) : Value → T → Bool
  | .none, .non => true
  | .bool b, .bl c => b == c
  | .int i _, .int j => i == j
  | .str x _, .str y => x == y
  | .type n, .ty m => n == m
  | .ref a, .glb b => a == b
  | .ref a, .tup ts => match K.lookup a with
    | some ⟨.type "tuple", _, .seq its _, _⟩ => decide (its.size ≤ sizeLine) && repVs K its.toList ts
    | _ => false
  | .ref a, .scr ts => match K.lookup a with
    | some ⟨.type "list", none, .seq its _, _⟩ => decide (its.size ≤ sizeLine) && repVs K its.toList ts
    | _ => false
  | _, _ => false
def repVs (K : PySem.W.Frag) : List Value → List T → Bool
  | [], [] => true
  | u :: us, t :: ts => repV K u t && repVs K us ts
  | _, _ => false
end
mutual
theorem repV_ok {K : PySem.W.Frag} : ∀ {u : Value} {t : T}, repV K u t = true → ∃ v, RelV v u ∧ ∀ F H, RelT K F H t v
  | u, .ins .., h => by cases u <;> (unfold repV at h; cases h)
  | u, .dk .., h => by cases u <;> (unfold repV at h; cases h)
  | u, .dt .., h => by cases u <;> (unfold repV at h; cases h)
  | u, .non, h => by cases u <;> first | exact ⟨.non, rfl, fun _ _ => rfl⟩ | (unfold repV at h; cases h)
  | u, .bl c, h => by
    cases u <;> first | (unfold repV at h; cases h; done) | skip
    rename_i b
    unfold repV at h
    have e : b = c := beq_iff_eq.mp h
    subst e
    exact ⟨.bl b, rfl, fun _ _ => rfl⟩
  | u, .int c, h => by
    cases u <;> first | (unfold repV at h; cases h; done) | skip
    rename_i b t
    unfold repV at h
    have e : b = c := beq_iff_eq.mp h
    subst e
    exact ⟨.int b, ⟨t, rfl⟩, fun _ _ => rfl⟩
  | u, .str c, h => by
    cases u <;> first | (unfold repV at h; cases h; done) | skip
    rename_i b t
    unfold repV at h
    have e : b = c := beq_iff_eq.mp h
    subst e
    exact ⟨.str b, ⟨t, rfl⟩, fun _ _ => rfl⟩
  | u, .ty c, h => by
    cases u <;> first | (unfold repV at h; cases h; done) | skip
    rename_i b
    unfold repV at h
    have e : b = c := beq_iff_eq.mp h
    subst e
    exact ⟨.ty b, rfl, fun _ _ => rfl⟩
  | u, .glb c, h => by
    cases u <;> first | (unfold repV at h; cases h; done) | skip
    rename_i b
    unfold repV at h
    have e : b = c := beq_iff_eq.mp h
    subst e
    exact ⟨.ref b, rfl, fun _ _ => rfl⟩
  | u, .lst c, h => by cases u <;> (unfold repV at h; cases h)
  | u, .tup ts, h => by
    cases u <;> first | (unfold repV at h; cases h; done) | skip
    rename_i a
    unfold repV at h
    split at h
    · rename_i dd its n sl hk
      rw [Bool.and_eq_true] at h
      obtain ⟨vs, h1, h2⟩ := repVs_ok h.2
      exact ⟨.ref a, rfl, fun F H => ⟨a, vs, rfl, .inr ⟨_, its, n, hk, rfl, rfl, of_decide_eq_true h.1, h1⟩, h2 F H⟩⟩
    · cases h
  | u, .scr ts, h => by
    cases u <;> first | (unfold repV at h; cases h; done) | skip
    rename_i a
    unfold repV at h
    split at h
    · rename_i its n sl hk
      rw [Bool.and_eq_true] at h
      obtain ⟨vs, h1, h2⟩ := repVs_ok h.2
      exact ⟨.ref a, rfl, fun F H => ⟨a, vs, rfl, .inr ⟨_, its, n, hk, rfl, rfl, rfl, of_decide_eq_true h.1, h1⟩, h2 F H⟩⟩
    · cases h
theorem repVs_ok {K : PySem.W.Frag} : ∀ {us : List Value} {ts : List T}, repVs K us ts = true → ∃ vs, Vals vs us ∧ ∀ F H, RelTs K F H ts vs
  | [], [], _ => ⟨[], .nil, fun _ _ => rfl⟩
  | u :: us, t :: ts, h => by
    unfold repVs at h
    rw [Bool.and_eq_true] at h
    obtain ⟨v, h1, h2⟩ := repV_ok h.1
    obtain ⟨vs, h3, h4⟩ := repVs_ok h.2
    exact ⟨v :: vs, .cons h1 h3, fun F H => ⟨v, vs, rfl, h2 F H, h4 F H⟩⟩
  | [], _ :: _, h => by unfold repVs at h; cases h
  | _ :: _, [], h => by unfold repVs at h; cases h
end
/-- a constant of the module -/
def Con (K : PySem.W.Frag) (mg : Str → Option Value) (x : Str) (t : T) : Prop := ∃ u v, mg x = some u ∧ RelV v u ∧ ∀ F H, RelT K F H t v
theorem con_of {K : PySem.W.Frag} {mg : Str → Option Value} {x : Str} {u : Value} {t : T} (hm : mg x = some u) (h : repV K u t = true) : Con K mg x t := by
  obtain ⟨v, h1, h2⟩ := repV_ok h
  exact ⟨u, v, hm, h1, h2⟩
/-- a table of the module: text keys -/
def tabEs (K : PySem.W.Frag) : List DictEntry → List (Str × T) → Bool
  | [], [] => true
  | e :: es, (x, t) :: r => (match e.key with | .str y _ => y == x | _ => false) && !e.refKey && repV K e.val t && tabEs K es r
  | _, _ => false
theorem tabEs_find {K : PySem.W.Frag} : ∀ {es : List DictEntry} {tb : List (Str × T)}, tabEs K es tb = true → (es.any (·.refKey) = false) ∧ ∀ z, match tb.lookup z with
    | some t => ∃ e, es.find? (·.key.isStr z) = some e ∧ repV K e.val t = true
    | none => es.find? (·.key.isStr z) = none
  | [], [], _ => ⟨rfl, fun _ => rfl⟩
  | e :: es, (x, t) :: r, h => by
    unfold tabEs at h
    rw [Bool.and_eq_true, Bool.and_eq_true, Bool.and_eq_true] at h
    (obtain ⟨⟨⟨h1, h2⟩, h3⟩, h4⟩ := h)
    obtain ⟨i1, i2⟩ := tabEs_find h4
    refine ⟨by rw [List.any_cons, i1]; cases q : e.refKey <;> simp [q] at h2 ⊢, fun z => ?_⟩
    split at h1
    · rename_i y tk hk
      have e1 : y = x := beq_iff_eq.mp h1
      subst e1
      have ks : e.key.isStr z = (y == z) := by rw [hk]; rfl
      by_cases hz : z = y
      · subst hz
        have l : List.lookup z ((z, t) :: r) = some t := by simp [List.lookup]
        rw [l]
        exact ⟨e, by rw [List.find?_cons, ks]; simp, h3⟩
      · have hb : (z == y) = false := by simpa using hz
        have hb2 : (y == z) = false := by simpa using fun q => hz (Eq.symm q)
        have l : List.lookup z ((y, t) :: r) = List.lookup z r := by simp [List.lookup, hb]
        rw [l]
        have q := i2 z
        rw [List.find?_cons, ks, hb2]
        exact q
    · cases h1
  | [], _ :: _, h => by unfold tabEs at h; cases h
  | _ :: _, [], h => by unfold tabEs at h; cases h
structure Tab (K : PySem.W.Frag) (w : World) (mg : Str → Option Value) (x : Str) (tb : List (Str × T)) : Prop where
  ex : ∃ d es n, mg x = some (.ref d) ∧ KDict K w d es n ∧ tabEs K es.toList tb = true
section
variable {X : Cx} {Wx : WX} {a b e : Expr} {fa : Env → Sto → Res D} {x : Str} {p pos : Pos} {tb : List (Str × T)}
theorem tab_ns {K : PySem.W.Frag} {w : World} {d : Addr} {es : Array DictEntry} {n : Nat} (D : KDict K w d es n) (h : tabEs K es.toList tb = true) (z : Str) : ∃ r, PySem.W.nsIn K d z = some r ∧ match tb.lookup z with
    | some t => ∃ u, r = some u ∧ repV K u t = true
    | none => r = none := by
  obtain ⟨h1, h2⟩ := tabEs_find h
  have h3 := h2 z
  unfold PySem.W.nsIn
  rw [D.at_]
  simp only
  cases q : tb.lookup z with
  | none =>
    rw [q] at h3
    simp only at h3
    rw [h3]
    simp only [h1]
    exact ⟨none, rfl, rfl⟩
  | some t =>
    rw [q] at h3
    obtain ⟨en, e1, e2⟩ := h3
    rw [e1]
    exact ⟨some en.val, rfl, en.val, rfl, e2⟩
/-- k in TABLE, k not in TABLE, TABLE[k] -/
def tabIn (tb : List (Str × T)) (fa : Env → Sto → Res D) (env : Env) (st : Sto) : Res D := (fa env st).bind fun d st1 => match d with
  | .t (.str z) => .ok (bD (tb.lookup z).isSome) st1
  | _ => .bad
def tabNotIn (tb : List (Str × T)) (fa : Env → Sto → Res D) (env : Env) (st : Sto) : Res D := (fa env st).bind fun d st1 => match d with
  | .t (.str z) => .ok (bD (!(tb.lookup z).isSome)) st1
  | _ => .bad
def tabIx (tb : List (Str × T)) (fa : Env → Sto → Res D) (env : Env) (st : Sto) : Res D := (fa env st).bind fun d st1 => match d with
  | .t (.str z) => optR ((tb.lookup z).map .t) st1
  | _ => .bad
theorem re_tabIn (Tb : Tab X.K X.w X.mg x tb) (hg : Gl X x) (ha : RE X Wx a fa) (hd : (x == ("__debug__" : Str)) = false := by decide) (hm : behindInMarks .In (.Name x p) = false := by rfl) : RE X Wx (.Compare a [.In] [.Name x p] pos) (tabIn tb fa) := by
  obtain ⟨d, es, n, hmg, D, ht⟩ := Tb.ex
  refine PE.conv (pe_cmpR (op_in_kd D) ha (pe_glob (v := .ref d) hg hmg rfl hd) hm) fun σ H Q ⟨W, env, st, R, Ev, h⟩ => ⟨W, env, st, R, Ev, split h (fun d0 st1 h1 W1 H1 v E1 R1 r1 => ?_) fun C fs st' hx => hx⟩
  split at h1
  · rename_i z
    cases r1
    obtain ⟨r, e1, e2⟩ := tab_ns D ht z
    refine ⟨z, r, rfl, rfl, e1, ?_⟩
    have er : r.isSome = (tb.lookup z).isSome := by
      cases q : tb.lookup z with
      | none => rw [q] at e2; simp only at e2; rw [e2]; rfl
      | some t => rw [q] at e2; obtain ⟨u, e3, _⟩ := e2; rw [e3]; rfl
    rw [er]
    exact h1 W1 H1 _ E1 R1 rfl
  · exact h1.elim
theorem re_tabNotIn (Tb : Tab X.K X.w X.mg x tb) (hg : Gl X x) (ha : RE X Wx a fa) (hd : (x == ("__debug__" : Str)) = false := by decide) (hm : behindInMarks .NotIn (.Name x p) = false := by rfl) : RE X Wx (.Compare a [.NotIn] [.Name x p] pos) (tabNotIn tb fa) := by
  obtain ⟨d, es, n, hmg, D, ht⟩ := Tb.ex
  refine PE.conv (pe_cmpR (op_notIn_kd D) ha (pe_glob (v := .ref d) hg hmg rfl hd) hm) fun σ H Q ⟨W, env, st, R, Ev, h⟩ => ⟨W, env, st, R, Ev, split h (fun d0 st1 h1 W1 H1 v E1 R1 r1 => ?_) fun C fs st' hx => hx⟩
  split at h1
  · rename_i z
    cases r1
    obtain ⟨r, e1, e2⟩ := tab_ns D ht z
    refine ⟨z, r, rfl, rfl, e1, ?_⟩
    have er : r.isSome = (tb.lookup z).isSome := by
      cases q : tb.lookup z with
      | none => rw [q] at e2; simp only at e2; rw [e2]; rfl
      | some t => rw [q] at e2; obtain ⟨u, e3, _⟩ := e2; rw [e3]; rfl
    rw [er]
    exact h1 W1 H1 _ E1 R1 rfl
  · exact h1.elim
/-- TABLE[k]: the subscript of a dict of the module -/
theorem ix_kd {d : Addr} {es : Array DictEntry} {n : Nat} (D : KDict X.K X.w d es n) : IxR X (fun x y H Q => ∃ (z : Str) (u0 : Value) (v0 : V), x = .ref d ∧ y = .str z ∧ PySem.W.nsIn X.K d z = some (some u0) ∧ RelV v0 u0 ∧ Q v0 H) := by
  (intro value slice pins s σ H x y v u Q I rx ry h hs)
  obtain ⟨z, u0, v0, e1, e2, e3, r, q⟩ := h
  subst e1; subst e2
  have ty := kd_type (H := H) (σ := σ) (pins := pins) (s := s) D I
  cases rx
  obtain ⟨t, rfl⟩ := ry
  have run : wpAny (model X.prog X.w) X.A (getItem (.ref d) (.str z t)) (fun r s' => r = u0 ∧ EP X pins σ Q r s') X.xe s :=
    wpAny_getItem_of (PySem.strKind_is X.prog X.w z t) (PySem.W.mapOf_K I.kIn D.at_ D.lit) (PySem.W.find_K D.at_ e3) ⟨rfl, v0, H, I.tok _, r, q⟩
  exact subscriptTail_builtinR (x := u0) ty PySem.F.slot_dict_getitem.lookup run hs
theorem re_tabIx (Tb : Tab X.K X.w X.mg x tb) (hg : Gl X x) (ha : RE X Wx a fa) (hd : (x == ("__debug__" : Str)) = false := by decide) (hs : PlainIx a := by exact fun _ _ => rfl) : RE X Wx (.Subscript (.Name x p) a pos) (tabIx tb fa) := by
  obtain ⟨d, es, n, hmg, D, ht⟩ := Tb.ex
  refine PE.conv (pe_ix (ix_kd D) (pe_glob (v := .ref d) hg hmg rfl hd) ha hs) fun σ H Q ⟨W, env, st, R, Ev, h⟩ => ⟨W, env, st, R, Ev, split h (fun d0 st1 h1 W1 H1 v E1 R1 r1 => ?_) fun C fs st' hx => hx⟩
  split at h1
  · rename_i z
    cases r1
    obtain ⟨w', e1, q⟩ := optR_holds h1
    obtain ⟨r, e2, e3⟩ := tab_ns D ht z
    cases e4 : tb.lookup z with
    | none => rw [e4] at e1; cases e1
    | some t =>
      rw [e4] at e1 e3
      cases e1
      obtain ⟨u0, rfl, e5⟩ := e3
      obtain ⟨v0, h2, h3⟩ := repV_ok e5
      exact ⟨z, u0, v0, rfl, rfl, e2, h2, q W1 H1 v0 E1 R1 (h3 _ _)⟩
  · exact h1.elim
end
end Mi
/-! Mir8 -/
namespace Mi
open PySem PySem.Spec PyProof.Rows L2 RZ
/-! ### the law's own call -/
def script (ns : List Int) : D := .t (.scr (ns.map .int))
theorem relTs_ints {K : PySem.W.Frag} {F : Addr → Prop} {H : Hp} : ∀ ns : List Int, RelTs K F H (ns.map .int) (ns.map V.int)
  | [] => rfl
  | n :: ns => ⟨.int n, _, rfl, rfl, relTs_ints ns⟩
theorem sp_script {K : PySem.W.Frag} {F : List D → Sto → Res D} {ns : List Int} {a : Addr} {H : Hp} (hs : LkAt K H a (ns.map V.int)) (h : ∃ st, F [script ns] [] = .ok (.t (.bl true)) st) : spG K 1 F [.ref a] H (fun v _ => v = .bl true) fun _ _ _ => False := by
  obtain ⟨st, e⟩ := h
  refine ⟨⟨[], fun _ => False⟩, [], [script ns], ⟨rfl, List.nodup_nil, fun n a o h _ => by simp at h, fun a h => absurd h (by simp), fun a h => h.elim⟩, ⟨_, [], rfl, ⟨a, _, rfl, hs, relTs_ints ns⟩, rfl⟩, rfl, ?_⟩
  rw [e]
  exact fun W' H' v _ _ r => r
/-- the law's def, called with the script, gives True and leaves what stood -/
theorem law_run {P : Program} {w : World} {K : PySem.W.Frag} {mg mb : Str → Option Value} {k : Nat} {fa a : Addr} {fd : FuncData} {x : Str} {F : List D → Sto → Res D} {s : Shared} {vs : List Value} {ns : List Int}
    (KX : K.In s.heap) (hns : s.heap.Ns mainGlobals mg) (hb : s.heap.Ns builtinsNs mb) (hbb : ∀ x : Str, x ≠ "__name__" → mb x = bootBuiltins x) (hlim : s.heap.NoLimit) (hg : s.gens = #[])
    (ha : s.heap.get? a = some { cls := .type "list", data := .seq vs.toArray }) (hi : IntsAre vs ns) (hl : ns.length ≤ sizeLine) (room : Room k callerA)
    (G : ∀ base : Heap, K.In base → base.Ns mainGlobals mg → FnG P w K mg base k fa fd [x] (spG K 1 F)) (bnd : ∀ (s : Shared) (u : Value), BindsTo s fd ⟨[u], []⟩ [(x, u)])
    (hF : ∃ st, F [script ns] [] = .ok (.t (.bl true)) st) :
    codeAny (model P w) callerA (.call (.ref fa) ⟨[.ref a], []⟩) (fun r s' => r = .ok (.ret (.bool true)) ∧ OldK s.heap s'.heap ∧ s'.os = s.os ∧ AllBare s'.gens) s := by
  have rv : Vals (ns.map V.int) vs := vals_ints hi
  have many : vs.length = ns.length := hi.length
  -- H: nothing is tracked but, where it is no object of the module, the script
  have main : ∀ H : Hp, (∀ b, b ≠ a → H b = none) → (H a = none ∨ (K.lookup a = none ∧ ∃ o, H a = some (.frz o (.lst (ns.map V.int))))) → LkAt K H a (ns.map V.int) → HOk P w H s.heap →
      codeAny (model P w) callerA (.call (.ref fa) ⟨[.ref a], []⟩) (fun r s' => r = .ok (.ret (.bool true)) ∧ OldK s.heap s'.heap ∧ s'.os = s.os ∧ AllBare s'.gens) s := by
    intro H hO hA hS hok
    have free : ∀ {b : Addr} {o : Obj}, s.heap.get? b = some o → (∃ es ep, o.data = .dict es ep) → H b = none := by
      rintro b o e ⟨es, ep, d⟩
      by_cases hba : b = a
      · rw [hba] at e
        rw [ha] at e
        cases e
        cases d
      · exact hO b hba
    have ns_of : ∀ {b : Addr} {m : Str → Option Value}, s.heap.Ns b m → (hidT s.heap H).Ns b m := by
      rintro b m ⟨o, es, ep, e, d, r⟩
      exact ⟨o, es, ep, hidT_get e (free e ⟨es, ep, d⟩), d, r⟩
    have kin : K.In (hidT s.heap H) := by
      intro b o e
      refine hidT_get (KX b o e) ?_
      by_cases hba : b = a
      · subst hba
        rcases hA with h | ⟨h, _⟩
        · exact h
        · rw [h] at e; cases e
      · exact hO b hba
    obtain ⟨mc, l1, l2⟩ := hlim
    have md : Mod K mg (hidT s.heap H) := ⟨kin, ns_of hns, ⟨mb, ns_of hb, hbb⟩, mc, ns_of l1, l2⟩
    have e0 : Env0 P w K mg (hidT s.heap H) callerA [] s H := ⟨rfl, md, fun b o e => of_hidT e, Nat.le_of_eq (hidT_size _ _), trivial, fun b hb => absurd hb (by intro z; cases z), hok, .of_eq hg⟩
    have run := (G _ kin (ns_of hns)).go callerA [] s H ⟨[.ref a], []⟩ [.ref a] [.ref a] (fun v _ => v = .bl true) (fun _ _ _ => False) room rfl e0 (bnd s (.ref a)) (.cons rfl .nil) (sp_script hS hF)
    refine codeAny_mono run ?_
    intro r s' h
    cases r with
    | error e =>
      have h : L2.CX P w [] H s (fun _ _ _ => False) e s' := h
      (obtain ⟨_, _, _, _, _, _, _, _, _, _, _, _, z⟩ := h)
      exact z.elim
    | ok fl =>
      cases fl with
      | next => exact h.elim
      | brk => exact h.elim
      | cont => exact h.elim
      | ret u =>
        (obtain ⟨v, H', os, bare, un, hok', r', q⟩ := h)
        subst q
        cases r'
        refine ⟨rfl, OldK.of_keep ?_, os, bare⟩
        intro b o e
        cases q : H b with
        | none => exact un.keep b o e q (by intro z; cases z) (by simp)
        | some y =>
          have hba : b = a := Classical.byContradiction fun n => by rw [hO b n] at q; cases q
          subst hba
          rcases hA with h | ⟨_, ob, h⟩
          · rw [h] at q; cases q
          · have h2 := un.frzs b ob _ h
            have e1 := (hok b _ h).1
            have e2 := (hok' b _ h2).1
            rw [e] at e1; cases e1
            exact e2
  cases hk : K.lookup a with
  | some o =>
    have e := KX a o hk
    rw [ha] at e
    cases e
    refine main (fun _ => none) (fun _ _ => rfl) (.inl rfl) (.inr ⟨_, vs.toArray, _, hk, rfl, rfl, rfl, by rw [List.size_toArray, many]; exact hl, by simpa using rv⟩) ?_
    intro b y z
    cases z
  | none =>
    have at_a : (fun b => if b = a then some (HO.frz { cls := .type "list", data := .seq vs.toArray } (.lst (ns.map V.int))) else none) a = some (HO.frz { cls := .type "list", data := .seq vs.toArray } (.lst (ns.map V.int))) := if_pos rfl
    refine main _ (fun b h => if_neg h) (.inr ⟨hk, _, at_a⟩) (.inl ⟨_, at_a⟩) ?_
    intro b y z
    by_cases hba : b = a
    · have z := (if_pos hba).symm.trans z
      cases z
      subst hba
      (exact ⟨ha, by rw [List.length_map]; exact hl, vs, _, rv, ha⟩)
    · have z := (if_neg hba).symm.trans z
      cases z
/-- the goal that k_head leaves -/
theorem law_end {l : PySem.W.OpenLaw} {n k : Nat} {q : Program} {loose : List Str} {XP : (Str → Option Value) → Heap → Prop} {YP : World → Heap → Prop} {d : DefRec} {K : Params → PySem.W.Frag} {x : Str} {F : World → List D → Sto → Res D}
    (hn : l.most = some n) (hn2 : n ≤ sizeLine) (hdf : d.params.defaults = []) (room : Room k callerA) (hY : ∀ (w : World) (h : Heap), YP w h → (K w.params).In h)
    (G : ∀ (w : World) (mg : Str → Option Value) (fa : Addr) (h : Heap), (K w.params).In h → h.Ns mainGlobals mg → mg d.name = some (.ref fa) →
      ∃ fd : FuncData, (∀ (s : Shared) (u : Value), BindsTo s fd ⟨[u], []⟩ [(x, u)]) ∧ ∀ base : Heap, (K w.params).In base → base.Ns mainGlobals mg → FnG l.prog w (K w.params) mg base k fa fd [x] (spG (K w.params) 1 (F w)))
    (hF : ∀ (w : World) (ns : List Int), ns.length ≤ n → ∃ st, F w [script ns] [] = .ok (.t (.bl true)) st) : PySem.W.WalkO q loose XP YP l.row.toRowW d [] (fun f vs => PySem.call f vs) := by
  refine Att.attach_call hn hdf ?_
  intro w s₀ s₁ mg mb fa o pm cd doc a vs ns Gr Y ho hd hcd hmg hobj hints hlen hg
  have KX := hY w _ Y
  obtain ⟨fd, bnd, g⟩ := G w mg fa _ KX Gr.T.g hmg
  exact law_run KX Gr.T.g Gr.T.b Gr.T.builtins Gr.T.nolimit hg hobj hints (Nat.le_trans hlen hn2) room g bnd (hF w ns hlen)

/-! ### zip of two lists, of two tuples -/
def zitems (st : Sto) (d e : D) : Option (List D × List D) := match d, e with
  | .t (.tup ts), .t (.tup us) => some (ts.map .t, us.map .t)
  | d, e => (lsq st d).bind fun a => (lsq st e).map fun b => (a, b)
def zipAt (a b : List D) (i : Nat) : Option (Option D) := match a[i]?, b[i]? with
  | some (.t x), some (.t y) => some (some (.t (.tup [x, y])))
  | some _, some _ => none
  | _, _ => some none
def zipIt (d e : D) (n : Nat) : ItM := ⟨fun st i => (zitems st d e).bind fun p => zipAt p.1 p.2 i, n⟩
theorem zipAt_none {a b : List D} {i : Nat} (h : zipAt a b i = some none) : a.length ≤ i ∨ b.length ≤ i := by
  unfold zipAt at h
  split at h
  · cases h
  · cases h
  · rename_i hno1 hno2
    cases ea : a[i]? with
    | none => exact .inl (List.getElem?_eq_none_iff.mp ea)
    | some x =>
      cases eb : b[i]? with
      | none => exact .inr (List.getElem?_eq_none_iff.mp eb)
      | some y => exact absurd eb (hno2 x y ea)
theorem zipAt_some {a b : List D} {i : Nat} {d : D} (h : zipAt a b i = some (some d)) : ∃ x y, a[i]? = some (.t x) ∧ b[i]? = some (.t y) ∧ d = .t (.tup [x, y]) := by
  unfold zipAt at h
  split at h
  · rename_i x y e1 e2
    cases h
    exact ⟨x, y, e1, e2, rfl⟩
  · cases h
  · cases h
theorem JOk.zipL {K : PySem.W.Frag} {W : Wd} {H : Hp} {st : Sto} {d e : D} {a b : Addr} {n : Nat} {as bs : List D} (R : Rl K W st H) (r1 : RelD K W H d (.ref a)) (r2 : RelD K W H e (.ref b)) (h1 : lsq st d = some as) (h2 : lsq st e = some bs) :
    JOk K (Itz K a b) (zipIt d e n) W H := by
  intro W' H' st' i E' R'
  have nt : ∀ ts, d ≠ .t (.tup ts) := fun ts z => by rw [z] at h1; cases h1
  have get : ∀ o, (zipIt d e n).nth st' i = some o → ∃ as bs vs ws, zipAt as bs i = some o ∧ SqL K H' a vs ∧ SqL K H' b ws ∧ RelDs K W' H' as vs ∧ RelDs K W' H' bs ws := fun o h => by
    have h : (zitems st' d e).bind (fun p => zipAt p.1 p.2 i) = some o := h
    have z : zitems st' d e = (lsq st' d).bind fun a => (lsq st' e).map fun b => (a, b) := by
      unfold zitems
      split
      · rename_i ts us; exact absurd rfl (nt _)
      · rfl
    rw [z] at h
    cases q1 : lsq st' d with
    | none => rw [q1] at h; cases h
    | some xs =>
      cases q2 : lsq st' e with
      | none => rw [q1, q2] at h; cases h
      | some ys =>
        rw [q1, q2] at h
        obtain ⟨a', vs, e1, s1, rr1⟩ := lsq_rel R' q1 (E'.relD R r1)
        obtain ⟨b', ws, e2, s2, rr2⟩ := lsq_rel R' q2 (E'.relD R r2)
        cases e1; cases e2
        exact ⟨xs, ys, vs, ws, h, s1, s2, rr1, rr2⟩
  refine ⟨fun h => ?_, fun dd h => ?_⟩
  · obtain ⟨as, bs, vs, ws, h, s1, s2, rr1, rr2⟩ := get _ h
    exact ⟨vs, ws, s1, s2, by rw [relDs_len rr1, relDs_len rr2]; exact zipAt_none h⟩
  · obtain ⟨as, bs, vs, ws, h, s1, s2, rr1, rr2⟩ := get _ h
    obtain ⟨x, y, q1, q2, rfl⟩ := zipAt_some h
    obtain ⟨v, e3, rv⟩ := relDs_get rr1 q1
    obtain ⟨w, e4, rw'⟩ := relDs_get rr2 q2
    refine ⟨⟨vs, ws, v, w, s1, s2, e3, e4⟩, fun z H2 hy => ?_⟩
    obtain ⟨p, v', w', rfl, hp, rfl, k1, k2⟩ := hy
    have e5 : v = v' := Option.some.inj (e3.symm.trans (k1 vs s1))
    have e6 : w = w' := Option.some.inj (e4.symm.trans (k2 ws s2))
    subst e5; subst e6
    have E2 : Ext W' H' W' (upd H' p (.tup [v, w])) := R'.more hp
    exact ⟨W', E2, R'.rest hp, p, [v, w], rfl, Or.inl upd_same, v, [w], rfl, E2.relT R' _ _ rv, w, [], rfl, E2.relT R' _ _ rw', rfl⟩
theorem JOk.zipT {K : PySem.W.Frag} {W : Wd} {H : Hp} {st : Sto} {ts us : List T} {a b : Addr} {n : Nat} (R : Rl K W st H) (r1 : RelD K W H (.t (.tup ts)) (.ref a)) (r2 : RelD K W H (.t (.tup us)) (.ref b)) :
    JOk K (ItzT K a b) (zipIt (.t (.tup ts)) (.t (.tup us)) n) W H := by
  intro W' H' st' i E' R'
  obtain ⟨a2, vs, z1, q1, rr1⟩ := E'.relD R r1
  obtain ⟨b2, ws, z2, q2, rr2⟩ := E'.relD R r2
  cases z1; cases z2
  have rd1 := relDs_t (K := K) (W := W') rr1
  have rd2 := relDs_t (K := K) (W := W') rr2
  refine ⟨fun h => ?_, fun dd h => ?_⟩
  · have h : zipAt (ts.map .t) (us.map .t) i = some none := h
    exact ⟨vs, ws, q1.sq, q2.sq, by rw [relDs_len rd1, relDs_len rd2]; exact zipAt_none h⟩
  · have h : zipAt (ts.map .t) (us.map .t) i = some (some dd) := h
    obtain ⟨x, y, c1, c2, rfl⟩ := zipAt_some h
    obtain ⟨v, e3, rv⟩ := relDs_get rd1 c1
    obtain ⟨w, e4, rw'⟩ := relDs_get rd2 c2
    refine ⟨⟨vs, ws, v, w, q1.sq, q2.sq, e3, e4⟩, fun z H2 hy => ?_⟩
    obtain ⟨p, v', w', rfl, hp, rfl, k1, k2⟩ := hy
    have e5 : v = v' := Option.some.inj (e3.symm.trans (k1 vs q1.sq))
    have e6 : w = w' := Option.some.inj (e4.symm.trans (k2 ws q2.sq))
    subst e5; subst e6
    have E2 : Ext W' H' W' (upd H' p (.tup [v, w])) := R'.more hp
    exact ⟨W', E2, R'.rest hp, p, [v, w], rfl, Or.inl upd_same, v, [w], rfl, E2.relT R' _ _ rv, w, [], rfl, E2.relT R' _ _ rw', rfl⟩
def zipOf (fs : List (Env → Sto → Res D)) (env : Env) (st : Sto) : Res ItM := (argsM fs env st).bind fun ds s => match ds with
  | [d, e] => optR ((zitems s d e).map fun p => zipIt d e p.1.length) s
  | _ => .bad
section
variable {X : Cx} {Wx : WX} {a b : Expr} {pos p tpos : Pos}
theorem ri_zip {elts : List Expr} {kk : Nat} {fs : List (Env → Sto → Res D)} (hg : Gl X "zip") (hm : X.mg "zip" = none) (ha : RA X Wx [a, b] (argsM fs))
    (hs : starEach [a, b] X.env = (false, eval a X.env) :: starEach [b] X.env := by rfl) (hpl : (backTo pos (starEach [b] X.env)).any (·.1) = false := by rfl) : RI X Wx (.Tuple elts kk tpos) (.Call (.Name "zip" p) [a, b] [] pos) (zipOf fs) := by
  refine PI.conv (pi_zipA hg hm ha hs hpl) fun σ H Q ⟨W, env, st, R, Ev, h⟩ => ⟨W, env, st, R, Ev, split h (fun ds s h1 W1 H1 vs E1 R1 r1 => ?_) fun C fs st' hx => hx⟩
  split at h1
  · rename_i d e
    obtain ⟨it, e1, q⟩ := optR_holds h1
    obtain ⟨v, w, rfl, rd, re⟩ := rel2 r1
    cases q2 : zitems s d e with
    | none => rw [q2] at e1; cases e1
    | some pr =>
      rw [q2] at e1
      cases e1
      unfold zitems at q2
      split at q2
      · rename_i ts us
        obtain ⟨a1, vs1, rfl, s1, rr1⟩ := id rd
        obtain ⟨b1, vs2, rfl, s2, rr2⟩ := id re
        exact ⟨a1, b1, vs1, vs2, rfl, .inr ⟨s1.sq, s2.sq, q W1 H1 _ E1 R1 (.zipT R1 rd re)⟩⟩
      · cases z1 : lsq s d with
        | none => rw [z1] at q2; cases q2
        | some xs =>
          cases z2 : lsq s e with
          | none => rw [z1, z2] at q2; cases q2
          | some ys =>
            obtain ⟨a1, vs1, rfl, s1, rr1⟩ := lsq_rel R1 z1 rd
            obtain ⟨b1, vs2, rfl, s2, rr2⟩ := lsq_rel R1 z2 re
            exact ⟨a1, b1, vs1, vs2, rfl, .inl ⟨s1, s2, q W1 H1 _ E1 R1 (.zipL R1 rd re z1 z2)⟩⟩
  · exact h1.elim
end
end Mi
/-! Mir9 -/
namespace Mi
open PySem PySem.Spec PyProof.Rows L2 RZ
section
variable {X : Cx} {Wx : WX} {a b e l tg : Expr} {f fa fb : Env → Sto → Res D} {pos : Pos} {x : Str}
/-- a constant of the module, by name -/
theorem re_con {t : T} (C : Con X.K X.mg x t) (hg : Gl X x) (hd : (x == ("__debug__" : Str)) = false := by decide) : RE X Wx (.Name x pos) (eC t) := by
  obtain ⟨u, v, h1, h2, h3⟩ := C
  exact re_glob hg h1 h2 h3 hd
/-- + of lists where the sum is changed later -/
def addN (d e : D) (st : Sto) : Option (D × Sto) := (litems st d).bind fun ds => (litems st e).bind fun es => if ds.length + es.length ≤ LIM then some (.r st.length, st ++ [.lst (ds ++ es)]) else none
def binN (g : D → D → Sto → Option (D × Sto)) (fa fb : Env → Sto → Res D) (env : Env) (st : Sto) : Res D := (fa env st).bind fun x st1 => (fb env st1).bind fun y st2 => optS (g x y st2)
theorem re_addN (ha : RE X Wx a fa) (hb : RE X Wx b fb) : RE X Wx (.BinOp a .Add b pos) (binN addN fa fb) := by
  refine PE.conv (pe_op op_cat ha hb) fun σ H Q ⟨W, env, st, R, Ev, h⟩ => ?_
  refine ⟨W, env, st, R, Ev, split h (fun d1 st1 h1 W1 H1 v E1 R1 r1 => ⟨W1, env, st1, R1, Ev.mono E1 R, split h1 (fun d2 st2 h2 W2 H2 w E2 R2 r2 => ?_) fun C fs st' hx => hx.mono E1⟩) fun C fs st' hx => hx⟩
  obtain ⟨z, e0, q⟩ := optS_holds h2
  unfold addN at e0
  cases e1 : litems st2 d1 with
  | none => rw [e1] at e0; cases e0
  | some ds =>
    cases e2 : litems st2 d2 with
    | none => rw [e1, e2] at e0; cases e0
    | some es =>
      rw [e1, e2] at e0
      have e0 : (if ds.length + es.length ≤ LIM then some (D.r st2.length, st2 ++ [SO.lst (ds ++ es)]) else none) = some z := e0
      split at e0
      · rename_i c
        cases e0
        obtain ⟨p1, vs, rfl, q1, rr1⟩ := litems_rel R2 e1 (E2.relD R1 r1)
        obtain ⟨p2, ws, rfl, q2, rr2⟩ := litems_rel R2 e2 r2
        have l1 := relDs_len rr1
        have l2 := relDs_len rr2
        refine ⟨p1, p2, vs, ws, rfl, rfl, q1, q2, lim_size (by omega), fun p hp => ?_⟩
        exact q (W2.add p) _ _ (E1.trans (E2.trans (Ext.add W2 hp))) (R2.add hp (relDs_append rr1 rr2)) ⟨p, by
          show (W2.ρ ++ [p])[st2.length]? = some p
          rw [← R2.len, List.getElem?_append_right (Nat.le_refl _), Nat.sub_self]; rfl, rfl⟩
      · cases e0
/-- a walk over whatever it is -/
def anyIt (d : D) (s : Sto) : Res ItM := match d with
  | .t (.str x) => .ok (strIt x) s
  | .t (.tup ts) => .ok (seqIt (.t (.tup ts)) ts.length) s
  | d => optR ((lsq s d).map fun ds => seqIt d ds.length) s
def anyOf (f : Env → Sto → Res D) (env : Env) (st : Sto) : Res ItM := (f env st).bind anyIt
theorem PI.or {t1 t2 : TI} (h1 : PI X tg l t1) (h2 : PI X tg l t2) : PI X tg l (fun σ H R => t1 σ H R ∨ t2 σ H R) := ⟨fun pins s σ H R I h => h.elim (h1.run pins s σ H R I) (h2.run pins s σ H R I)⟩
theorem any_is (f : Env → Sto → Res D) (env : Env) (st : Sto) : anyOf f env st = lstOf f env st ∨ anyOf f env st = tupOf f env st ∨ anyOf f env st = strOf f env st := by
  unfold anyOf lstOf tupOf strOf
  cases f env st with
  | bad => exact .inl rfl
  | exc C fs s => exact .inl rfl
  | ok d s =>
    cases d with
    | r n => exact .inl rfl
    | x => exact .inl rfl
    | t x => cases x <;> first | exact .inl rfl | exact .inr (.inl rfl) | exact .inr (.inr rfl)
theorem ri_any (h : RE X Wx l f) : RI X Wx tg l (anyOf f) := by
  refine PI.conv (PI.or (ri_list h) (PI.or (ri_tup h) (ri_str h))) fun σ H Q ⟨W, env, st, R, Ev, q⟩ => ?_
  rcases any_is f env st with z | z | z
  · exact .inl ⟨W, env, st, R, Ev, z ▸ q⟩
  · exact .inr (.inl ⟨W, env, st, R, Ev, z ▸ q⟩)
  · exact .inr (.inr ⟨W, env, st, R, Ev, z ▸ q⟩)
/-- a * b of whole numbers, or of a tuple and a number -/
def mulA (d e : D) (st : Sto) : Option D := match d with
  | .t (.tup _) => repM d e st
  | _ => mulM d e st
theorem o_mulA : OpR X (binaryOp .Mult) (rM X.K mulA) := by
  have ho : OpR X (binaryOp .Mult) _ := OpR.or (o_mul (X := X)) o_rep
  (intro pins s σ H x y v u Q I r1 r2 h)
  refine ho pins s σ H x y v u Q I r1 r2 ?_
  obtain ⟨W, st, d, e, R, q1, q2, z, e1, q⟩ := h
  unfold mulA at e1
  split at e1
  · exact .inr ⟨W, st, _, e, R, q1, q2, z, e1, q⟩
  · exact .inl ⟨W, st, d, e, R, q1, q2, z, e1, q⟩
end
/-! ### tables as tests -/
section
variable {X : Cx} {Wx : WX} {a : Expr} {fa : Env → Sto → Res D} {x : Str} {p pos : Pos} {tb : List (Str × T)}
theorem rt_tabIn (Tb : Tab X.K X.w X.mg x tb) (hg : Gl X x) (ha : RE X Wx a fa) (hd : (x == ("__debug__" : Str)) = false := by decide) (hm : behindInMarks .In (.Name x p) = false := by rfl) : RT X Wx (.Compare a [.In] [.Name x p] pos) (fun env st => blOf (tabIn tb fa env st)) := by
  obtain ⟨d, es, n, hmg, D, ht⟩ := Tb.ex
  refine PT.conv (pt_cmpR (op_in_kd D) ha (pe_glob (v := .ref d) hg hmg rfl hd) hm) fun σ H Q ⟨W, env, st, R, Ev, h⟩ => ⟨W, env, st, R, Ev, split (split h (A' := fun dd s => (match dd with | .t (.bl k) => OkB X.K W H Q k s | _ => False)) (fun dd s hh => ?_) fun C fs st' hx => hx) (fun d0 st1 h1 W1 H1 v E1 R1 r1 => ?_) fun C fs st' hx => hx⟩
  · split at hh
    · exact hh
    · exact hh.elim
  · split at h1
    · rename_i z
      cases r1
      obtain ⟨r, e1, e2⟩ := tab_ns D ht z
      refine ⟨z, r, rfl, rfl, e1, _, rfl, ?_⟩
      have er : r.isSome = (tb.lookup z).isSome := by
        cases q : tb.lookup z with
        | none => rw [q] at e2; simp only at e2; rw [e2]; rfl
        | some t => rw [q] at e2; obtain ⟨u, e3, _⟩ := e2; rw [e3]; rfl
      rw [er]
      exact h1 W1 H1 E1 R1
    · exact h1.elim
theorem rt_tabNotIn (Tb : Tab X.K X.w X.mg x tb) (hg : Gl X x) (ha : RE X Wx a fa) (hd : (x == ("__debug__" : Str)) = false := by decide) (hm : behindInMarks .NotIn (.Name x p) = false := by rfl) : RT X Wx (.Compare a [.NotIn] [.Name x p] pos) (fun env st => blOf (tabNotIn tb fa env st)) := by
  obtain ⟨d, es, n, hmg, D, ht⟩ := Tb.ex
  refine PT.conv (pt_cmpR (op_notIn_kd D) ha (pe_glob (v := .ref d) hg hmg rfl hd) hm) fun σ H Q ⟨W, env, st, R, Ev, h⟩ => ⟨W, env, st, R, Ev, split (split h (A' := fun dd s => (match dd with | .t (.bl k) => OkB X.K W H Q k s | _ => False)) (fun dd s hh => ?_) fun C fs st' hx => hx) (fun d0 st1 h1 W1 H1 v E1 R1 r1 => ?_) fun C fs st' hx => hx⟩
  · split at hh
    · exact hh
    · exact hh.elim
  · split at h1
    · rename_i z
      cases r1
      obtain ⟨r, e1, e2⟩ := tab_ns D ht z
      refine ⟨z, r, rfl, rfl, e1, _, rfl, ?_⟩
      have er : r.isSome = (tb.lookup z).isSome := by
        cases q : tb.lookup z with
        | none => rw [q] at e2; simp only at e2; rw [e2]; rfl
        | some t => rw [q] at e2; obtain ⟨u, e3, _⟩ := e2; rw [e3]; rfl
      rw [er]
      exact h1 W1 H1 E1 R1
    · exact h1.elim
end
/-! ### no call is left -/
section
variable {P : Program} {w : World} {K : PySem.W.Frag} {mg : Str → Option Value} {base : Heap} {k n : Nat} {f : Addr} {fd : FuncData} {ps : List Str}
theorem badP (hn : ps.length = n) : FnG P w K mg base k f fd ps (spP K n fun _ => .bad) :=
  ⟨spP_count hn, fun A outer s H args us vs Q E room gd e0 bd rel ⟨_, _, _, _, _, z⟩ => z.elim⟩
theorem badG (hn : ps.length = n) : FnG P w K mg base k f fd ps (spG K n fun _ _ => .bad) :=
  ⟨spG_count hn, fun A outer s H args us vs Q E room gd e0 bd rel ⟨_, _, _, _, _, _, z⟩ => z.elim⟩
end
end Mi
/-! Mx -/
namespace Mi
open L2 PySem PySem.Spec PyProof.Rows

/-! ### own exceptions: raised, caught, looked at -/
/-- what the module must say of an own exception class with one field n -/
structure XCls (K : PySem.W.Frag) (C : Addr) (n : Str) : Prop where
  oex : OexC K C
  xf : XfC K C
  no : PySem.W.findIn K (.ref C) n = some none
  ca : (PySem.W.findIn K (.ref C) "__class__" = some (some (.builtin "object.__class__")))
  sp : PySem.W.specialIn K (.builtin "object.__class__") "__get__" = some (some (.builtin "getset_descriptor.__get__"))
  tk : PySem.W.takesIn K (.builtin "object.__class__") = some true
  mr : PySem.W.mroIn K C (.type "object") = some true
/-- the promise of an own __init__ that keeps its argument in the field n -/
def spI (n : Str) (C : Addr) : Sp := fun vs H Q E => ∃ a y, vs = [.ref a, y] ∧ H a = some (exo a C none) ∧ ∀ dx, H dx = none → dx ≠ a → Q .non (upd (upd H dx (exd dx [(n, y)])) a (exo a C (some dx)))
section
variable {P : Program} {w : World}  {K : PySem.W.Frag}  {mg : Str → Option Value} {base : Heap}
theorem init_ok {qual n sf vl : Str} {st : Stmt} {f C : Addr} {fd : FuncData} {p1 p2 p3 p4 : Pos} (F : Fun K "__init__" qual st f fd) (S : FnScope [sf, vl] [sf, vl] (defScope st)) (X : XCls K C n)
    (hb : defBody st = [.Assign [.Attribute (.Name sf p1) n p2] (.Name vl p3) p4])
    (h0 : (defScope st).names.lookup sf = some .local) (h1 : (defScope st).names.lookup vl = some .local) (d0 : (sf == ("__debug__" : Str)) = false) (c0 : (sf == ("__classdict__" : Str)) = false) (d1 : (vl == ("__debug__" : Str)) = false) (c1 : (vl == ("__classdict__" : Str)) = false)
    (hs : ∀ env, swapsWith (.Name vl p3) (some (.Attribute (.Name sf p1) n p2)) p4.line env = pure false) : FnOk P w K mg base CX0 1 f fd [sf, vl] (spI n C) := by
  refine Fun.ok (k := 0) F S (fun vs H Q E ⟨a, y, e, _⟩ => by rw [e]; rfl) fun cd A outer s H vs Q E room ⟨a, y, e, ha, q⟩ => ?_
  refine ⟨_, (by rw [hb]; exact pss_one (ps_ost (pe_var (i := 0) rfl (.inl h0) d0 c0) (pe_var (i := 1) rfl (.inl h1) d1 c1) (hs _))), ?_⟩
  subst e
  refine ⟨y, rfl, .ref a, rfl, a, C, rfl, X.oex, X.no, .inl ⟨ha, fun dx hd ne => q dx hd ne⟩⟩
end
section
variable {X : Cx} {Wx : WX} {e : Expr} {f : Env → Sto → Res D} {x n : Str} {p pos pos' : Pos}
/-- raise C(e) -/
def raiseM (C : Addr) (n : Str) (f : Env → Sto → Res D) (env : Env) (st : Sto) : Out := (f env st).out env fun d s => match d with
  | .t t => .exc C [(n, t)] env s
  | _ => .bad
theorem rs_raise {C fI : Addr} {fd : FuncData} {ps : List Str} {k : Nat} (hc : X.calm = true) (tk : Takes X Wx) (T : XCls X.K C n) (iC : PySem.W.findIn X.K (.ref C) "__init__" = some (some (.ref fI))) (tI : PySem.W.typeIn X.K (.ref fI) = some (.type "function"))
    (F1 : FnOk X.prog X.w X.K X.mg X.base CX0 k fI fd ps (spI n C)) (hr : Room (k + 1) X.A) (hb : Binds X.K fd ps []) (hg : Gl X x) (hm : X.mg x = some (.ref C)) (he : RE X Wx e f)
    (hdb : (x == ("__debug__" : Str)) = false := by decide) (hse : starEach [e] X.env = (false, eval e X.env) :: starEach [] X.env := by rfl) (hpl : (backTo pos (starEach [] X.env)).any (·.1) = false := by rfl) :
    RS X Wx (.Raise (some (.Call (.Name x p) [e] [] pos)) none pos') (raiseM C n f) := by
  refine PS.conv (ps_raise hc tk (pmk_oex T.oex iC tI F1 hr hb .nil pass0 hg hm (ra_cons he ra_nil hse) hdb hse hpl)) fun D σ H ⟨W, env, st, R, Ev, h⟩ => ?_
  refine ⟨W, env, st, R, Ev, ?_⟩
  have sp := out_split (A := fun d s => (match d with
    | .t t => Out.exc C [(n, t)] env s
    | _ => Out.bad).Holds X.K Wx D W H) (show ((f env st).out env fun d s => match d with
    | .t t => .exc C [(n, t)] env s
    | _ => Out.bad).Holds X.K Wx D W H from h) Ev R fun d s hh => hh
  show ((f env st).bind fun d st1 => (argsM [] env st1).bind fun ds st2 => .ok (d :: ds) st2).Holds _ _
  cases q : f env st with
  | bad => rw [q] at sp; exact sp
  | exc C' fs s => rw [q] at sp; exact sp
  | ok d s =>
    rw [q] at sp
    cases d with
    | r n => exact sp.elim
    | x => exact sp.elim
    | t t =>
      intro W1 H1 vs E1 R1 r1
      obtain ⟨y, u, e1, ry, ru⟩ := r1
      cases ru
      subst e1
      refine ⟨by simp, fun a ha => ⟨a, y, rfl, upd_same, fun dx hd ne => ⟨rfl, dx, [(n, y)], upd_same, by rw [upd_ne ne, upd_same], ?_, ?_⟩⟩⟩
      · rw [upd_ne ne] at hd; exact hd
      · rw [upd_ne ne] at hd
        have e2 : upd (del (upd (upd (upd H1 a (exo a C none)) dx (exd dx [(n, y)])) a (exo a C (some dx))) a) dx (.xd [(n, y)]) = upd H1 dx (.xd [(n, y)]) := by
          funext b
          by_cases hb : b = dx
          · rw [hb, upd_same, upd_same]
          · rw [upd_ne hb, upd_ne hb]
            by_cases hb2 : b = a
            · rw [hb2, del_same, ha]
            · rw [del_ne hb2, upd_ne hb2, upd_ne hb, upd_ne hb2]
        rw [e2]
        have E2 : Ext W1 H1 W1 (upd H1 dx (.xd [(n, y)])) := R1.more hd
        exact sp W1 σ _ (some dx) (E1.trans E2) (R1.rest hd) (Ev.mono (E1.trans E2) R) (.inr ⟨dx, [(n, y)], rfl, upd_same, y, [], rfl, E2.relT R1 t y ry, rfl⟩)
/-! ### try .. except C as n -/
/-- the name is gone behind the suite -/
def unset (i : Nat) : Out → Out
  | .nx e s => .nx (e.set i none) s
  | .bk e s => .bk (e.set i none) s
  | .ct e s => .ct (e.set i none) s
  | .rt d s => .rt d s
  | _ => .bad
theorem EnvR.unset {K : PySem.W.Frag} {W : Wd} {H : Hp} {env : Env} {σ : L2.St} (h : EnvR K W H env σ) (i : Nat) : EnvR K W H (env.set i none) (σ.set i none) := by
  refine ⟨by rw [List.length_set, List.length_set]; exact h.len, fun j d q => ?_⟩
  by_cases hj : i = j
  · subst hj
    by_cases hl : i < env.length
    · rw [List.getElem?_set_self hl] at q; cases q
    · rw [List.getElem?_eq_none (by rw [List.length_set]; omega)] at q; cases q
  · rw [List.getElem?_set_ne hj] at q
    obtain ⟨u, e1, r1⟩ := h.get j d q
    exact ⟨u, by rw [List.getElem?_set_ne hj]; exact e1, r1⟩
theorem unset_holds {K : PySem.W.Frag} {E : Ends} {W : Wd} {H : Hp} {i : Nat} {o : Out} (h : (unset i o).Holds K Wx E W H) :
    o.Holds K W0 { nx := fun σ' H' => E.nx (σ'.set i none) H', rt := E.rt, bk := fun σ' H' => E.bk (σ'.set i none) H', ct := fun σ' H' => E.ct (σ'.set i none) H' } W H := by
  cases o with
  | nx e s => exact fun W' σ' H' E' R' V' => h W' _ H' E' R' (V'.unset i)
  | bk e s => exact fun W' σ' H' E' R' V' => h W' _ H' E' R' (V'.unset i)
  | ct e s => exact fun W' σ' H' E' R' V' => h W' _ H' E' R' (V'.unset i)
  | rt d s => exact h
  | exc => exact h.elim
  | bad => exact h.elim
open Classical in
/-- body, and the suite where it lets out an exception of the class that isC knows: the same wherever that exception stands -/
noncomputable def tryAs (i : Nat) (isC : Addr → Option Bool) (body : Env → Sto → Out) (S : Addr → Option Addr → Addr → Env → Sto → Out) (env : Env) (st : Sto) : Out := match body env st with
  | .exc C fs e s => match isC C with
    | some true => if ∀ a o, unset i (S a o C (e.set i (some (.x a o C fs))) s) = unset i (S 0 none C (e.set i (some (.x 0 none C fs))) s) then unset i (S 0 none C (e.set i (some (.x 0 none C fs))) s) else .bad
    | some false => .exc C fs e s
    | none => .bad
  | o => o
theorem rs_tryAs {D : Addr} {i : Nat} {body suite : List Stmt} {b₀ : Stmt} {np : Pos} {isC : Addr → Option Bool} {gb : Env → Sto → Out} {S : Addr → Option Addr → Addr → Env → Sto → Out} (hs : X.stack = X.env :: X.outer) (hf : X.env.frame = some X.env.locals) (hN : X.N.Nodup) (hi : X.N[i]? = some n)
    (hln : X.env.kindOf n = some .local) (hg : Gl X x) (hm : X.mg x = some (.ref D)) (tk : Takes X Wx) (hx : ∀ C b, isC C = some b → PySem.W.exmOne X.K (.ref C) (.ref D) = some b)
    (hb : ∀ (W : WX) (pn : List (Addr × Obj)) (xe : Value → Shared → Prop), Takes (X.tr pn xe) W → PassesOwn (model X.prog X.w) X.A X.env xe → RSs (X.tr pn xe) W body gb)
    (hsu : ∀ (a : Addr) (oe : Obj) (C : Addr) (d : Option Addr) (pn : List (Addr × Obj)), isC C = some true → Zc (.ref C) d oe → (∃ vs, oe.data = .fields vs) → RSs (X.suite a ((a, oe) :: pn)) W0 (b₀ :: suite) (S a d C))
    (hdb : (x == ("__debug__" : Str)) = false := by decide) :
    RS X Wx (.Try body [.ExceptHandler (some (.Name x np)) (some n) (b₀ :: suite) pos'] [] [] pos) (tryAs i isC gb S) := by
  refine PS.conv (ps_try_as (tb := fun W => tS X.K W gb) (ts := fun a cls d => fun D σ H => ∃ C, cls = .ref C ∧ isC C = some true ∧ tS X.K W0 (S a d C) D σ H) hs hf hN hi hln ⟨hg, hdb, .inl hm⟩ tk hb (fun a oe cls d pn hz hfl => ?_)) fun E σ H ⟨W, env, st, R, Ev, h⟩ => ⟨W, env, st, R, Ev, ?_⟩
  · refine ⟨fun pins s σ H D I ⟨C, e, hC, h⟩ => ?_⟩
    subst e
    exact (hsu a oe C d pn hC hz hfl).run pins s σ H D I h
  · unfold tryAs at h
    cases q : gb env st with
    | nx e s => rw [q] at h; exact h
    | bk e s => rw [q] at h; exact h
    | ct e s => rw [q] at h; exact h
    | rt d s => rw [q] at h; exact h
    | bad => rw [q] at h; exact h
    | exc C fs e s =>
      rw [q] at h
      intro W' σ' H' o E' R' V' xx
      cases q2 : isC C with
      | none => simp only [q2] at h; exact h.elim
      | some b =>
        refine ⟨b, hx C b q2, fun hbt a ha => ?_, fun hbf => ?_⟩
        · subst hbt
          simp only [q2] at h
          split at h
          · rename_i all
            refine ⟨C, rfl, q2, W', e.set i (some (.x a o C fs)), s, R', V'.set i ⟨rfl, xx⟩, ?_⟩
            exact Out.Holds.mono (o := S a o C (e.set i (some (.x a o C fs))) s) (unset_holds (by rw [all a o]; exact h)) E'
          · exact h.elim
        · subst hbf
          simp only [q2] at h
          exact h W' σ' H' o E' R' V' xx
/-! ### the caught exception -/
/-- e.n -/
def xfM (a0 : Addr) (o0 : Option Addr) (C0 : Addr) (n : Str) (f : Env → Sto → Res D) (env : Env) (st : Sto) : Res D := (f env st).bind fun d s => match d with
  | .x a o C fs => if a = a0 ∧ o = o0 ∧ C = C0 then optR ((fs.lookup n).map .t) s else .bad
  | _ => .bad
theorem relFs_get {K : PySem.W.Frag} {W : Wd} {H : Hp} {n : Str} : ∀ {fs : List (Str × T)} {vs : List (Str × V)} {t : T}, RelFs K W H fs vs → fs.lookup n = some t → ∃ v, vs.lookup n = some v ∧ RelT K W.F H t v
  | [], vs, t, h, e => by cases e
  | (m, u) :: r, vs, t, h, e => by
    obtain ⟨v, w, rfl, a, b⟩ := h
    rw [L2.lookup_put]
    by_cases hn : n = m
    · subst hn
      rw [if_pos rfl]
      have e : some u = some t := by rw [← e]; simp [List.lookup]
      cases e
      exact ⟨v, rfl, a⟩
    · rw [if_neg hn]
      have hnm : (n == m) = false := by simpa using hn
      have e : r.lookup n = some t := by rw [← e]; simp [List.lookup, hnm]
      exact relFs_get b e
theorem re_xf {a C : Addr} {oe : Obj} {d : Option Addr} {pn : List (Addr × Obj)} (T : XCls X.K C n) (hz : Zc (.ref C) d oe) (hf : ∃ vs, oe.data = .fields vs) (he : RE (X.suite a ((a, oe) :: pn)) Wx e f)
    (hb : attributeBase e n X.env (eval e X.env) = eval e X.env := by rfl) : RE (X.suite a ((a, oe) :: pn)) Wx (.Attribute e n pos) (xfM a d C n f) := by
  refine PE.conv (pe_xf T.xf T.no hz hf he hb) fun σ H Q ⟨W, env, st, R, Ev, h⟩ => ⟨W, env, st, R, Ev, split h (fun z s h1 W1 H1 v E1 R1 r1 => ?_) fun C fs st' hx => hx⟩
  cases z with
  | t => exact h1.elim
  | r => exact h1.elim
  | x a1 o1 C1 fs =>
    dsimp only at h1
    split at h1
    · rename_i c
      obtain ⟨rfl, rfl, rfl⟩ := c
      obtain ⟨u, e1, q⟩ := optR_holds h1
      cases e2 : fs.lookup n with
      | none => rw [e2] at e1; cases e1
      | some t =>
        rw [e2] at e1
        cases e1
        obtain ⟨rfl, xx⟩ := r1
        rcases xx with rfl | ⟨dd, vs, rfl, h2, h3⟩
        · cases e2
        · obtain ⟨y, l, ry⟩ := relFs_get h3 e2
          exact ⟨rfl, rfl, dd, vs, y, rfl, h2, l, q W1 H1 y E1 R1 ry⟩
    · exact h1.elim
/-- isinstance(e, B) -/
def isXB (a0 : Addr) (o0 : Option Addr) (C0 : Addr) (kt : Addr → Addr → Option Bool) (ds : List D) (_ : Sto) : Option D := match ds with
  | [.x a o C (_ :: _), .t (.glb B)] => if a = a0 ∧ o = o0 ∧ C = C0 then (kt C B).map bD else none
  | _ => none
theorem c_isX {a C : Addr} {oe : Obj} {d : Option Addr} {pn : List (Addr × Obj)} {kt : Addr → Addr → Option Bool} (T : XCls X.K C n) (hz : Zc (.ref C) d oe) (hf : ∃ vs, oe.data = .fields vs) (hk : ∀ B b, kt C B = some b → PySem.W.kitOne X.K (.ref C) (.ref B) = some b) :
    CallR (X.suite a ((a, oe) :: pn)) (.builtin "isinstance") (rC X.K (isXB a d C kt)) := by
  intro pins s σ H xs us Q I r ⟨W, st, ds, R, r1, z, e1, q⟩
  unfold isXB at e1
  split at e1
  · rename_i a1 o1 C1 f1 fr B
    split at e1
    · rename_i c
      obtain ⟨rfl, rfl, rfl⟩ := c
      cases e2 : kt C1 B with
      | none => rw [e2] at e1; cases e1
      | some b =>
        rw [e2] at e1
        cases e1
        obtain ⟨v, w, rfl, ra, rb⟩ := rel2 r1
        cases rb
        obtain ⟨rfl, xx⟩ := ra
        cases r with
        | cons rx rr =>
          cases rr with
          | cons rt rr =>
            cases rr
            cases rx
            cases rt
            obtain ⟨hget, _⟩ := I.pin (a1, oe) (List.mem_append.mpr (.inl List.mem_cons_self))
            obtain ⟨vs, hv⟩ := hf
            rcases xx with z | ⟨dd, ws, rfl, h2, h3⟩
            · cases z
            · have hx : ObjOk X.prog X.w H s.heap dd (.xd ws) := I.hok dd _ h2
              obtain ⟨mA, hns, hr⟩ := hx
              obtain ⟨od, ho, hl⟩ := (lookIn_ns hns)
              have J : PySem.W.InstAt s.heap a1 oe C1 (some od) := ⟨hget, hz.1, by unfold PySem.W.notCls; rw [hv] <;> rfl, by rw [hz.2]; exact ho⟩
              have Z := PySem.W.kitx_exc (x := a1) (ox := oe) (od := some od) (by obtain ⟨cd, hc, _⟩ := PySem.W.any_some T.xf.hdC; rw [hc]; rfl) T.xf.ga T.xf.gg T.xf.exC T.ca T.sp T.tk T.mr
              exact PySem.W.kia_one Z I.kIn J (hk B b e2) (fun z => nomatch z) fun tk => ⟨.bl b, H, I.kept (t' := tk) fun _ _ z => z, rfl, q W H _ .refl R rfl⟩
    · cases e1
  · cases e1
theorem re_cls {B : Addr} {x : Str} (hg : Gl X x) (hm : X.mg x = some (.ref B)) (hd : (x == ("__debug__" : Str)) = false := by decide) : RE X Wx (.Name x pos) (eC (.glb B)) := re_glob hg hm (v := .ref B) rfl (fun _ _ => rfl) hd
end
/-! ### tables of classes -/
def lkB (C : Addr) : List (Addr × Bool) → Option Bool
  | [] => none
  | (a, b) :: r => if C = a then some b else lkB C r
def AllB (P : Addr → Bool → Prop) : List (Addr × Bool) → Prop
  | [] => True
  | (a, b) :: r => P a b ∧ AllB P r
theorem lkB_all {P : Addr → Bool → Prop} {C : Addr} {b : Bool} : ∀ {l : List (Addr × Bool)}, AllB P l → lkB C l = some b → P C b
  | [], _, h => by cases h
  | (a, c) :: r, hl, h => by
    have h : (if C = a then some c else lkB C r) = some b := h
    by_cases e : C = a
    · rw [if_pos e] at h
      cases h
      rw [e]
      exact hl.1
    · rw [if_neg e] at h
      exact lkB_all hl.2 h
def kt1 (B0 : Addr) (l : List (Addr × Bool)) (C B : Addr) : Option Bool := if B = B0 then lkB C l else none
theorem kt1_ok {K : PySem.W.Frag} {B0 : Addr} {l : List (Addr × Bool)} (h : AllB (fun C b => PySem.W.kitOne K (.ref C) (.ref B0) = some b) l) {C : Addr} : ∀ B b, kt1 B0 l C B = some b → PySem.W.kitOne K (.ref C) (.ref B) = some b := fun B b e => by
  unfold kt1 at e
  split at e
  · rename_i z
    subst z
    exact lkB_all h e
  · cases e
theorem un2 {k : Nat} {A : Around} (room : Room k A) : A.units + 200 < cLine := by have := room.un; omega
theorem un3 {X : Cx} {k : Nat} {a : Addr} {pn : List (Addr × Obj)} (room : Room k X.A) : (X.suite a pn).A.units + 200 < cLine := by have := room.un; show X.A.units + 200 < cLine; omega
theorem uns3 {X : Cx} {k : Nat} {a : Addr} {pn : List (Addr × Obj)} (room : Room k X.A) : (X.suite a pn).A.units + 64 < cLine := by have := room.un; show X.A.units + 64 < cLine; omega
def clsB : Stmt → List Stmt
  | .ClassDef (body := b) .. => (b)
  | _ => []
/-- the goal that k_head leaves: the mirror may ask for the addresses of the classes -/
theorem law_endX {l : PySem.W.OpenLaw} {n k : Nat} {q : Program} {loose : List Str} {XP : (Str → Option Value) → Heap → Prop} {YP : World → Heap → Prop} {d : DefRec} {K : Params → PySem.W.Frag} {x : Str} {α : Type} {m : α → List D → Sto → Res D}
    (hn : l.most = some n) (hn2 : n ≤ sizeLine) (hdf : d.params.defaults = []) (room : Room k callerA) (hY : ∀ (w : World) (h : Heap), YP w h → (K w.params).In h)
    (G : ∀ (w : World) (mg : Str → Option Value) (fa : Addr) (h : Heap), (K w.params).In h → h.Ns mainGlobals mg → mg d.name = some (.ref fa) →
      ∃ (xc : α) (fd : FuncData), (∀ (s : Shared) (u : Value), BindsTo s fd ⟨[u], []⟩ [(x, u)]) ∧ ∀ base : Heap, (K w.params).In base → base.Ns mainGlobals mg → FnG l.prog w (K w.params) mg base k fa fd [x] (spG (K w.params) 1 (m xc)))
    (hF : ∀ (xc : α) (ns : List Int), ns.length ≤ n → ∃ st, m xc [script ns] [] = .ok (.t (.bl true)) st) : PySem.W.WalkO q loose XP YP l.row.toRowW d [] (fun f vs => PySem.call f vs) := by
  refine Att.attach_call hn hdf ?_
  intro w s₀ s₁ mg mb fa o pm cd doc a vs ns Gr Y ho hd hcd hmg hobj hints hlen hg
  have KX := hY w _ Y
  obtain ⟨xc, fd, bnd, g⟩ := G w mg fa _ KX Gr.T.g hmg
  exact law_run KX Gr.T.g Gr.T.b Gr.T.builtins Gr.T.nolimit hg hobj hints (Nat.le_trans hlen hn2) room g bnd (hF xc ns hlen)
end Mi
/-! Ev -/
namespace Mi
open PySem PySem.Spec PyProof.Rows L2 RZ
/-! ### how mirrors are worked out -/
theorem Res.bind_ok {α β : Type} (a : α) (st : Sto) (k : α → Sto → Res β) : (Res.ok a st).bind k = k a st := rfl
theorem Res.out_ok {α : Type} (a : α) (st : Sto) (env : Env) (k : α → Sto → Out) : (Res.ok a st).out env k = k a st := rfl
theorem optR_ok {α : Type} (a : α) (st : Sto) : optR (some a) st = .ok a st := rfl
def lcL (ga : D → Env → Option Env) (gt : Env → Sto → Res Bool) (fe : Env → Sto → Res D) (env0 : Env) : List D → Sto → List D → Option (List D × Sto)
  | [], st, acc => some (acc, st)
  | d :: r, st, acc => match ga d env0 with
    | some env1 => match gt env1 st with
      | .ok true st1 => match fe env1 st1 with
        | .ok z st2 => if acc.length < LIM then lcL ga gt fe env0 r st2 (acc ++ [z]) else none
        | _ => none
      | .ok false st1 => lcL ga gt fe env0 r st1 acc
      | _ => none
    | none => none
theorem lcI_eq {ga : D → Env → Option Env} {gt : Env → Sto → Res Bool} {fe : Env → Sto → Res D} {env0 : Env} {it : ItM} {ds : List D} (h : ∀ st i, it.nth st i = some ds[i]?) :
    ∀ (m i : Nat) (st : Sto) (acc : List D), ds.length ≤ m + i → lcI ga gt fe it env0 m i st acc = lcL ga gt fe env0 (ds.drop i) st acc
  | 0, i, st, acc, hl => by
    have e : ds[i]? = none := List.getElem?_eq_none_iff.mpr (by omega)
    have e2 : ds.drop i = [] := List.drop_eq_nil_of_le (by omega)
    unfold lcI
    rw [h, e, e2]
    rfl
  | m + 1, i, st, acc, hl => by
    unfold lcI
    rw [h]
    by_cases hi : i < ds.length
    · rw [List.getElem?_eq_getElem hi, List.drop_eq_getElem_cons hi]
      have ih := lcI_eq (ga := ga) (gt := gt) (fe := fe) (env0 := env0) h m (i + 1)
      rw [lcL]
      dsimp only
      cases ga ds[i] env0 with
      | none => rfl
      | some env1 =>
        dsimp only
        cases gt env1 st with
        | bad => rfl
        | exc _ _ _ => rfl
        | ok b st1 =>
          cases b with
          | false => exact ih st1 acc (by omega)
          | true =>
            dsimp only
            cases fe env1 st1 with
            | bad => rfl
            | exc _ _ _ => rfl
            | ok z st2 =>
              dsimp only
              by_cases c : acc.length < LIM
              · rw [if_pos c, if_pos c]; exact ih st2 _ (by omega)
              · rw [if_neg c, if_neg c]
    · have e : ds[i]? = none := List.getElem?_eq_none_iff.mpr (by omega)
      have e2 : ds.drop i = [] := List.drop_eq_nil_of_le (by omega)
      rw [e, e2]
      rfl
theorem lcL_pure {ga : D → Env → Option Env} {gt : Env → Sto → Res Bool} {fe : Env → Sto → Res D} {env0 : Env} {st : Sto} {p : T → Bool} {g : T → T} :
    ∀ (ts : List T) (acc : List D), acc.length + ts.length ≤ LIM → (∀ t ∈ ts, ∃ env1, ga (.t t) env0 = some env1 ∧ gt env1 st = .ok (p t) st ∧ (p t = true → fe env1 st = .ok (.t (g t)) st)) →
      lcL ga gt fe env0 (ts.map .t) st acc = some (acc ++ ((ts.filter p).map g).map .t, st)
  | [], acc, _, _ => by simp [lcL]
  | t :: r, acc, hl, h => by
    obtain ⟨env1, h1, h2, h3⟩ := h t List.mem_cons_self
    have hr := fun acc h4 => lcL_pure r acc h4 fun x hx => h x (List.mem_cons_of_mem _ hx)
    rw [List.length_cons] at hl
    show (match ga (.t t) env0 with
      | some env1 => match gt env1 st with
        | .ok true st1 => match fe env1 st1 with
          | .ok z st2 => if acc.length < LIM then lcL ga gt fe env0 (r.map .t) st2 (acc ++ [z]) else none
          | _ => none
        | .ok false st1 => lcL ga gt fe env0 (r.map .t) st1 acc
        | _ => none
      | none => none) = _
    rw [h1]
    simp only
    rw [h2]
    cases hp : p t with
    | false =>
      simp only
      rw [hr acc (by omega), List.filter_cons, hp]
      rfl
    | true =>
      simp only
      rw [h3 hp]
      simp only
      rw [if_pos (by omega), hr _ (by rw [List.length_append, List.length_singleton]; omega), List.filter_cons, hp]
      simp
theorem lcM_T {us : List Nat} {fi : Env → Sto → Res ItM} {ga : D → Env → Option Env} {gt : Env → Sto → Res Bool} {fe : Env → Sto → Res D} {env : Env} {st s : Sto} {it : ItM} {ts : List T} {p : T → Bool} {g : T → T}
    (hi : fi env st = .ok it s) (hit : ∀ st i, it.nth st i = some (ts.map D.t)[i]?) (hm : it.most = ts.length) (hl : ts.length ≤ LIM)
    (h : ∀ t ∈ ts, ∃ env1, ga (.t t) (wipeE env us) = some env1 ∧ gt env1 s = .ok (p t) s ∧ (p t = true → fe env1 s = .ok (.t (g t)) s)) :
    lcM us fi ga gt fe env st = .ok (.t (.lst ((ts.filter p).map g))) s := by
  unfold lcM
  rw [hi, Res.bind_ok, lcI_eq hit _ _ _ _ (by rw [List.length_map, hm]; omega), List.drop_zero, lcL_pure ts [] (by rw [List.length_nil]; omega) h]
  simp only [List.nil_append, plains_map]
  rfl
/-- no test -/
theorem lcM_all {us : List Nat} {fi : Env → Sto → Res ItM} {ga : D → Env → Option Env} {fe : Env → Sto → Res D} {env : Env} {st s : Sto} {it : ItM} {ts : List T} {g : T → T}
    (hi : fi env st = .ok it s) (hit : ∀ st i, it.nth st i = some (ts.map D.t)[i]?) (hm : it.most = ts.length) (hl : ts.length ≤ LIM)
    (h : ∀ t ∈ ts, ∃ env1, ga (.t t) (wipeE env us) = some env1 ∧ fe env1 s = .ok (.t (g t)) s) :
    lcM us fi ga yesM fe env st = .ok (.t (.lst (ts.map g))) s := by
  have e := lcM_T (us := us) (ga := ga) (gt := yesM) (fe := fe) (p := fun _ => true) (g := g) hi hit hm hl fun t ht => by
    obtain ⟨e1, a, b⟩ := h t ht
    exact ⟨e1, a, rfl, fun _ => b⟩
  rw [e, List.filter_eq_self.mpr (fun _ _ => rfl)]
def forL (ga : D → Env → Option Env) (body : Env → Sto → Out) : List D → Env → Sto → Out
  | [], env, st => .nx env st
  | d :: r, env, st => match ga d env with
    | some env1 => match body env1 st with
      | .nx e s => forL ga body r e s
      | .ct e s => forL ga body r e s
      | .bk e s => .nx e s
      | .rt d s => .rt d s
      | .exc C fs e s => .exc C fs e s
      | .bad => .bad
    | none => .bad
theorem forI_eq {ga : D → Env → Option Env} {body : Env → Sto → Out} {it : ItM} {ds : List D} (h : ∀ st i, it.nth st i = some ds[i]?) :
    ∀ (m i : Nat) (env : Env) (st : Sto), ds.length ≤ m + i → forI ga body it m i env st = forL ga body (ds.drop i) env st
  | 0, i, env, st, hl => by
    have e : ds[i]? = none := List.getElem?_eq_none_iff.mpr (by omega)
    have e2 : ds.drop i = [] := List.drop_eq_nil_of_le (by omega)
    unfold forI
    rw [h, e, e2]
    rfl
  | m + 1, i, env, st, hl => by
    unfold forI
    rw [h]
    by_cases hi : i < ds.length
    · rw [List.getElem?_eq_getElem hi, List.drop_eq_getElem_cons hi]
      have ih := forI_eq (ga := ga) (body := body) h m (i + 1)
      rw [forL]
      dsimp only
      cases ga ds[i] env with
      | none => rfl
      | some env1 =>
        dsimp only
        cases body env1 st with
        | nx e s => exact ih e s (by omega)
        | ct e s => exact ih e s (by omega)
        | _ => rfl
    · have e : ds[i]? = none := List.getElem?_eq_none_iff.mpr (by omega)
      have e2 : ds.drop i = [] := List.drop_eq_nil_of_le (by omega)
      rw [e, e2]
      rfl
theorem forM_eq {fi : Env → Sto → Res ItM} {ga : D → Env → Option Env} {body : Env → Sto → Out} {env : Env} {st s : Sto} {it : ItM} {ds : List D} (hi : fi env st = .ok it s) (h : ∀ st i, it.nth st i = some ds[i]?) (hm : ds.length ≤ it.most) :
    forM' fi ga body env st = forL ga body ds env s := by
  unfold forM'
  rw [hi, Res.out_ok, forI_eq h _ _ _ _ (by omega), List.drop_zero]
/-- the walks -/
theorem nth_tup (ts : List T) (n : Nat) : ∀ st i, (seqIt (.t (.tup ts)) n).nth st i = some (ts.map D.t)[i]? := fun _ _ => rfl
theorem nth_lst (ts : List T) (n : Nat) : ∀ st i, (seqIt (.t (.lst ts)) n).nth st i = some (ts.map D.t)[i]? := fun _ _ => rfl
def chars (x : Str) : List T := x.cps.toList.map fun c => .str ⟨#[c]⟩
theorem nth_str (x : Str) : ∀ st i, (strIt x).nth st i = some ((chars x).map D.t)[i]? := fun st i => by
  unfold strIt chars
  rw [List.map_map, List.getElem?_map, Array.getElem?_toList]
  rfl
theorem any_tup {f : Env → Sto → Res D} {env : Env} {st s : Sto} {ts : List T} (h : f env st = .ok (.t (.tup ts)) s) : anyOf f env st = .ok (seqIt (.t (.tup ts)) ts.length) s := by unfold anyOf; rw [h]; rfl
theorem any_lst {f : Env → Sto → Res D} {env : Env} {st s : Sto} {ts : List T} (h : f env st = .ok (.t (.lst ts)) s) : anyOf f env st = .ok (seqIt (.t (.lst ts)) ts.length) s := by
  unfold anyOf; rw [h]
  show optR (some (seqIt _ (ts.map D.t).length)) s = _
  rw [List.length_map]
  rfl
theorem any_str {f : Env → Sto → Res D} {env : Env} {st s : Sto} {x : Str} (h : f env st = .ok (.t (.str x)) s) : anyOf f env st = .ok (strIt x) s := by unfold anyOf; rw [h]; rfl
/-- tests in a row -/
theorem exitP_rt (t : T) (s : Sto) : exitP (.rt (.t t) s) = .ok t := rfl
end Mi
/-! Mv1 -/
namespace Mi
open L2 PySem PySem.Spec PyProof.Rows

/-! ### what was made while an expression ran stays as it is from here on -/
/-- the world without the new objects -/
theorem cutF {K : PySem.W.Frag} {W W' : Wd} {H H' : Hp} {st s2 : Sto} (R : Rl K W st H) (E' : Ext W H W' H') (R' : Rl K W' s2 H') (hb : (s2.take st.length).all (SO.below st.length) = true) :
    Ext W H ⟨W.ρ, fun b => W'.F b ∨ b ∈ W'.ρ ∧ b ∉ W.ρ⟩ H' ∧ Rl K ⟨W.ρ, fun b => W'.F b ∨ b ∈ W'.ρ ∧ b ∉ W.ρ⟩ (s2.take st.length) H' := by
  have hp : W.ρ = W'.ρ.take st.length := by
    obtain ⟨t, ht⟩ := E'.pre
    rw [← ht, ← R.len, List.take_left]
  refine ⟨⟨List.prefix_refl _, fun a h => .inl h, fun a h => .inl (E'.fF a h), fun a h => ?_, E'.keep, E'.there, E'.lk⟩, R'.trim hp ⟨fun _ h => .inl h, fun _ _ _ q => q, fun _ _ q => q, fun _ _ _ q => q, fun _ _ q => q⟩ hb (fun a ha h => ?_) fun a h => h.elim (R'.fz a) fun h => R'.mem h.1⟩
  · rcases h with h | ⟨h, hn⟩
    · exact E'.nF a h
    · exact (E'.new a h).elim (fun z => absurd z hn) .inr
  · rw [← hp] at ha
    rcases h with h | ⟨h, hn⟩
    · exact R'.sep a (by
        obtain ⟨t, ht⟩ := E'.pre
        rw [← ht]; exact List.mem_append_left _ ha) h
    · exact hn ha
theorem newF {K : PySem.W.Frag} {W W' : Wd} {H H' : Hp} {st s2 : Sto} (R : Rl K W st H) (E' : Ext W H W' H') (R' : Rl K W' s2 H') (i : Nat) (b : Addr) (hi : st.length ≤ i) (e : W'.ρ[i]? = some b) : W'.F b ∨ b ∈ W'.ρ ∧ b ∉ W.ρ :=
  .inr ⟨List.mem_of_getElem? e, fun hm => by
    obtain ⟨i2, hi2, e2⟩ := List.getElem_of_mem hm
    obtain ⟨t, ht⟩ := E'.pre
    have e3 : W'.ρ[i2]? = some b := by rw [← ht, List.getElem?_append_left hi2, List.getElem?_eq_getElem hi2, e2]
    obtain ⟨k1, z1⟩ := List.getElem?_eq_some_iff.mp e3
    obtain ⟨k2, z2⟩ := List.getElem?_eq_some_iff.mp e
    have : i2 = i := (List.getElem_inj R'.nd).mp (z1.trans z2.symm)
    rw [R.len] at hi2
    omega⟩
def fzM (f : Env → Sto → Res D) (env : Env) (st : Sto) : Res D := (f env st).bind fun d s => if (s.take st.length).all (SO.below st.length) = true then okO (fzD 8 st.length s d) (s.take st.length) else .bad
section
variable {X : Cx} {Wx : WX} {e o : Expr} {f fo fv : Env → Sto → Res D} {x n : Str} {p pos pos' : Pos}
theorem re_fz (he : RE X Wx e f) : RE X Wx e (fzM f) := by
  refine PE.conv he fun σ H Q ⟨W, env, st, R, Ev, h⟩ => ⟨W, env, st, R, Ev, ?_⟩
  refine split h (fun d s h1 => ?_) fun C fs s hx => hx
  intro W' H' v E' R' r
  split at h1
  · rename_i hb
    obtain ⟨a1, a2⟩ := cutF R E' R' hb
    cases e2 : fzD 8 st.length s d with
    | none => rw [e2] at h1; exact h1.elim
    | some y =>
      rw [e2] at h1
      have k : KeepT W'.F H' (fun b => W'.F b ∨ b ∈ W'.ρ ∧ b ∉ W.ρ) H' := ⟨fun _ h => .inl h, fun _ _ _ q => q, fun _ _ q => q, fun _ _ _ q => q, fun _ _ q => q⟩
      exact h1 _ H' v a1 a2 (fzD_rel R' k (fun i b hi e => newF R E' R' i b hi e) 8 d y v e2 r)
  · exact h1.elim

/-! ### attributes of instances -/
structure FldC (K : PySem.W.Frag) (C : Addr) (f : Str) : Prop where
  c : Cls K C
  n : NoAttr K C f
/-- an attribute is put -/
def putD {α : Type} (f : Str) (y : α) : List (Str × α) → List (Str × α)
  | [] => [(f, y)]
  | (g, x) :: r => if g = f then (g, y) :: r else (g, x) :: putD f y r
theorem putD_rel {K : PySem.W.Frag} {W : Wd} {H : Hp} {f : Str} {d : D} {v : V} (r : RelD K W H d v) : ∀ {fs : List (Str × D)} {vs : List (Str × V)}, RelKs K W H fs vs → RelKs K W H (putD f d fs) (putF f v vs)
  | [], vs, h => by cases h; exact ⟨v, [], rfl, r, rfl⟩
  | (g, x) :: fs, vs, h => by
    obtain ⟨y, u, rfl, ry, ru⟩ := h
    show RelKs K W H (if g = f then (g, d) :: fs else (g, x) :: putD f d fs) (if g = f then (g, v) :: u else (g, y) :: putF f v u)
    by_cases e : g = f
    · rw [if_pos e, if_pos e]; exact ⟨v, u, rfl, r, ru⟩
    · rw [if_neg e, if_neg e]; exact ⟨y, _, rfl, ry, putD_rel r ru⟩
theorem relKs_len {κ : Type} {K : PySem.W.Frag} {W : Wd} {H : Hp} : ∀ {fs : List (κ × D)} {vs : List (κ × V)}, RelKs K W H fs vs → vs.length = fs.length
  | [], vs, h => by cases h; rfl
  | (k, d) :: r, vs, h => by
    obtain ⟨v, u, rfl, _, b⟩ := h
    rw [List.length_cons, List.length_cons, relKs_len b]
theorem relKs_get {K : PySem.W.Frag} {W : Wd} {H : Hp} {f : Str} {d : D} : ∀ {fs : List (Str × D)} {vs : List (Str × V)}, RelKs K W H fs vs → fs.lookup f = some d → ∃ v, vs.lookup f = some v ∧ RelD K W H d v
  | [], vs, h, e => by cases e
  | (g, x) :: fs, vs, h, e => by
    obtain ⟨y, u, rfl, ry, ru⟩ := h
    rw [L2.lookup_put]
    by_cases hg : f = g
    · subst hg
      rw [if_pos rfl]
      have e : some x = some d := by rw [← e]; simp [List.lookup]
      cases e
      exact ⟨y, rfl, ry⟩
    · rw [if_neg hg]
      have hb : (f == g) = false := by simpa using hg
      exact relKs_get ru (by rw [← e]; simp [List.lookup, hb])
theorem relZ_get {K : PySem.W.Frag} {F : Addr → Prop} {H : Hp} {f : Str} {t : T} : ∀ {ns : List Str} {ts : List T} {vs : List V}, RelTs K F H ts vs → (ns.zip ts).lookup f = some t → ∃ v, (ns.zip vs).lookup f = some v ∧ RelT K F H t v
  | [], ts, vs, h, e => by rw [List.zip_nil_left] at e; cases e
  | n :: ns, [], vs, h, e => by rw [List.zip_nil_right] at e; cases e
  | n :: ns, x :: ts, vs, h, e => by
    obtain ⟨y, u, rfl, ry, ru⟩ := h
    rw [List.zip_cons_cons] at e ⊢
    rw [L2.lookup_put]
    by_cases hg : f = n
    · subst hg
      rw [if_pos rfl]
      have e : some x = some t := by rw [← e]; simp [List.lookup]
      cases e
      exact ⟨y, rfl, ry⟩
    · rw [if_neg hg]
      have hb : (f == n) = false := by simpa using hg
      exact relZ_get ru (by rw [← e]; simp [List.lookup, hb])
/-- o.f = value, the object under way -/
def setAtM (cs : Addr → Bool) (f : Str) (fo fv : Env → Sto → Res D) (env : Env) (st : Sto) : Out := (fv env st).out env fun y s => (fo env s).out env fun d s2 => match d with
  | .r n => match s2[n]? with
    | some (.ins C fs) => if cs C = true ∧ fs.length < 1000 then .nx env (s2.set n (.ins C (putD f y fs))) else .bad
    | _ => .bad
  | _ => .bad
theorem rs_setAt {cs : Addr → Bool} (hcs : ∀ C, cs C = true → FldC X.K C n) (ho : RE X Wx o fo) (hv : RE X Wx e fv) (hs : swapsWith e (some (.Attribute o n pos')) pos.line X.env = pure false := by rfl) : RS X Wx (.Assign [.Attribute o n pos'] e pos) (setAtM cs n fo fv) := by
  refine PS.conv (ps_fld ho hv hs) fun E σ H ⟨W, env, st, R, Ev, h⟩ => ⟨W, env, st, R, Ev, out_split h Ev R fun y s h1 W1 H1 v E1 R1 r1 => ?_⟩
  refine ⟨W1, env, s, R1, Ev.mono E1 R, out_split (h1 : (Res.out (fo env s) env _).Holds X.K Wx E W H) Ev R (fun d s2 h2 => h2) |>.imp (fun d s2 h2 => ?_) fun C fs s2 hx => hx.mono E1⟩
  intro W2 H2 w E2 R2 r2
  cases d with
  | t x => exact h2.elim
  | x => exact h2.elim
  | r m =>
    dsimp only at h2
    cases q : s2[m]? with
    | none => rw [q] at h2; exact h2.elim
    | some so =>
      rw [q] at h2
      cases so with
      | lst => exact h2.elim
      | dk => exact h2.elim
      | dt => exact h2.elim
      | ins C fs =>
        dsimp only at h2
        split at h2
        · rename_i c
          obtain ⟨a, ea, rfl⟩ := r2
          obtain ⟨dx, vs, q1, q2⟩ := R2.live m a _ ea q
          have fc := hcs C c.1
          refine ⟨a, C, dx, vs, rfl, q1, fc.c, fc.n, by rw [relKs_len q2]; exact c.2, ?_⟩
          have E3 : Ext W2 H2 W2 (upd H2 a (.ins C dx (putF n v vs))) := Ext.put ea q1
          have R3 := R2.putO (so := .ins C (putD n y fs)) ea q1 ⟨dx, _, upd_same, putD_rel (E3.relD R2 (E2.relD R1 r1)) ((E3.kt R2).relKs (List.prefix_refl _) q2)⟩
          exact h2 W2 σ _ (E1.trans (E2.trans E3)) R3 (((Ev.mono E1 R).mono (E2.trans E3) R1))
        · exact h2.elim
/-- o.f, an attribute of an instance -/
def fldM (cs : Addr → Bool) (f : Str) (fo : Env → Sto → Res D) (env : Env) (st : Sto) : Res D := (fo env st).bind fun d s => match d with
  | .r n => match s[n]? with
    | some (.ins C fs) => if cs C = true then optR (fs.lookup f) s else .bad
    | _ => .bad
  | .t (.ins C ns ts) => if cs C = true then optR (((ns.zip ts).lookup f).map .t) s else .bad
  | _ => .bad
theorem re_fld {cs : Addr → Bool} (hcs : ∀ C, cs C = true → FldC X.K C n) (ho : RE X Wx o fo) (hb : attributeBase o n X.env (eval o X.env) = eval o X.env := by rfl) : RE X Wx (.Attribute o n pos) (fldM cs n fo) := by
  refine PE.conv (pe_fld ho hb) fun σ H Q ⟨W, env, st, R, Ev, h⟩ => ⟨W, env, st, R, Ev, split h (fun d s h1 W1 H1 v E1 R1 r1 => ?_) fun C fs st' hx => hx⟩
  cases d with
  | x => exact h1.elim
  | r m =>
    dsimp only at h1
    cases q : s[m]? with
    | none => rw [q] at h1; exact h1.elim
    | some so =>
      rw [q] at h1
      cases so with
      | lst => exact h1.elim
      | dk => exact h1.elim
      | dt => exact h1.elim
      | ins C fs =>
        dsimp only at h1
        split at h1
        · rename_i c
          obtain ⟨z, e1, q2⟩ := optR_holds h1
          obtain ⟨a, ea, rfl⟩ := r1
          obtain ⟨dx, vs, h2, h3⟩ := R1.live m a _ ea q
          obtain ⟨y, l, ry⟩ := relKs_get h3 e1
          exact ⟨a, C, dx, vs, y, rfl, h2, (hcs C c).c, (hcs C c).n, l, q2 W1 H1 y E1 R1 ry⟩
        · exact h1.elim
  | t x =>
    cases x with
    | ins C ns ts =>
      dsimp only at h1
      split at h1
      · rename_i c
        obtain ⟨z, e1, q2⟩ := optR_holds h1
        obtain ⟨a, dx, vs, rfl, _, h2, _, h3⟩ := r1
        cases e2 : (ns.zip ts).lookup n with
        | none => rw [e2] at e1; cases e1
        | some t =>
          rw [e2] at e1
          cases e1
          obtain ⟨y, l, ry⟩ := relZ_get h3 e2
          exact ⟨a, C, dx, _, y, rfl, h2, (hcs C c).c, (hcs C c).n, l, q2 W1 H1 y E1 R1 ry⟩
      · exact h1.elim
    | _ => exact h1.elim
end
end Mi
/-! Mv2 -/
namespace Mi
open L2 PySem PySem.Spec PyProof.Rows
theorem under_guards {A : Around} {C : Addr} {us : List Value} {kw : List (Str × Value)} (h : A.guards = some []) : (A.under (.builtin "type.__call__" ⟨.ref C :: us, kw⟩)).guards = some [] := by
  simp (config := {decide := true}) [Around.under, Code.guards, Code.isGuard, guardIds, pushGuards, h]
section
variable {X : Cx} {Wx : WX} {e o : Expr} {es : List Expr} {kws : List Keyword} {f fo fv : Env → Sto → Res D} {x n : Str} {p pos pos' kpos apos : Pos} {k : Nat} {C fI : Addr} {fd : FuncData} {ps ks : List Str} {sp : Sp} {nm : Option Str}
/-! ### keywords -/
abbrev RK (X : Cx) (Wx : WX) (kws : List Keyword) (f : Env → Sto → Res (List D)) : Prop := PK X kws (tA X.K Wx f)
theorem PK.conv {t t' : TA} (h : PK X kws t) (g : ∀ σ H Q, t' σ H Q → t σ H Q) : PK X kws t' := ⟨fun pos pins s σ H Q I q => h.run pos pins s σ H Q I (g σ H Q q)⟩
theorem rk_nil : RK X Wx [] (argsM []) := PK.conv pk_nil fun σ H Q ⟨W, env, st, R, Ev, h⟩ => h W H [] .refl R rfl
theorem rk_cons {fs : List (Env → Sto → Res D)} (ha : RE X Wx e f) (hr : RK X Wx kws (argsM fs)) : RK X Wx (⟨nm, e, kpos⟩ :: kws) (argsM (f :: fs)) := by
  refine PK.conv (pk_cons ha hr) fun σ H Q ⟨W, env, st, R, Ev, h⟩ => ⟨W, env, st, R, Ev, split h (fun d st1 h1 W1 H1 v E1 R1 r1 => ?_) fun C fs st' hx => hx⟩
  refine ⟨W1, env, st1, R1, Ev.mono E1 R, split h1 (fun ds st2 h2 W2 H2 vs E2 R2 r2 => ?_) fun C fs st' hx => hx.mono E1⟩
  exact h2 W2 H2 (v :: vs) (E1.trans E2) R2 ⟨v, vs, rfl, E2.relD R1 r1, r2⟩

/-! ### a new instance -/
theorem run_makeG {m : Nat} {pins : List (Addr × Obj)} {σ : L2.St} {H : Hp} {s : Shared} {Q : VK} {us ws : List Value} {vs zs : List V} {g : List Value → List Value → List Value} {gV : List V → List V → List V} (M : Mk X.K C fI) (G : FnG X.prog X.w X.K X.mg X.base k fI fd ps sp)
    (room : Room (k + 1) X.A) (gd : X.A.guards = some []) (tk : Takes X Wx) (hb : KBn X.K fd ps (m + 1) ks g gV) (I : Inv X pins σ H s) (r : Vals vs us) (rz : Vals zs ws) (l1 : vs.length = m) (l2 : zs.length = ks.length)
    (h : ∀ x dx, H x = none → H dx = none → dx ≠ x → sp (gV (.ref x :: vs) zs) (upd (upd H dx (.own x)) x (.ins C dx [])) (fun v H2 => v = .non ∧ Q (.ref x) H2) fun c o H' => Wx c o σ H') :
    wpAny  (model X.prog X.w) X.A (call (.ref C) us (ks.zip ws)) (EP X pins σ Q) X.xe s := by
  have ask := h (s.heap.objs.size + 1) s.heap.objs.size (I.hok.fresh (Nat.le_succ _)) (I.hok.fresh (Nat.le_refl _)) (Nat.ne_of_lt (Nat.lt_succ_self _))
  have  I2 := Inv.made (C := C) I
  have ra : Vals (V.ref (s.heap.objs.size + 1) :: vs) (Value.ref (s.heap.objs.size + 1) :: us) := .cons rfl r
  have rg := hb.rel ra rz
  have many : (Value.ref (s.heap.objs.size + 1) :: us).length = m + 1 := ra.length.symm.trans (congrArg Nat.succ l1)
  have bnd := hb.to _ (Value.ref (s.heap.objs.size + 1) :: us) ws I2.kIn many (rz.length.symm.trans l2)
  have run := G.go _ X.stack _ _ ⟨Value.ref (s.heap.objs.size + 1) :: us, ks.zip ws⟩ _ _ _ _ (room.make C us (ks.zip ws)) (under_guards gd) (I2.env0.make C us (ks.zip ws)) bnd rg ask
  refine wpAny_call (make_map (f := fI) I.kIn M.makes M.init (beq_iff_eq.mp M.fn) (codeAny_mono run ?_))
  intro res s' hq
  cases res with
  | error e => exact passAt tk σ pins _ _ e s' I2 hq
  | ok fl =>
    cases fl with
    | ret u =>
      obtain ⟨v, H', I3, rv, ev, q3⟩ := I2.after hq
      subst ev
      exact ⟨rv, V.ref (s.heap.objs.size + 1), H', I3, rfl, q3⟩
    | next => exact hq.elim
    | brk => exact hq.elim
    | cont => exact hq.elim
/-- C(e, .., k = v, ..): the new object is the last of the store; perm puts the arguments into the order of the parameters -/
def makeM (C : Addr) (m l : Nat) (perm : List D → List D → List D) (F : List D → Sto → Res D) (fs fk : List (Env → Sto → Res D)) (env : Env) (st : Sto) : Res D := (argsM fs env st).bind fun ds s => (argsM fk env s).bind fun zs s2 =>
  if ds.length = m ∧ zs.length = l then (F (perm (.r s2.length :: ds) zs) (s2 ++ [.ins C []])).bind fun d s3 => match d with
    | .t .non => .ok (.r s2.length) s3
    | _ => .bad else .bad
theorem make_new {K : PySem.W.Frag} {W : Wd} {H : Hp} {st : Sto} {C : Addr} (R : Rl K W st H) {x dx : Addr} (hx : H x = none) (hd : H dx = none) (ne : dx ≠ x) : Ext W H (W.add x) (upd (upd H dx (.own x)) x (.ins C dx [])) ∧ Rl K (W.add x) (st ++ [.ins C []]) (upd (upd H dx (.own x)) x (.ins C dx [])) := by
  have R1 : Rl K W st (upd H dx (.own x)) := R.rest hd
  have E1 : Ext W H W (upd H dx (.own x)) := R.more hd
  have hx1 : upd H dx (.own x) x = none := by rw [upd_ne (Ne.symm ne)]; exact hx
  exact ⟨E1.trans (Ext.add W hx1), R1.addO hx1 ⟨dx, [], upd_same, rfl⟩⟩
theorem make_core {m : Nat} {perm : List D → List D → List D} {gV : List V → List V → List V} {F : List D → Sto → Res D} {np : Nat} {σ : L2.St} {H : Hp} {Q : VK} {W0 : Wd} {H0 : Hp} {st0 s : Sto} {ds zs : List D} {vs ws : List V} {W1 : Wd} {env : Env}
    (hperm : ∀ {W : Wd} {H : Hp} {as bs : List D} {us ws : List V}, RelDs X.K W H as us → RelDs X.K W H bs ws → as.length = m + 1 → bs.length = ks.length → RelDs X.K W H (perm as bs) (gV us ws) ∧ (perm as bs).length = np)
    (R0 : Rl X.K W0 st0 H0) (Ev : EnvR X.K W0 H0 env σ) (E1 : Ext W0 H0 W1 H) (R1 : Rl X.K W1 s H) (rd : RelDs X.K W1 H ds vs) (rz : RelDs X.K W1 H zs ws) (l1 : ds.length = m) (l2 : zs.length = ks.length)
    (h : ((F (perm (.r s.length :: ds) zs) (s ++ [.ins C []])).bind fun d s3 => match d with
      | .t .non => Res.ok (D.r s.length) s3
      | _ => .bad).Holds (OkD X.K W0 H0 Q) (OkX X.K W0 H0 fun c o H' => Wx c o σ H')) :
    ∀ x dx, H x = none → H dx = none → dx ≠ x → spG X.K np F (gV (.ref x :: vs) ws) (upd (upd H dx (.own x)) x (.ins C dx [])) (fun v H2 => v = .non ∧ Q (.ref x) H2) fun c o H' => Wx c o σ H' := by
  intro x dx hx hd ne
  obtain ⟨E2, R2⟩ := make_new (C := C) R1 hx hd ne
  have hn : (W1.add x).ρ[s.length]? = some x := by
    show (W1.ρ ++ [x])[s.length]? = some x
    rw [← R1.len, List.getElem?_append_right (Nat.le_refl _), Nat.sub_self]; rfl
  obtain ⟨rp, lp⟩ := hperm (as := .r s.length :: ds) (us := .ref x :: vs) ⟨V.ref x, vs, rfl, ⟨x, hn, rfl⟩, E2.relDs R1 rd⟩ (E2.relDs R1 rz) (by rw [List.length_cons, l1]) l2
  refine ⟨W1.add x, _, _, R2, rp, lp, split h (fun d s3 h3 => ?_) fun C fs s3 hx => hx.mono (E1.trans E2)⟩
  intro W' H' v E' R' r'
  cases d with
  | r => exact h3.elim
  | x => exact h3.elim
  | t y =>
    cases y with
    | non =>
      cases r'
      exact ⟨rfl, h3 W' H' (.ref x) (E1.trans (E2.trans E')) R' ⟨x, pre_get E'.pre hn, rfl⟩⟩
    | _ => exact h3.elim
theorem re_makeK {m np : Nat} {perm : List D → List D → List D} {g : List Value → List Value → List Value} {gV : List V → List V → List V} {F : List D → Sto → Res D} {fs fk : List (Env → Sto → Res D)} (M : Mk X.K C fI) (G : FnG X.prog X.w X.K X.mg X.base k fI fd ps (spG X.K np F))
    (room : Room (k + 1) X.A) (gd : X.A.guards = some []) (tk : Takes X Wx) (hb : KBn X.K fd ps (m + 1) ks g gV) (hg : Gl X x) (hm : X.mg x = some (.ref C)) (ha : RA X Wx (e :: es) (argsM fs)) (hk : RK X Wx kws (argsM fk))
    (hperm : ∀ {W : Wd} {H : Hp} {as bs : List D} {us ws : List V}, RelDs X.K W H as us → RelDs X.K W H bs ws → as.length = m + 1 → bs.length = ks.length → RelDs X.K W H (perm as bs) (gV us ws) ∧ (perm as bs).length = np)
    (hall  : (backToKw pos (keywordEach kws X.env)).all (·.1.isSome) = true := by rfl) (hks : (backToKw pos (keywordEach kws X.env)).filterMap (·.1) = ks := by rfl) (hdb : (x == ("__debug__" : Str)) = false := by decide)
    (he  : starEach (e :: es) X.env = (false, eval e X.env) :: starEach es X.env := by rfl) (hpl : ((backTo pos (starEach (e :: es) X.env)).any (·.1) || (backToKw pos (keywordEach kws X.env)).any (·.1.isNone)) = false := by rfl) :
    RE X Wx (.Call (.Name x p) (e :: es) kws pos) (makeM C m ks.length perm F fs fk) := by
  refine ⟨fun pins s σ H Q I ⟨W, env, st, R, Ev, h⟩ => ?_⟩
  refine  wpAny_Call_Name_kw (ld_glob I hg hm ?_ hdb)
  refine PySem.W.callWith_KW (h₀ := X.base) I.ok.mod.kin M.kp hall (thn (ha.run pos pins s σ H (fun vs H1 => ∃ W1 s1 ds, Ext W H W1 H1 ∧ Rl X.K W1 s1 H1 ∧ RelDs X.K W1 H1 ds vs ∧ ((argsM fk env s1).bind fun zs s2 => if ds.length = m ∧ zs.length = ks.length then (F (perm (.r s2.length :: ds) zs) (s2 ++ [.ins C []])).bind fun d s3 => match d with
    | .t .non => Res.ok (D.r s2.length) s3
    | _ => .bad else .bad).Holds (OkD X.K W H Q) (OkX X.K W H fun c o H' => Wx c o σ H')) I ⟨W, env, st, R, Ev, split h (fun ds s1 h1 W1 H1 vs E1 R1 r1 => ⟨W1, s1, ds, E1, R1, r1, h1⟩) fun _ _ _ hx => hx⟩) fun us s1 ⟨vs, H1, I1, r, W1, st1, ds, E1, R1, rd, h1⟩ => ?_) hpl he
  refine thn (hk.run pos pins s1 σ H1 (fun zs H2 => ∃ W2 s2 bs, Ext W1 H1 W2 H2 ∧ Rl X.K W2 s2 H2 ∧ RelDs X.K W2 H2 bs zs ∧ (if ds.length = m ∧ bs.length = ks.length then (F (perm (.r s2.length :: ds) bs) (s2 ++ [.ins C []])).bind fun d s3 => match d with
    | .t .non => Res.ok (D.r s2.length) s3
    | _ => .bad else .bad).Holds (OkD X.K W H Q) (OkX X.K W H fun c o H' => Wx c o σ H')) I1 ⟨W1, env, st1, R1, Ev.mono E1 R, split h1 (fun bs s2 h2 W2 H2 zs E2 R2 r2 => ⟨W2, s2, bs, E2, R2, r2, h2⟩) fun _ _ _ hx => hx.mono E1⟩) fun ws s2 ⟨zs, H2, I2, rz, W2, st2, bs, E2, R2, rb, h2⟩ => ⟨I2.kIn, ?_⟩
  rw [hks]
  split at h2
  · rename_i c
    exact run_makeG M G room gd tk hb I2 r rz (by rw [relDs_len rd]; exact c.1) (by rw [relDs_len rb]; exact c.2) (make_core hperm R Ev (E1.trans E2) R2 (E2.relDs R1 rd) rb c.1 c.2 h2)
  · exact h2.elim
end
end Mi
/-! Mv3 -/
namespace Mi
open L2 PySem PySem.Spec PyProof.Rows
section
variable {X : Cx} {Wx : WX} {e o i : Expr} {es : List Expr} {f fo fv fi : Env → Sto → Res D} {x n : Str} {p pos pos' kpos apos cpos : Pos} {k : Nat} {C : Addr}
/-! ### properties -/
theorem getprop_g {g pa a dx : Addr} {fd : FuncData} {sf : Str} {sp : Sp} {fs : List (Str × V)} {pins : List (Addr × Obj)} {σ : L2.St} {H : Hp} {s : Shared} {Q : VK} {b : Bool} {E' : Value → Shared → Prop} (I : Inv X pins σ H s) (ea : H a = some (.ins C dx fs)) (c : Cls X.K C) (hp : PropOf X.K C n pa g)
    (G : FnG X.prog X.w X.K X.mg X.base k g fd [sf] sp) (room : Room (k + 1) X.A) (gd : X.A.guards = some []) (hb : Binds X.K fd [sf] []) (h : sp [.ref a] H Q fun _ _ _ => False) :
    wpAny (model X.prog X.w) X.A (getAttr (.ref a) n b) (EP X pins σ Q) E' s := by
  obtain  ⟨mA, O, _, _, _, _⟩ := ins_get I.hok ea
  obtain ⟨od, J, _⟩ := O.look
  obtain  ⟨rest, hrec⟩ := hp.rec_
  have I1 := I.tok (s.toks + 1)
  have  hc : (PySem.W.clsIn X.K C).isSome = true := by
    (obtain ⟨cd, hc, _⟩ := PySem.W.any_some c.hd)
    rw [hc]; rfl
  have bnd := hb _ [.ref a] I1.kIn rfl
  have run := G.go X.A.in1 X.stack { s with toks := s.toks + 1 } H ⟨[.ref a], []⟩ [.ref a] [.ref a] Q (fun _ _ _ => False) room.in1 gd I1.env0.in1 bnd (.cons rfl .nil) h
  refine PySem.W.get_bind I.kIn J (PySem.W.plainGet_of (c.get n)).1 (PySem.W.findObj_data hc hp.at_ hp.get hp.tak) (PySem.W.plainGet_of (c.get n)).2 (wpAny_call (PySem.W.prop_get (s := { s with toks := s.toks + 1 }) I.kIn hrec (codeAny_mono run ?_)))
  intro res s' hq
  cases res with
  | error er => obtain ⟨_, _, _, _, _, _, _, _, _, _, _, _, z⟩ := hq; exact z.elim
  | ok fl =>
    cases fl with
    | ret u =>
      obtain  ⟨v, H', I3, rv, q3⟩ := I1.after hq
      show  wpAny _ _ (handedOut u) _ _ _
      (rw [PySem.W.handedOut_of (handed_of rv)])
      exact  wpAny_pure ⟨v, H', I3, rv, q3⟩
    | next => exact hq.elim
    | brk => exact hq.elim
    | cont => exact hq.elim
/-- o.n, a property of the class, of an object that stays as it is -/
def propM (C : Addr) (F : List T → Rp) (fo : Env → Sto → Res D) (env : Env) (st : Sto) : Res D := (fo env st).bind fun d s => match d with
  | .t (.ins C' ns ts) => if C' = C then (match F [.ins C' ns ts] with
    | .ok t => .ok (.t t) s
    | _ => .bad) else .bad
  | _ => .bad
theorem re_prop {g pa : Addr} {fd : FuncData} {sf : Str} {F : List T → Rp} (c : Cls X.K C) (hp : PropOf X.K C n pa g) (G : FnG X.prog X.w X.K X.mg X.base k g fd [sf] (spP X.K 1 F)) (room : Room (k + 1) X.A) (gd : X.A.guards = some []) (hb : Binds X.K fd [sf] []) (ho : RE X Wx o fo)
    (hab : attributeBase o n X.env (eval o X.env) = eval o X.env := by rfl) : RE X Wx (.Attribute o n pos) (propM C F fo) := by
  refine ⟨fun pins s σ H Q I ⟨W, env, st, R, Ev, h⟩ => ?_⟩
  refine attr_of hab (thn (ho.run pins s σ H (fun x H1 => ∃ a dx fs, x = .ref a ∧ H1 a = some (.ins C dx fs) ∧ spP X.K 1 F [.ref a] H1 Q fun _ _ _ => False) I ⟨W, env, st, R, Ev, split h (fun d s h1 W1 H1 v E1 R1 r1 => ?_) fun _ _ _ hx => hx⟩) fun u s1 ⟨x, H1, I1, rx, a, dx, fs, ex, ea, q⟩ => ?_)
  · cases d with
    | r => exact h1.elim
    | x => exact h1.elim
    | t y =>
      cases y with
      | ins C' ns ts =>
        dsimp only at h1
        split at h1
        · rename_i ec
          subst ec
          have r1' : RelT X.K W1.F H1 (.ins C' ns ts) v := r1
          obtain ⟨a, dx, vs, rfl, _, h2, _, _⟩ := r1
          refine ⟨a, dx, _, rfl, h2, W1.F, [.ins C' ns ts], R1.fz, ⟨_, _, rfl, r1', rfl⟩, rfl, ?_⟩
          cases q : F [.ins C' ns ts] with
          | ok t =>
            rw [q] at h1
            intro S' H' w E' fz' r'
            obtain ⟨b1, b2⟩ := back R1 E' fz'
            exact h1 ⟨W1.ρ, S'⟩ H' w (E1.trans b1) b2 r'
          | exc => rw [q] at h1; exact h1.elim
          | bad => rw [q] at h1; exact h1.elim
        · exact h1.elim
      | _ => exact h1.elim
  · subst ex
    obtain  rfl : u = Value.ref a := rx
    exact getprop_g I1 ea c hp G room gd hb q
/-! ### isinstance with own classes -/
inductive TyN where
  | b (s : String) | c (C : Addr)
def TyN.val : TyN → Value
  | .b s => .type s
  | .c C => .ref C
def tyN (st : Sto) (d : D) : Option TyN := match d with
  | .t (.ins C _ _) => some (.c C)
  | .r n => match st[n]? with
    | some (.ins C _) => some (.c C)
    | _ => (tyName st (.r n)).map .b
  | d => (tyName st d).map .b
structure InsT (K : PySem.W.Frag) (C : Addr) : Prop where
  c : Cls K C
  ca  : PySem.W.findIn K (.ref C) "__class__" = some (some (.builtin "object.__class__"))
  sp : PySem.W.specialIn K (.builtin "object.__class__") "__get__" = some (some (.builtin "getset_descriptor.__get__"))
  tk : PySem.W.takesIn K (.builtin "object.__class__") = some true
  mr : PySem.W.mroIn K C (.type "object") = some true
def isiX (kt : TyN → TyN → Option Bool) (ds : List D) (st : Sto) : Option D := match ds with
  | [d, .t (.glb B)] => (tyN st d).bind fun t => (kt t (.c B)).map bD
  | [d, .t (.ty m)] => (tyN st d).bind fun t => (kt t (.b m)).map bD
  | _ => none
theorem tyN_rel {K : PySem.W.Frag} {W : Wd} {H : Hp} {st : Sto} (R : Rl K W st H) {d : D} {t : TyN} {v : V} (h : tyN st d = some t) (r : RelD K W H d v) (hc : ∀ C, t = .c C → InsT K C) : TyX K H v t.val := by
  have bas : ∀ d, (tyName st d).map TyN.b = some t → RelD K W H d v → TyX K H v t.val := fun d h r => by
    cases e : tyName st d with
    |  none => rw [e] at h; cases h
    | some s => rw [e] at h; cases h; exact (tyName_rel R e r).2
  cases d with
  | x => exact bas _ (by exact h) r
  | r n =>
    unfold tyN at h
    dsimp only at h
    split at h
    · rename_i C fs q
      cases h
      obtain ⟨a, e, rfl⟩ := r
      obtain ⟨dx, vs, q1, q2⟩ := R.live n a _ e q
      have z := hc C rfl
      exact .base (.ins q1 z.c z.ca z.sp z.tk z.mr)
    · exact bas _ (by exact h) r
  | t y =>
    cases y with
    | ins C ns ts =>
      cases h
      obtain ⟨a, dx, vs, rfl, _, q1, _, _⟩ := r
      have z := hc C rfl
      exact .base (.ins q1 z.c z.ca z.sp z.tk z.mr)
    | _ => exact bas _ (by exact h) r
theorem c_isiX {kt : TyN → TyN → Option Bool} (hk : ∀ t u b, kt t u = some b → PySem.W.kitOne X.K t.val u.val = some b) (hc : ∀ C u b, kt (.c C) u = some b → InsT X.K C) : CallR X (.builtin "isinstance") (rC X.K (isiX kt)) := call_of call_isi fun W st ds xs H Q z R r h q => by
  unfold isiX at h
  have main : ∀ d u v w, (tyN st d).bind (fun t => (kt t u).map bD) = some z → RelD X.K W H d v → ClsV w u.val → xs = [v, w] → rIsi X.K xs H Q := fun d u v w h rv cw ex => by
    cases e1 : tyN st d with
    | none => rw [e1] at h; cases h
    | some t =>
      rw [e1] at h
      have h : (kt t u).map bD = some z := h
      cases e2 : kt t u with
      | none => rw [e2] at h; cases h
      | some b =>
        rw [e2] at h
        cases h
        exact ⟨v, w, t.val, u.val, b, ex, cw, tyN_rel R e1 rv (fun C e => hc C u b (by rw [← e]; exact e2)), hk _ _ _ e2, q W H _ .refl R rfl⟩
  split at h
  · rename_i d B
    obtain ⟨v, w, ex, r1, r2⟩ := rel2 r
    cases r2
    exact main d (.c B) v _ h r1 (.own B) ex
  · rename_i d m
    obtain ⟨v, w, ex, r1, r2⟩ := rel2 r
    cases r2
    exact main d (.b m) v _ h r1 (.ty m) ex
  · cases h
end
end Mi
/-! Mv4 -/
namespace Mi
open L2 PySem PySem.Spec PyProof.Rows
/-! ### dicts as lists of pairs -/
section
variable {κ : Type} [DecidableEq κ] {K : PySem.W.Frag} {W : Wd} {H : Hp}
def putG (kvs : List (κ × D)) (k : κ) (d : D) : List (κ × D) := if (kvs.any fun kv => decide (kv.1 = k)) = true then kvs.map (fun kv => if kv.1 = k then (kv.1, d) else kv) else kvs ++ [(k, d)]
def getG {α : Type} (kvs : List (κ × α)) (k : κ) : Option α := (kvs.find? fun kv => decide (kv.1 = k)).map (·.2)
theorem relKs_any {k : κ} : ∀ {kvs : List (κ × D)} {vs : List (κ × V)}, RelKs K W H kvs vs → (vs.any fun kv => decide (kv.1 = k)) = (kvs.any fun kv => decide (kv.1 = k))
  | [], vs, h => by cases h; rfl
  | (j, d) :: r, vs, h => by
    obtain ⟨v, u, rfl, _, b⟩ := h
    rw [List.any_cons, List.any_cons, relKs_any b]
theorem relKs_map {k : κ} {d : D} {v : V} (r : RelD K W H d v) : ∀ {kvs : List (κ × D)} {vs : List (κ × V)}, RelKs K W H kvs vs → RelKs K W H (kvs.map fun kv => if kv.1 = k then (kv.1, d) else kv) (vs.map fun kv => if kv.1 = k then (kv.1, v) else kv)
  | [], vs, h => by cases h; rfl
  | (j, x) :: s, vs, h => by
    obtain ⟨y, u, rfl, a, b⟩ := h
    rw  [List.map_cons, List.map_cons]
    by_cases e : j = k
    · rw [if_pos e, if_pos e]; exact ⟨v, _, rfl, r, relKs_map r b⟩
    · rw [if_neg e, if_neg e]; exact ⟨y, _, rfl, a, relKs_map r b⟩
theorem relKs_snoc {k : κ} {d : D} {v : V} (r : RelD K W H d v) : ∀ {kvs : List (κ × D)} {vs : List (κ × V)}, RelKs K W H kvs vs → RelKs K W H (kvs ++ [(k, d)]) (vs ++ [(k, v)])
  | [], vs, h => by cases h; exact ⟨v, [], rfl, r, rfl⟩
  | (j, x) :: s, vs, h => by
    obtain ⟨y, u, rfl, a, b⟩ := h
    exact ⟨y, _, rfl, a, relKs_snoc r b⟩
theorem relKs_put {k : κ} {d : D} {v : V} (r : RelD K W H d v) {kvs : List (κ × D)} {vs : List (κ × V)} (h : RelKs K W H kvs vs) : RelKs K W H (putG kvs k d) (putK vs k v) := by
  unfold putG putK
  rw [relKs_any h]
  by_cases c : (kvs.any fun kv => decide (kv.1 = k)) = true
  · rw [if_pos c, if_pos c]; exact relKs_map r h
  · rw [if_neg c, if_neg c]; exact relKs_snoc r h
/-- what is found stands for what is found -/
def RelO (K : PySem.W.Frag) (W : Wd) (H : Hp) : Option D → Option V → Prop
  | none, none => True
  | some d, some v => RelD K W H d v
  | _, _ => False
theorem relKs_find {k : κ} : ∀ {kvs : List (κ × D)} {vs : List (κ × V)}, RelKs K W H kvs vs → Mi.RelO K W H (getG kvs k) (valV vs k)
  | [], vs, h => by cases h; exact True.intro
  | (j, x) :: s, vs, h => by
    obtain ⟨y, u, rfl, a, b⟩ := h
    by_cases e : j = k
    · rw [valV_pos e, show getG ((j, x) :: s) k = some x by simp [getG, List.find?_cons, e]]; exact a
    · rw [valV_neg e, show getG ((j, x) :: s) k = getG s k by simp [getG, List.find?_cons, e]]; exact relKs_find b
theorem relZ_find {F : Addr → Prop} {k : κ} (e : W.F = F) : ∀ {ks : List κ} {ts : List T} {vs : List V}, ks.length = ts.length → RelTs K F H ts vs → Mi.RelO K W H ((getG (ks.zip ts) k).map .t) (valV (ks.zip vs) k)
  | [], ts, vs, _, h => by rw [List.zip_nil_left, List.zip_nil_left]; exact True.intro
  | j :: ks, [], vs, l, h => by cases l
  | j :: ks, x :: ts, vs, l, h => by
    obtain ⟨y, u, rfl, a, b⟩ := h
    rw [List.zip_cons_cons, List.zip_cons_cons]
    by_cases c : j = k
    · rw [valV_pos c, show getG ((j, x) :: ks.zip ts) k = some x by simp [getG, List.find?_cons, c]]; subst e; exact a
    · rw [valV_neg c, show getG ((j, x) :: ks.zip ts) k = getG (ks.zip ts) k by simp [getG, List.find?_cons, c]]
      exact relZ_find e (Nat.succ.inj l) b
end
def keyT : L2.Key → T
  | .inl i => .int i
  | .inr s => .str s
def keyOf : D → Option L2.Key
  | .t (.int i) => some (.inl i)
  | .t (.str s) => some (.inr s)
  | _ => none
def keysOf : List T → Option (List L2.Key)
  | [] => some []
  | t :: r => (keyOf (.t t)).bind fun k => (keysOf r).map (k :: ·)
def keyTOf : D → Option (List L2.Key)
  | .t (.tup ts) => keysOf ts
  | _ => none
section
variable {K : PySem.W.Frag} {W : Wd} {H : Hp} {st : Sto}
theorem keyOf_rel {d : D} {k : L2.Key} {v : V} (h : keyOf d = some k) (r : RelD K W H d v) : v = kV k := by
  unfold keyOf at h
  split at h
  · cases h; exact r
  · cases h; exact r
  · cases h
theorem keysOf_rel {F : Addr → Prop} : ∀ {ts : List T} {ks : List L2.Key} {vs : List V}, keysOf ts = some ks → RelTs K F H ts vs → vs = ks.map kV
  | [], ks, vs, h, r => by cases h; exact r
  | t :: ts, ks, vs, h, r => by
    obtain ⟨v, u, rfl, a, b⟩ := r
    have h : ((keyOf (.t t)).bind fun k => (keysOf ts).map (k :: ·)) = some ks := h
    cases e1 : keyOf (.t t) with
    | none => rw [e1] at h; cases h
    | some k =>
      rw [e1, Option.bind_some] at h
      cases e2 : keysOf ts with
      | none => rw [e2] at h; cases h
      | some us =>
        rw [e2] at h
        cases h
        rw [keyOf_rel (W := ⟨[], F⟩) e1 a, keysOf_rel e2 b]; rfl
/-- d[y], the outer none: nothing is said -/
def dgetB (st : Sto) (d y : D) : Option (Option D) := match d with
  | .r n => match st[n]? with
    | some (.dk _ kvs) => (keyOf y).map (getG kvs)
    | _ => none
  | .t (.dk ks ts) => (keyOf y).map fun k => (getG (ks.zip ts) k).map .t
  | _ => none
theorem dget_rel (R : Rl K W st H) {d y : D} {r : Option D} {v w : V} (h : dgetB st d y = some r) (r1 : RelD K W H d v) (r2 : RelD K W H y w) : ∃ a o, v = .ref a ∧ DGet H a w o ∧ Mi.RelO K W H r o := by
  unfold dgetB at h
  split at h
  · rename_i n
    split at h
    · rename_i lk kvs q
      obtain ⟨a, e, rfl⟩ := r1
      obtain ⟨vs, q1, q2⟩ := R.live n a _ e q
      cases e2 : keyOf y with
      | none => rw [e2] at h; cases h
      | some k =>
        rw [e2] at h
        cases h
        have ew := keyOf_rel e2 r2
        subst ew
        refine ⟨a, _, rfl, .inl ⟨vs, k, ?_, rfl, rfl⟩, relKs_find q2⟩
        cases lk with
        | true => rw [if_pos rfl] at q1; exact .inr q1
        | false => rw [if_neg (by decide)] at q1; exact .inl q1
    · cases h
  · rename_i ks ts
    obtain ⟨a, vs, rfl, _, q, l, rr⟩ := r1
    cases e2 : keyOf y with
    | none => rw [e2] at h; cases h
    | some k =>
      rw [e2] at h
      cases h
      have ew := keyOf_rel e2 r2
      subst ew
      exact ⟨a, _, rfl, .inl ⟨_, k, q, rfl, rfl⟩, relZ_find rfl l rr⟩
  · cases h
end
section
variable {X : Cx} {Wx : WX} {e o i : Expr} {es : List Expr} {f fo fv fi : Env → Sto → Res D} {x n : Str} {p pos pos' kpos apos cpos tpos : Pos} {k : Nat} {C : Addr}
/-- o[i], o a dict -/
def dgetM (fo fi : Env → Sto → Res D) (env : Env) (st : Sto) : Res D := (fo env st).bind fun d s => (fi env s).bind fun y s2 => match dgetB s2 d y with
  | some (some z) => .ok z s2
  | _ => .bad
theorem re_dget (hu : X.A.units + 1 < cLine) (ho : RE X Wx o fo) (hi : RE X Wx i fi) (hs : NoSl i := by intro _ _; rfl) : RE X Wx (.Subscript o i pos) (dgetM fo fi) := by
  refine PE.conv (pe_dget hu ho hi hs) fun σ H Q ⟨W, env, st, R, Ev, h⟩ => ⟨W, env, st, R, Ev, split h (fun d s h1 W1 H1 v E1 R1 r1 => ?_) fun C fs st' hx => hx⟩
  refine ⟨W1, env, s, R1, Ev.mono E1 R, split h1 (fun y s2 h2 W2 H2 w E2 R2 r2 => ?_) fun C fs st' hx => hx.mono E1⟩
  cases q : dgetB s2 d y with
  | none => rw [q] at h2; exact h2.elim
  | some z =>
    cases z with
    | none => rw [q] at h2; exact h2.elim
    | some z =>
      rw [q] at h2
      obtain ⟨a, ov, ea, g, ro⟩ := dget_rel R2 q (E2.relD R1 r1) r2
      cases ov with
      | none => exact ro.elim
      | some u => exact ⟨a, u, ea, g, h2 W2 H2 u (E1.trans E2) R2 ro⟩
/-- i in o, o a dict -/
def dinM (neg : Bool) (fi fo : Env → Sto → Res D) (env : Env) (st : Sto) : Res D := (fi env st).bind fun y s => (fo env s).bind fun d s2 => match dgetB s2 d y with
  | some z => .ok (.t (.bl (xor neg z.isSome))) s2
  | none => .bad
theorem relO_some {K : PySem.W.Frag} {W : Wd} {H : Hp} {a : Option D} {b : Option V} (h : Mi.RelO K W H a b) : b.isSome = a.isSome := by
  cases a <;> cases b <;> first | rfl | exact h.elim
theorem re_din (hu : X.A.units + 1 < cLine) (hi : RE X Wx i fi) (ho : RE X Wx o fo) (hm : behindInMarks .In o = false := by rfl) : RE X Wx (.Compare i [.In] [o] pos) (dinM false fi fo) := by
  refine PE.conv (pe_cmp (pc_din hu hi ho) hm) fun σ H Q ⟨W, env, st, R, Ev, h⟩ => ⟨W, env, st, R, Ev, split h (fun y s h1 W1 H1 w E1 R1 r1 => ?_) fun C fs st' hx => hx⟩
  refine ⟨W1, env, s, R1, Ev.mono E1 R, split h1 (fun d s2 h2 W2 H2 v E2 R2 r2 => ?_) fun C fs st' hx => hx.mono E1⟩
  cases q : dgetB s2 d y with
  | none => rw [q] at h2; exact h2.elim
  | some z =>
    rw [q] at h2
    obtain ⟨a, ov, ea, g, ro⟩ := dget_rel R2 q r2 (E2.relD R1 r1)
    refine ⟨a, ov, ea, g, h2 W2 H2 _ (E1.trans E2) R2 ?_⟩
    show V.bl ov.isSome = .bl _
    rw [relO_some ro, Bool.false_xor]
theorem re_dnotin (hu : X.A.units + 1 < cLine) (hi : RE X Wx i fi) (ho : RE X Wx o fo) (hm : behindInMarks .NotIn o = false := by rfl) : RE X Wx (.Compare i [.NotIn] [o] pos) (dinM true fi fo) := by
  refine PE.conv (pe_cmp (pc_dnotin hu hi ho) hm) fun σ H Q ⟨W, env, st, R, Ev, h⟩ => ⟨W, env, st, R, Ev, split h (fun y s h1 W1 H1 w E1 R1 r1 => ?_) fun C fs st' hx => hx⟩
  refine ⟨W1, env, s, R1, Ev.mono E1 R, split h1 (fun d s2 h2 W2 H2 v E2 R2 r2 => ?_) fun C fs st' hx => hx.mono E1⟩
  cases q : dgetB s2 d y with
  | none => rw [q] at h2; exact h2.elim
  | some z =>
    rw [q] at h2
    obtain ⟨a, ov, ea, g, ro⟩ := dget_rel R2 q r2 (E2.relD R1 r1)
    refine ⟨a, ov, ea, g, h2 W2 H2 _ (E1.trans E2) R2 ?_⟩
    show V.bl (!ov.isSome) = .bl _
    rw [relO_some ro, Bool.true_xor]
/-- o[i] = v, o a dict that is changed -/
def dputM (fo fi fv : Env → Sto → Res D) (env : Env) (st : Sto) : Out := (fv env st).out env fun z s => (fo env s).out env fun d s2 => (fi env s2).out env fun y s3 => match d, keyOf y with
  | .r m, some k => match s3[m]? with
    | some (.dk false kvs) => if kvs.length < LIM then .nx env (s3.set m (.dk false (putG kvs k z))) else .bad
    | _ => .bad
  | _, _ => .bad
theorem rs_dput (hu : X.A.units + 1 < cLine) (ho : RE X Wx o fo) (hi : RE X Wx i fi) (hv : RE X Wx e fv) (hs : swapsWith e (some (.Subscript o i pos')) pos.line X.env = pure false := by rfl) : RS X Wx (.Assign [.Subscript o i pos'] e pos) (dputM fo fi fv) := by
  refine PS.conv (ps_dput hu ho hi hv hs) fun E σ H ⟨W, env, st, R, Ev, h⟩ => ⟨W, env, st, R, Ev, out_split h Ev R fun z s h1 W1 H1 u E1 R1 r1 => ?_⟩
  refine ⟨W1, env, s, R1, Ev.mono E1 R, (out_split h1 Ev R fun d s2 h2 => h2).imp (fun d s2 h2 W2 H2 v E2 R2 r2 => ?_) fun C fs s2 hx => hx.mono E1⟩
  refine ⟨W2, env, s2, R2, (Ev.mono E1 R).mono E2 R1, (out_split h2 Ev R fun y s3 h3 => h3).imp (fun y s3 h3 W3 H3 w E3 R3 r3 => ?_) fun C fs s3 hx => hx.mono (E1.trans E2)⟩
  split at h3
  · rename_i m k ek
    split at h3
    · rename_i kvs q
      split at h3
      · rename_i hl
        obtain ⟨a, ea, rfl⟩ := E3.relD R2 r2
        obtain ⟨vs, q1, q2⟩ := R3.live m a _ ea q
        rw [if_neg (by decide)] at q1
        have ew := keyOf_rel ek r3
        subst ew
        have E4 : Ext W3 H3 W3 (upd H3 a (.dK (putK vs k u))) := Ext.put ea q1
        have R4 := R3.putO (so := .dk false (putG kvs k z)) ea q1 ⟨_, by rw [if_neg (by decide)]; exact upd_same, relKs_put (E4.relD R3 (E3.relD R2 (E2.relD R1 r1))) ((E4.kt R3).relKs (List.prefix_refl _) q2)⟩
        refine ⟨a, _, rfl, DPut.k q1 (by rw [relKs_len q2]; exact lim_lt (Nat.le_of_lt hl)), ?_⟩
        exact h3 W3 σ _ (E1.trans (E2.trans (E3.trans E4))) R4 (Ev.mono (E1.trans (E2.trans (E3.trans E4))) R)
      · exact h3.elim
    · exact h3.elim
  · exact h3.elim
end
end Mi
/-! Mv5 -/
namespace Mi
open L2 PySem PySem.Spec PyProof.Rows
/-! ### a new dict that is being filled: nobody's as yet -/
structure DcW (K : PySem.W.Frag) (W1 : Wd) (H1 : Hp) (L : Addr) (W : Wd) (st : Sto) (H : Hp) (acc : List (L2.Key × D)) (vs : List (L2.Key × V)) : Prop where
  E : Ext W1 H1 W H
  R : Rl K W st H
  at_ : H L = some (.dK vs)
  nr : L ∉ W.ρ
  nF : ¬ W.F L
  rr : RelKs K W H acc vs
section
variable {K : PySem.W.Frag} {W1 W W' : Wd} {H1 H H' : Hp} {L : Addr} {st st' : Sto} {acc : List (L2.Key × D)} {vs : List (L2.Key × V)}
theorem DcW.new {s : Sto} (R1 : Rl K W1 s H1) (hL : H1 L = none) : DcW K W1 H1 L W1 s (upd H1 L (.dK [])) [] [] := by
  refine ⟨R1.more hL, R1.rest hL, upd_same, fun hm => ?_, fun hf => ?_, rfl⟩
  · obtain ⟨u, q⟩ := R1.mem hm; rw [hL] at q; cases q
  · obtain ⟨u, q⟩ := R1.fz _ hf; rw [hL] at q; cases q
theorem DcW.step (w : DcW K W1 H1 L W st H acc vs) (E : Ext W H W' H') (R : Rl K W' st' H') : DcW K W1 H1 L W' st' H' acc vs := by
  refine ⟨w.E.trans E, R, E.keep _ _ w.at_ w.nr, fun hm => ?_, fun hm => ?_, (E.kt w.R).relKs E.pre w.rr⟩
  · rcases E.new _ hm with h | h
    · exact w.nr h
    · rw [w.at_] at h; cases h
  · rcases E.nF _ hm with h | h
    · exact w.nF h
    · rw [w.at_] at h; cases h
theorem DcW.put {acc2 : List (L2.Key × D)} {vs2 : List (L2.Key × V)} (w : DcW K W1 H1 L W st H acc vs) (hL : H1 L = none) (r : RelKs K W H acc2 vs2) : DcW K W1 H1 L W st (upd H L (.dK vs2)) acc2 vs2 := by
  have k : KeepT W.F H W.F (upd H L (.dK vs2)) := ⟨fun _ h => h, fun a xs f q => by rw [upd_ne (fun e => w.nF (by rw [← e]; exact f))]; exact q, fun a xs q => by
    rw [upd_ne (fun e => by subst e; rw [w.at_] at q; cases q)]; exact q, fun a o xs q => by
    rw [upd_ne (fun e => by subst e; rw [w.at_] at q; cases q)]; exact q, fun a xs q => by
    rw [upd_ne (fun e => by subst e; rw [w.at_] at q; cases q)]; exact q⟩
  have R : Rl K W st (upd H L (.dK vs2)) := w.R.keep k rfl (fun a ha => upd_ne fun e => w.nr (by rw [← e]; exact ha)) w.R.sep fun a ha => by
    obtain ⟨xs, q⟩ := w.R.fz a ha
    exact ⟨xs, by rw [upd_ne (fun e => w.nF (by rw [← e]; exact ha))]; exact q⟩
  refine ⟨⟨w.E.pre, w.E.new, w.E.fF, w.E.nF, fun a u q hm => by rw [upd_ne (ne_of_none q hL)]; exact w.E.keep a u q hm, fun a u q => ?_, fun a o kvs q => by rw [upd_ne (ne_of_none q hL)]; exact w.E.lk a o kvs q⟩, R, upd_same, w.nr, w.nF, k.relKs (List.prefix_refl _) r⟩
  obtain ⟨u', q'⟩ := w.E.there a u q
  exact ⟨u', by rw [upd_ne (ne_of_none q hL)]; exact q'⟩
theorem DcW.added (w : DcW K W1 H1 L W st H acc vs) (hL : H1 L = none) : Ext W1 H1 (W.add L) H ∧ Rl K (W.add L) (st ++ [.dk false acc]) H ∧ (W.add L).ρ[st.length]? = some L := by
  have k : KeepT W.F H (W.add L).F H := ⟨fun _ h => h, fun _ _ _ q => q, fun _ _ q => q, fun _ _ _ q => q, fun _ _ q => q⟩
  have pre : W.ρ <+: (W.add L).ρ := List.prefix_append _ _
  have last : (W.ρ ++ [L])[st.length]? = some L := by rw [← w.R.len, List.getElem?_append_right (Nat.le_refl _), Nat.sub_self]; rfl
  refine ⟨⟨w.E.pre.trans pre, fun a h => ?_, w.E.fF, w.E.nF, w.E.keep, w.E.there, w.E.lk⟩, ⟨?_, ?_, fun n a o h1 h2 => ?_, fun a ha h => ?_, w.R.fz⟩, last⟩
  · (rcases List.mem_append.mp h with h | h)
    · exact w.E.new a h
    · rw [List.mem_singleton] at h; rw [h]; exact .inr hL
  · show (W.ρ ++ [L]).length = _
    rw [List.length_append, List.length_append, w.R.len]; rfl
  · show (W.ρ ++ [L]).Nodup
    rw [List.nodup_append]
    exact ⟨w.R.nd, by simp, fun a ha b hb e => by rw [List.mem_singleton] at hb; subst hb; subst e; exact w.nr ha⟩
  · have h1 : (W.ρ ++ [L])[n]? = some a := h1
    by_cases hn : n < W.ρ.length
    · rw [List.getElem?_append_left hn] at h1
      rw [List.getElem?_append_left (by rw [← w.R.len]; exact hn)] at h2
      exact k.soOk pre rfl (w.R.live n a o h1 h2)
    · have e : n = st.length := by
        have := (List.getElem?_eq_some_iff.mp h1).1
        rw [List.length_append, List.length_singleton] at this
        have := w.R.len
        omega
      subst e
      rw [last] at h1
      cases h1
      rw [List.getElem?_append_right (Nat.le_refl _), Nat.sub_self] at h2
      cases h2
      exact ⟨vs, by rw [if_neg (by decide)]; exact w.at_, k.relKs pre w.rr⟩
  · (rcases List.mem_append.mp ha with ha | ha)
    · exact w.R.sep a ha h
    · rw [List.mem_singleton] at ha; subst ha; exact w.nF h
end
/-! ### {k: v for ..} -/
def dcI (ga : D → Env → Option Env) (gt : Env → Sto → Res Bool) (fk fe : Env → Sto → Res D) (it : ItM) (env0 : Env) : Nat → Nat → Sto → List (L2.Key × D) → Option (List (L2.Key × D) × Sto)
  | 0, i, st, acc => match it.nth st i with
    | some none => some (acc, st)
    | _ => none
  | m + 1, i, st, acc => match it.nth st i with
    | some none => some (acc, st)
    | some (some d) => match ga d env0 with
      | some env1 => match gt env1 st with
        | .ok true st1 => match fk env1 st1 with
          | .ok y st2 => match fe env1 st2 with
            | .ok z st3 => match keyOf y with
              | some k => if acc.length < LIM then dcI ga gt fk fe it env0 m (i + 1) st3 (putG acc k z) else none
              | none => none
            | _ => none
          | _ => none
        | .ok false st1 => dcI ga gt fk fe it env0 m (i + 1) st1 acc
        | _ => none
      | none => none
    | none => none
def dcN (us : List Nat) (fit : Env → Sto → Res ItM) (ga : D → Env → Option Env) (gt : Env → Sto → Res Bool) (fk fe : Env → Sto → Res D) (env : Env) (st : Sto) : Res D := (fit env st).bind fun it s =>
  match dcI ga gt fk fe it (wipeE env us) it.most 0 s [] with
  | some (acc, s2) => .ok (.r s2.length) (s2 ++ [.dk false acc])
  | none => .bad
theorem dc_run {K : PySem.W.Frag} {us : List Nat} {ga : D → Env → Option Env} {gt : Env → Sto → Res Bool} {fk fe : Env → Sto → Res D} {σ : L2.St} {W1 : Wd} {H1 : Hp} {J : It} {it : ItM} {env : Env} {s : Sto} {Q : VK}
    (R1 : Rl K W1 s H1) (Ev : EnvR K W1 H1 env σ) (j : JOk K J it W1 H1) {acc' : List (L2.Key × D)} {s' : Sto} (hr : dcI ga gt fk fe it (wipeE env us) it.most 0 s [] = some (acc', s'))
    (fin : ∀ L W H vs, H1 L = none → DcW K W1 H1 L W s' H acc' vs → Q (.ref L) H) :
    ∀ D, H1 D = none → ∃ Wn : Nat → Nat → Hp → Prop, (∃ m, Wn 0 m (upd H1 D (.dK []))) ∧ ∀ i m H, Wn i m H →
      (J.stop i H ∧ Q (.ref D) H) ∨ (J.go i H ∧ ∃ Nx : Hp → Prop, (∀ H', Nx H' → ∃ m', m' < m ∧ Wn (i + 1) m' H') ∧ ∀ x H', J.yld i H x H' → tG K us ga x (wipe σ us) H' fun σ2 H2 => wipe σ2 us = wipe σ us ∧ tT K W0 gt σ2 H2 fun b H3 => if b = true then tE K W0 fk σ2 H3 fun y H4 => tE K W0 fe σ2 H4 fun z H5 => ∃ kvs k, y = kV k ∧ H5 D = some (.dK kvs) ∧ kvs.length < sizeLine ∧ Nx (upd H5 D (.dK (putK kvs k z))) else Nx H3) := by
  intro L hL
  refine ⟨fun i m H => ∃ W st acc vs, DcW K W1 H1 L W st H acc vs ∧ dcI ga gt fk fe it (wipeE env us) m i st acc = some (acc', s'), ⟨it.most, W1, s, [], [], .new R1 hL, hr⟩, ?_⟩
  rintro i m H ⟨W, st, acc, vs, w, h⟩
  obtain ⟨j1, j2⟩ := j W H st i w.E w.R
  cases q : it.nth st i with
  | none =>
    exfalso
    cases m with
    | zero => unfold dcI at h; rw [q] at h; cases h
    | succ m => unfold dcI at h; rw [q] at h; cases h
  | some od =>
    cases od with
    | none =>
      have stop : dcI ga gt fk fe it (wipeE env us) m i st acc = some (acc, st) := by
        cases m with
        | zero => unfold dcI; rw [q]
        | succ m => unfold dcI; rw [q]
      rw [stop] at h
      cases h
      exact .inl ⟨j1 q, fin L W H vs hL w⟩
    | some d =>
      cases m with
      | zero => exfalso; unfold dcI at h; rw [q] at h; cases h
      | succ m =>
        obtain ⟨jg, jy⟩ := j2 d q
        refine .inr ⟨jg, fun H' => ∃ W st acc vs, DcW K W1 H1 L W st H' acc vs ∧ dcI ga gt fk fe it (wipeE env us) m (i + 1) st acc = some (acc', s'), fun H' h => ⟨m, Nat.lt_succ_self m, h⟩, fun x H3 hy => ?_⟩
        obtain ⟨W3, E3, R3, r3⟩ := jy x H3 hy
        have w3 := w.step E3 R3
        unfold dcI at h
        simp only [q] at h
        cases q2 : ga d (wipeE env us) with
        | none => rw [q2] at h; cases h
        | some env1 =>
          simp only [q2] at h
          refine ⟨W3, wipeE env us, st, d, env1, R3, (Ev.mono w3.E R1).wipe us, r3, q2, fun σ3 Ev3 ag => ⟨ag.wipe, W3, env1, st, R3, Ev3, ?_⟩⟩
          cases q3 : gt env1 st with
          | bad => simp only [q3] at h; cases h
          | exc C x y => simp only [q3] at h; cases h
          | ok k st1 =>
            intro W4 H4 E4 R4
            have w4 := w3.step E4 R4
            cases k with
            | false =>
              simp only [q3] at h
              exact ite_ff ⟨W4, st1, acc, vs, w4, h⟩
            | true =>
              simp only [q3] at h
              refine ite_tt ⟨W4, env1, st1, R4, Ev3.mono E4 R3, ?_⟩
              cases q4 : fk env1 st1 with
              | bad => simp only [q4] at h; cases h
              | exc C x y => simp only [q4] at h; cases h
              | ok y st2 =>
                simp only [q4] at h
                intro W5 H5 yv E5 R5 r5
                have w5 := w4.step E5 R5
                refine ⟨W5, env1, st2, R5, (Ev3.mono E4 R3).mono E5 R4, ?_⟩
                cases q5 : fe env1 st2 with
                | bad => simp only [q5] at h; cases h
                | exc C x y => simp only [q5] at h; cases h
                | ok z st3 =>
                  simp only [q5] at h
                  intro W6 H6 zv E6 R6 r6
                  have w6 := w5.step E6 R6
                  cases q6 : keyOf y with
                  | none => simp only [q6] at h; cases h
                  | some k =>
                    simp only [q6] at h
                    split at h
                    · rename_i hl
                      exact ⟨vs, k, keyOf_rel q6 r5, w6.at_, by rw [relKs_len w6.rr]; exact lim_lt (Nat.le_of_lt hl), W6, st3, putG acc k z, putK vs k zv, w6.put hL (relKs_put r6 w6.rr), h⟩
                    · cases h
section
variable {X : Cx} {Wx : WX} {kx vx tg iter : Expr} {ifs : List Expr} {scope : Scope} {own : List (Str × Nat)} {pos : Pos} {ga : D → Env → Option Env} {gt : Env → Sto → Res Bool} {fk fe : Env → Sto → Res D} {fit : Env → Sto → Res ItM}
theorem re_dc (hc : X.calm = true) (hN : X.N.Nodup) (hi : RI X Wx tg iter fit) (ok : BlkOk X.N X.env.scope scope own)
    (hg : ∀ (s : Shared) (H : Hp) (C : Addr) (cl : List (Str × Addr)) (fp : List Addr), RG (X.blk s H scope (compEnvC scope cl C X.env) fp) (own.map (·.2)) tg ga) (ht : ∀ (s : Shared) (H : Hp) (C : Addr) (cl : List (Str × Addr)) (fp : List Addr), RTs (X.blk s H scope (compEnvC scope cl C X.env) fp) ifs gt)
    (hk : ∀ (s : Shared) (H : Hp) (C : Addr) (cl : List (Str × Addr)) (fp : List Addr), RE (X.blk s H scope (compEnvC scope cl C X.env) fp) W0 kx fk)
    (he : ∀ (s : Shared) (H : Hp) (C : Addr) (cl : List (Str × Addr)) (fp : List Addr), RE (X.blk s H scope (compEnvC scope cl C X.env) fp) W0 vx fe) (hs : ∀ x, foldedSetIterable iter X.env x = pure x := by intro _; rfl) :
    RE X Wx (.DictComp kx vx [⟨tg, iter, ifs, 0⟩] scope pos) (dcN (own.map (·.2)) fit ga gt fk fe) := by
  refine PE.conv (pe_dc (g := tG X.K (own.map (·.2)) ga) (tt := tT X.K W0 gt) (tk := tE X.K W0 fk) (tv := tE X.K W0 fe) hc hN hi ok hg ht hk he hs) fun σ H Q ⟨W, env, st, R, Ev, h⟩ => ⟨W, env, st, R, Ev, split h (fun it s h1 W1 H1 J E1 R1 j => ?_) fun C fs st' hx => hx⟩
  split at h1
  · rename_i acc s2 hr
    refine dc_run R1 (Ev.mono E1 R) j hr fun L W2 H2 vs hL w => ?_
    obtain ⟨a1, a2, a3⟩ := w.added hL
    exact h1 _ H2 _ (E1.trans a1) a2 ⟨L, a3, rfl⟩
  · exact h1.elim
end
end Mi
/-! Mv6 -/
namespace Mi
open L2 PySem PySem.Spec PyProof.Rows
section
variable {X : Cx} {Wx : WX} {e o i tg iter : Expr} {es : List Expr} {f fo fv fi : Env → Sto → Res D} {x n : Str} {p pos pos' kpos apos cpos tpos mpos : Pos} {k : Nat} {C : Addr}
/-! ### what a dict holds -/
/-- the pairs of a dict with keys that are ints and texts -/
def dkv (st : Sto) (d : D) : Option (List (L2.Key × D)) := match d with
  | .r n => match st[n]? with
    | some (.dk _ kvs) => some kvs
    | _ => none
  | .t (.dk ks ts) => some (ks.zip (ts.map .t))
  | _ => none
theorem relZ_K {κ : Type} {K : PySem.W.Frag} {W : Wd} {H : Hp} : ∀ {ks : List κ} {ts : List T} {vs : List V}, ks.length = ts.length → RelTs K W.F H ts vs → RelKs K W H (ks.zip (ts.map .t)) (ks.zip vs)
  | [], ts, vs, _, h => by rw [List.zip_nil_left, List.zip_nil_left]; rfl
  | j :: ks, [], vs, l, h => by cases l
  | j :: ks, x :: ts, vs, l, h => by
    obtain ⟨y, u, rfl, a, b⟩ := h
    exact ⟨y, _, rfl, a, relZ_K (Nat.succ.inj l) b⟩
theorem dkv_rel {K : PySem.W.Frag} {W : Wd} {H : Hp} {st : Sto} (R : Rl K W st H) {d : D} {kvs : List (L2.Key × D)} {v : V} (h : dkv st d = some kvs) (r : RelD K W H d v) : ∃ a vs, v = .ref a ∧ Rd H a (.dK vs) ∧ RelKs K W H kvs vs := by
  unfold dkv at h
  split at h
  · rename_i m
    split at h
    · rename_i lk ks q
      cases h
      obtain ⟨a, e, rfl⟩ := r
      obtain ⟨vs, q1, q2⟩ := R.live m a _ e q
      refine ⟨a, vs, rfl, ?_, q2⟩
      cases lk with
      | true => rw [if_pos rfl] at q1; exact .inr q1
      | false => rw [if_neg (by decide)] at q1; exact .inl q1
    · cases h
  · cases h
    obtain ⟨a, vs, rfl, _, q, l, rr⟩ := r
    exact ⟨a, _, rfl, q, relZ_K l rr⟩
  · cases h
theorem relKs_keys {K : PySem.W.Frag} {W : Wd} {H : Hp} : ∀ {kvs : List (L2.Key × D)} {vs : List (L2.Key × V)}, RelKs K W H kvs vs → RelTs K W.F H (kvs.map fun p => keyT p.1) (vs.map fun p => kV p.1)
  | [], vs, h => by cases h; rfl
  | (j, d) :: r, vs, h => by
    obtain ⟨v, u, rfl, _, b⟩ := h
    refine ⟨kV j, _, rfl, ?_, relKs_keys b⟩
    cases j <;> rfl
theorem relKs_vals {κ : Type} {K : PySem.W.Frag} {W : Wd} {H : Hp} : ∀ {kvs : List (κ × D)} {vs : List (κ × V)}, RelKs K W H kvs vs → RelDs K W H (kvs.map (·.2)) (vs.map (·.2))
  | [], vs, h => by cases h; rfl
  | (j, d) :: r, vs, h => by
    obtain ⟨v, u, rfl, a, b⟩ := h
    exact ⟨v, _, rfl, a, relKs_vals b⟩
/-- list(d): the keys -/
def lstKB (ds : List D) (st : Sto) : Option D := match ds with
  | [d] => (dkv st d).map fun kvs => .t (.lst (kvs.map fun p => keyT p.1))
  | _ => none
theorem c_lstK (hc : X.calm = true) : CallR X (.type "list") (rC X.K lstKB) := call_of (call_listD hc) fun W st ds xs H Q z R r h q => by
  unfold lstKB at h
  split at h
  · rename_i d
    obtain ⟨v, rfl, r1⟩ := rel1 r
    cases e : dkv st d with
    |  none => rw [e] at h; cases h
    | some kvs =>
      rw [e] at h
      cases h
      obtain ⟨a, vs, rfl, rd, rk⟩ := dkv_rel R e r1
      exact ⟨a, vs, rfl, rd, fun p hp => q (W.fix p) _ _ (Ext.fix W hp) (R.fix hp) ⟨p, _, rfl, .inr rfl, upd_same, (Ext.fix W hp).relTs R _ _ (relKs_keys rk)⟩⟩
  · cases h
/-! ### enumerate -/
def enIt (d : D) (n : Nat) : ItM := ⟨fun st i => (items st d).bind fun ds => match ds[i]? with
  | some (.t x) => some (some (.t (.tup [.int (i : Nat), x])))
  | some _ => none
  | none => some none, n⟩
def enOf (f : Env → Sto → Res D) (env : Env) (st : Sto) : Res ItM := (f env st).bind fun d s => match d with
  | .t (.tup _) => .bad
  | d => optR ((lsq s d).map fun ds => enIt d ds.length) s
theorem JOk.enum {K : PySem.W.Frag} {W : Wd} {H : Hp} {st : Sto} {d : D} {a : Addr} {n : Nat} (R : Rl K W st H) (r : RelD K W H d (.ref a)) (hs : ∀ ts, d ≠ .t (.tup ts)) : JOk K (Ite K a) (enIt d n) W H := by
  intro W' H' st' i E' R'
  have r' := E'.relD R r
  have get : ∀ ds, items st' d = some ds → ∃ vs, SqL K H' a vs ∧ RelDs K W' H' ds vs := fun ds e1 => by
    have e0 : lsq st' d = some ds := by
      unfold lsq
      split
      · rename_i ts; exact absurd rfl (hs ts)
      · exact e1
    obtain ⟨a', vs, e3, s, rr⟩ := lsq_rel R' e0 r'
    cases e3
    exact ⟨vs, s, rr⟩
  refine ⟨fun h => ?_, fun dd h => ?_⟩
  · cases e1 : items st' d with
    | none => unfold enIt at h; simp only [e1] at h; cases h
    | some ds =>
      obtain ⟨vs, s, rr⟩ := get ds e1
      refine ⟨vs, s, ?_⟩
      rw [relDs_len rr]
      unfold enIt at h
      simp only [e1, Option.bind_some] at h
      split at h
      · cases h
      · cases h
      · rename_i q; exact List.getElem?_eq_none_iff.mp q
  · cases e1 : items st' d with
    | none => unfold enIt at h; simp only [e1] at h; cases h
    | some ds =>
      obtain ⟨vs, s, rr⟩ := get ds e1
      unfold enIt at h
      simp only [e1, Option.bind_some] at h
      split at h
      · rename_i y q
        cases h
        obtain ⟨v, e3, rv⟩ := relDs_get rr q
        refine ⟨⟨vs, v, s, e3⟩, fun u H2 hy => ?_⟩
        obtain ⟨t, w, rfl, ht, rfl, hw⟩ := hy
        have e4 : w = v := Option.some.inj ((hw vs s).symm.trans e3)
        subst e4
        exact ⟨W', R'.more ht, R'.rest ht, t, _, rfl, .inl upd_same, V.int (i : Nat), [w], rfl, rfl, w, [], rfl, (R'.more ht).relT R' y w rv, rfl⟩
      · cases h
      · cases h
theorem ri_enum {elts : List Expr} {kk : Nat} (hg : Gl X "enumerate") (hm : X.mg "enumerate" = none) (h : RE X Wx e f) (hs : starEach [e] X.env = [(false, eval e X.env)] := by rfl) : RI X Wx (.Tuple elts kk tpos) (.Call (.Name "enumerate" p) [e] [] pos) (enOf f) := by
  refine PI.conv (pi_enum hg hm (ra_cons h ra_nil hs) hs) fun σ H Q ⟨W, env, st, R, Ev, h⟩ => ⟨W, env, st, R, Ev, ?_⟩
  show ((f env st).bind fun d st1 => (argsM [] env st1).bind fun ds st2 => .ok (d :: ds) st2).Holds _ _
  have key := split (A' := fun d s => (match d with
    | .t (.tup _) => Res.bad
    | d => optR ((lsq s d).map fun ds : List D => enIt d ds.length) s).Holds (fun it s => ∀ W' H' J, Ext W H W' H' → Rl X.K W' s H' → JOk X.K J it W' H' → Q J H') (OkX X.K W H fun c o H' => Wx c o σ H')) h (fun d s h1 => h1) fun _ _ _ hx => hx
  cases q : f env st with
  | bad => rw [q] at key; exact key
  | exc C fs s => rw [q] at key; exact key
  | ok d s =>
    rw [q] at key
    intro W1 H1 vs E1 R1 r1
    obtain ⟨v, u, rfl, rv, ru⟩ := r1
    cases ru
    have nt : ∀ ts, d ≠ .t (.tup ts) := fun ts z => by subst z; exact key.elim
    have h1 : (optR ((lsq s d).map fun ds : List D => enIt d ds.length) s).Holds (fun it s => ∀ W' H' J, Ext W H W' H' → Rl X.K W' s H' → JOk X.K J it W' H' → Q J H') (OkX X.K W H fun c o H' => Wx c o σ H') := by
      cases d with
      | t y =>
        cases y with
        | tup ts => exact absurd rfl (nt ts)
        | _ => exact key
      | _ => exact key
    obtain ⟨it, e1, q1⟩ := optR_holds h1
    cases q2 : lsq s d with
    | none => rw [q2] at e1; cases e1
    | some ds =>
      rw [q2] at e1
      cases e1
      obtain ⟨a, ws, rfl, sq, _⟩ := lsq_rel R1 q2 rv
      exact ⟨a, ws, rfl, sq, q1 W1 H1 _ E1 R1 (JOk.enum R1 rv nt)⟩
/-! ### starred parts -/
def starM (f : Env → Sto → Res D) (g : Env → Sto → Res (List D)) (env : Env) (st : Sto) : Res (List D) := (f env st).bind fun d s => match items s d with
  | some ds => (g env s).bind fun es s2 => .ok (ds ++ es) s2
  | none => .bad
theorem ra_star {g : Env → Sto → Res (List D)} (h : RE X Wx e f) (hr : RA X Wx es g) (hs : starEach (.Starred e p :: es) X.env = (true, eval e X.env) :: starEach es X.env := by rfl) : RA X Wx (.Starred e p :: es) (starM f g) := by
  refine PA.conv (StX.pa_star h hr hs) fun σ H Q ⟨W, env, st, R, Ev, h⟩ => ⟨W, env, st, R, Ev, split h (fun d s h1 W1 H1 v E1 R1 r1 => ?_) fun C fs st' hx => hx⟩
  cases q : items s d with
  | none => rw [q] at h1; exact h1.elim
  | some ds =>
    rw [q] at h1
    obtain ⟨a, vs, rfl, sq, rr⟩ := items_seq R1 q r1
    refine ⟨a, vs, rfl, sq.symm, W1, env, s, R1, Ev.mono E1 R, split h1 (fun es s2 h2 W2 H2 ws E2 R2 r2 => ?_) fun C fs st' hx => hx.mono E1⟩
    exact h2 W2 H2 (vs ++ ws) (E1.trans E2) R2 (relDs_append (E2.relDs R1 rr) r2)
def consM (f : Env → Sto → Res D) (g : Env → Sto → Res (List D)) (env : Env) (st : Sto) : Res (List D) := (f env st).bind fun d s => (g env s).bind fun ds s2 => .ok (d :: ds) s2
theorem ra_consG {g : Env → Sto → Res (List D)} (ha : RE X Wx e f) (hr : RA X Wx es g) (hs : starEach (e :: es) X.env = (false, eval e X.env) :: starEach es X.env := by rfl) : RA X Wx (e :: es) (consM f g) := by
  refine PA.conv (pa_cons ha hr hs) fun σ H Q ⟨W, env, st, R, Ev, h⟩ => ⟨W, env, st, R, Ev, split h (fun d st1 h1 W1 H1 v E1 R1 r1 => ?_) fun C fs st' hx => hx⟩
  refine ⟨W1, env, st1, R1, Ev.mono E1 R, split h1 (fun ds st2 h2 W2 H2 vs E2 R2 r2 => ?_) fun C fs st' hx => hx.mono E1⟩
  exact h2 W2 H2 (v :: vs) (E1.trans E2) R2 ⟨v, vs, rfl, E2.relD R1 r1, r2⟩
def tupG (g : Env → Sto → Res (List D)) (env : Env) (st : Sto) : Res D := (g env st).bind fun ds st1 => match plains ds with
  | some ts => if ts.length ≤ LIM then .ok (.t (.tup ts)) st1 else .bad
  | none => .bad
theorem re_tupG {g : Env → Sto → Res (List D)} {x1 : Nat} (h : RA X Wx es g) : RE X Wx (.Tuple es x1 pos) (tupG g) := by
  refine PE.conv (pe_tup h) fun σ H Q ⟨W, env, st, R, Ev, h⟩ => ⟨W, env, st, R, Ev, split h (fun ds st1 h1 W1 H1 vs E1 R1 r1 => ?_) fun C fs st' hx => hx⟩
  cases e2 : plains ds with
  | none => rw [e2] at h1; exact h1.elim
  | some ts =>
    rw [e2] at h1
    dsimp only at h1
    split at h1
    · rename_i hl
      have rt := relTs_of e2 r1
      exact ⟨by rw [relTs_len rt]; exact lim_size hl, fun q hq => h1 W1 _ _ (E1.trans (R1.more hq)) (R1.rest hq) ⟨q, vs, rfl, .inl upd_same, (R1.more hq).relTs R1 _ _ rt⟩⟩
    · exact h1.elim
end
end Mi
/-! Mv7 -/
namespace Mi
open L2 PySem PySem.Spec PyProof.Rows
section
variable {X : Cx} {Wx : WX} {e o i tg iter : Expr} {es : List Expr} {f fo fv fi : Env → Sto → Res D} {x n : Str} {p pos pos' kpos apos cpos tpos mpos : Pos} {k : Nat} {C : Addr}
/-! ### a walk over the keys of a dict: it is locked from here on -/
theorem pe_lockD {te : TE} (he : PE X e te) : PE X e (fun σ H Q => te σ H fun v H1 => ∃ d kvs, v = .ref d ∧ H1 d = some (.dK kvs) ∧ ∀ od, Q v (upd H1 d (.frz od (.dK kvs)))) := by
  refine ⟨fun pins s σ H Q I h => thn (he.run pins s σ H _ I h) fun u s1 ⟨v, H1, I1, rv, d, kvs, ev, hd, q⟩ => ?_⟩
  obtain ⟨od, I2⟩ := I1.lock hd True.intro
  exact ⟨v, _, I2, rv, q od⟩
def keyIt (ks : List L2.Key) : ItM := ⟨fun _ i => some ((ks[i]?).map fun k => .t (keyT k)), ks.length⟩
def keyOfM (f : Env → Sto → Res D) (env : Env) (st : Sto) : Res ItM := (f env st).bind fun d s => match d with
  | .r m => match s[m]? with
    | some (.dk false kvs) => .ok (keyIt (kvs.map (·.1))) (s.set m (.dk true kvs))
    | _ => .bad
  | _ => .bad
theorem relKs_fst {κ : Type} {K : PySem.W.Frag} {W : Wd} {H : Hp} : ∀ {kvs : List (κ × D)} {vs : List (κ × V)}, RelKs K W H kvs vs → vs.map (·.1) = kvs.map (·.1)
  | [], vs, h => by cases h; rfl
  | (j, d) :: r, vs, h => by
    obtain ⟨v, u, rfl, _, b⟩ := h
    rw [List.map_cons, List.map_cons, relKs_fst b]
theorem ri_keys (h : RE X Wx e f) : RI X Wx tg e (keyOfM f) := by
  refine PI.conv (pi_keys (pe_lockD h)) fun σ H Q ⟨W, env, st, R, Ev, h⟩ => ⟨W, env, st, R, Ev, split h (fun d s h1 W1 H1 v E1 R1 r1 => ?_) fun C fs st' hx => hx⟩
  cases d with
  | t => exact h1.elim
  | x => exact h1.elim
  | r m =>
    dsimp only at h1
    cases q : s[m]? with
    | none => rw [q] at h1; exact h1.elim
    | some so =>
      rw [q] at h1
      cases so with
      | lst => exact h1.elim
      | ins => exact h1.elim
      | dt => exact h1.elim
      | dk lk kvs =>
        cases lk with
        | true => exact h1.elim
        | false =>
          obtain ⟨a, ea, rfl⟩ := r1
          obtain ⟨vs, q1, q2⟩ := R1.live m a _ ea q
          rw [if_neg (by decide)] at q1
          refine ⟨a, vs, rfl, q1, fun od => ⟨a, od, rfl, .inl ⟨vs, upd_same, ?_⟩⟩⟩
          have E2 : Ext W1 H1 W1 (upd H1 a (.frz od (.dK vs))) := Ext.put ea q1
          have R2 := R1.putO (so := .dk true kvs) ea q1 ⟨vs, by rw [if_pos rfl]; exact ⟨od, upd_same⟩, (E2.kt R1).relKs (List.prefix_refl _) q2⟩
          refine h1 W1 _ _ (E1.trans E2) R2 ?_
          have ek := relKs_fst q2
          intro W' H' st' j E' R'
          have hd : H' a = some (.frz od (.dK vs)) := E'.lk a od vs upd_same
          have len : vs.length = (kvs.map (·.1)).length := by rw [← ek, List.length_map]
          refine ⟨fun hn => ⟨hd, ?_⟩, fun d hn => ?_⟩
          · have hn : some (((kvs.map (·.1))[j]?).map fun k => D.t (keyT k)) = some none := hn
            cases z : (kvs.map (·.1))[j]? with
            | none => rw [len]; exact List.getElem?_eq_none_iff.mp z
            | some y => rw [z] at hn; cases hn
          · have hn : some (((kvs.map (·.1))[j]?).map fun k => D.t (keyT k)) = some (some d) := hn
            cases z : (kvs.map (·.1))[j]? with
            | none => rw [z] at hn; cases hn
            | some y =>
              rw [z] at hn
              cases hn
              have hj : j < vs.length := by rw [len]; exact (List.getElem?_eq_some_iff.mp z).1
              refine ⟨⟨hd, hj⟩, fun u H2 hy => ?_⟩
              obtain ⟨rfl, k', w, e3, rfl⟩ := hy
              have e4 : (vs.map (·.1))[j]? = some k' := by rw [List.getElem?_map, e3]; rfl
              rw [ek, z] at e4
              cases e4
              refine ⟨W', .refl, R', ?_⟩
              cases y <;> rfl
/-! ### list(d.values()) -/
theorem kv_at : ∀ {ks : List (L2.Key × V)} {us : List (L2.Key × Value)} {j : Nat} {a : L2.Key × V} {b : L2.Key} {w : Value}, KV ks us → ks[j]? = some a → us[j]? = some (b, w) → RelV a.2 w
  | _, _, j, a, b, w, .nil, h, _ => by simp at h
  | _, _, 0, a, b, w, .cons r _, h1, h2 => by simp at h1 h2; subst h1; rw [h2] at r; exact r.2
  | _, _, j + 1, a, b, w, .cons _ t, h1, h2 => kv_at t (by simpa using h1) (by simpa using h2)
theorem pe_listVals {te : TE} (hc : X.calm = true) (he : PE X e te) (hg : Gl X "list") (hm : X.mg "list" = none) (hbase : attributeBase e "values" X.env (eval e X.env) = eval e X.env := by rfl) (hline : (apos.endLine == cpos.line) = true := by rfl)
    (hs : starEach [.Call (.Attribute e "values" apos) [] [] cpos] X.env = (false, eval (.Call (.Attribute e "values" apos) [] [] cpos) X.env) :: starEach [] X.env := by rfl) :
    PE X (.Call (.Name "list" p) [.Call (.Attribute e "values" apos) [] [] cpos] [] pos) (fun σ H Q => te σ H fun v H1 => ∃ d kvs, v = .ref d ∧ H1 d = some (.dK kvs) ∧ ∀ q, H1 q = none → Q (.ref q) (upd H1 q (.lst (kvs.map (·.2))))) := by
  refine  ⟨fun pins s σ H Q I hq => ?_⟩
  refine wpAny_Call_Name_kw (ld_blt (u := .type "list") I hg hm rfl ?_)
  refine  PyProof.Rows.callWith_type1 ?_ hs rfl
  rw [hs]
  show wpAny _ _ (spliced ((false, eval (.Call (.Attribute e "values" apos) [] [] cpos) X.env) :: backTo pos (starEach [] X.env))) _ _ s
  refine Calls.spliced_cons ?_
  refine (wpAny_Call_method (T := "dict") (id := "dict.values") hbase rfl hline F.plainAttrs_dict F.slot_dict_values F.type_dict_values (thn (he.run pins s σ H _ I hq) fun u s1 ⟨v, H1, I1, rx, d, kvs, ex, hd, q⟩ => ?_))
  subst ex
  obtain  rfl : u = Value.ref d := rx
  obtain ⟨hz, hs0, vs, kv, hdo⟩ := (show ObjOk X.prog X.w H1 s1.heap d (.dK kvs) from I1.hok d _ hd)
  obtain  ⟨ep, hat⟩ := hdo.dictAt
  have  lk : kvs.length = vs.length := Paired.length kv
  have  I2 : Inv X pins σ H1 { s1 with heap := s1.heap.push { cls := .type "dict_values", data := .fields #[.ref d] } } := I1.kept (t' := s1.toks) fun b ob q => Heap.get?_push_of_some _ q
  refine  ⟨hdo.typeIs, hdo.mapOf.noDict, ?_⟩
  show  wpAny _ _ (callWith cpos (.builtin "dict.values") [.ref d] [] []) _ X.xe s1
  refine (method_meetsIn F.slot_dict_values F.entry_dict_values rfl (PySem.evalArgs_none ⟨rfl, hdo.typeIs, F.args_dict_values_1 _, _, meets_dict_values (mixKind X.prog X.w) d hs0, ⟨vs, hdo⟩, ?_⟩))
  refine Calls.spliced_nil ?_
  refine (PySem.W.kdl_call (PySem.W.kdl_values (knd := mixKind X.prog X.w) (kvs := vs) (ep := ep) (d := d)) (I1.ok.hd hc) ⟨⟨_, Heap.get?_push_size _ rfl, rfl, rfl⟩, hat.push _⟩ (by omega) fun h' tk acc c' hk hS hacc => ?_)
  have hv : Vals (kvs.map (·.2)) acc.toList := by
    have el : acc.toList.length = acc.size := by simp
    refine vals_of_at (by rw [List.length_map, el, hacc.1, lk]) fun j y w h1 h2 => ?_
    obtain ⟨ky, e2⟩ := hacc.2 j w (by rw [← Array.getElem?_toList]; exact h2)
    rw [List.getElem?_map] at h1
    cases e3 : kvs[j]? with
    | none => rw [e3] at h1; cases h1
    | some pr =>
      rw [e3] at h1
      cases h1
      exact kv_at kv e3 e2
  have hn : H1 (s1.heap.push { cls := .type "dict_values", data := .fields #[.ref d] }).objs.size = none := I2.hok.fresh (Nat.le_refl _)
  exact ⟨.ref _, _, I2.laid (t' := tk) hk (Nat.le_refl _) (show ObjOk X.prog X.w _ _ _ (.lst (kvs.map (·.2))) from ⟨by rw [List.length_map]; exact hz, acc.toList, c', hv, by rw [Array.toArray_toList]; exact hS⟩), rfl, q _ hn⟩
def lstVM (f : Env → Sto → Res D) (env : Env) (st : Sto) : Res D := (f env st).bind fun d s => match d with
  | .r m => match s[m]? with
    | some (.dk false kvs) => match plains (kvs.map (·.2)) with
      | some ts => .ok (.t (.lst ts)) s
      | none => .bad
    | _ => .bad
  | _ => .bad
theorem re_lstV (hc : X.calm = true) (h : RE X Wx e f) (hg : Gl X "list") (hm : X.mg "list" = none) (hbase : attributeBase e "values" X.env (eval e X.env) = eval e X.env := by rfl) (hline : (apos.endLine == cpos.line) = true := by rfl)
    (hs : starEach [.Call (.Attribute e "values" apos) [] [] cpos] X.env = (false, eval (.Call (.Attribute e "values" apos) [] [] cpos) X.env) :: starEach [] X.env := by rfl) : RE X Wx (.Call (.Name "list" p) [.Call (.Attribute e "values" apos) [] [] cpos] [] pos) (lstVM f) := by
  refine PE.conv (pe_listVals hc h hg hm hbase hline hs) fun σ H Q ⟨W, env, st, R, Ev, h⟩ => ⟨W, env, st, R, Ev, split h (fun d s h1 W1 H1 v E1 R1 r1 => ?_) fun C fs st' hx => hx⟩
  cases d with
  | t => exact h1.elim
  | x => exact h1.elim
  | r m =>
    dsimp only at h1
    cases q : s[m]? with
    | none => rw [q] at h1; exact h1.elim
    | some so =>
      rw [q] at h1
      cases so with
      | lst => exact h1.elim
      | ins => exact h1.elim
      | dt => exact h1.elim
      | dk lk kvs =>
        cases lk with
        | true => exact h1.elim
        | false =>
          dsimp only at h1
          obtain ⟨a, ea, rfl⟩ := r1
          obtain ⟨vs, q1, q2⟩ := R1.live m a _ ea q
          rw [if_neg (by decide)] at q1
          cases q3 : plains (kvs.map (·.2)) with
          | none => rw [q3] at h1; exact h1.elim
          | some ts =>
            rw [q3] at h1
            exact ⟨a, vs, rfl, q1, fun b hb => h1 (W1.fix b) _ _ (E1.trans (Ext.fix W1 hb)) (R1.fix hb) ⟨b, _, rfl, .inr rfl, upd_same, (Ext.fix W1 hb).relTs R1 _ _ (relTs_of q3 (relKs_vals q2))⟩⟩
/-! ### dict displays; tuple keys -/
def newDt (_ : Env) (st : Sto) : Res D := .ok (.r st.length) (st ++ [.dt []])
theorem re_newDt : RE X Wx (.Dict [] [] pos) newDt := by
  refine PE.conv pe_dnewT fun σ H Q ⟨W, env, st, R, Ev, h⟩ p hp => ?_
  exact h (W.add p) _ _ (Ext.add W hp) (R.addO hp ⟨[], upd_same, rfl⟩) ⟨p, by show (W.ρ ++ [p])[st.length]? = some p; rw [← R.len, List.getElem?_append_right (Nat.le_refl _), Nat.sub_self]; rfl, rfl⟩
def newDk (_ : Env) (st : Sto) : Res D := .ok (.r st.length) (st ++ [.dk false []])
theorem re_newDk : RE X Wx (.Dict [] [] pos) newDk := by
  refine PE.conv pe_dnewK fun σ H Q ⟨W, env, st, R, Ev, h⟩ p hp => ?_
  exact h (W.add p) _ _ (Ext.add W hp) (R.addO hp ⟨[], by rw [if_neg (by decide)]; exact upd_same, rfl⟩) ⟨p, by show (W.ρ ++ [p])[st.length]? = some p; rw [← R.len, List.getElem?_append_right (Nat.le_refl _), Nat.sub_self]; rfl, rfl⟩
/-- o[a, b] = v -/
def dputT (fo : Env → Sto → Res D) (fs : List (Env → Sto → Res D)) (fv : Env → Sto → Res D) (env : Env) (st : Sto) : Out := (fv env st).out env fun z s => (fo env s).out env fun d s2 => (argsM fs env s2).out env fun ys s3 => match d, (plains ys).bind keysOf with
  | .r m, some k => match s3[m]? with
    | some (.dt kvs) => if kvs.length < LIM ∧ ys.length ≤ 1000 then .nx env (s3.set m (.dt (putG kvs k z))) else .bad
    | _ => .bad
  | _, _ => .bad
theorem rs_dputT {fs : List (Env → Sto → Res D)} {x1 : Nat} (hu : X.A.units + 1 < cLine) (ho : RE X Wx o fo) (hi : RA X Wx es (argsM fs)) (hv : RE X Wx e fv) (hs : swapsWith e (some (.Subscript o (.Tuple es x1 tpos) pos')) pos.line X.env = pure false := by rfl) : RS X Wx (.Assign [.Subscript o (.Tuple es x1 tpos) pos'] e pos) (dputT fo fs fv) := by
  refine PS.conv (ps_dput hu ho (pe_tup hi) hv hs) fun E σ H ⟨W, env, st, R, Ev, h⟩ => ⟨W, env, st, R, Ev, out_split h Ev R fun z s h1 W1 H1 u E1 R1 r1 => ?_⟩
  refine ⟨W1, env, s, R1, Ev.mono E1 R, (out_split h1 Ev R fun d s2 h2 => h2).imp (fun d s2 h2 W2 H2 v E2 R2 r2 => ?_) fun C fs s2 hx => hx.mono E1⟩
  refine ⟨W2, env, s2, R2, (Ev.mono E1 R).mono E2 R1, (out_split h2 Ev R fun y s3 h3 => h3).imp (fun ys s3 h3 W3 H3 ws E3 R3 r3 => ?_) fun C fs s3 hx => hx.mono (E1.trans E2)⟩
  split at h3
  · rename_i m k ek
    split at h3
    · rename_i kvs q
      split at h3
      · rename_i hl
        cases q5 : plains ys with
        | none => rw [q5] at ek; cases ek
        | some ts =>
          rw [q5] at ek
          have ek : keysOf ts = some k := ek
          have ew := keysOf_rel ek (relTs_of q5 r3)
          subst ew
          refine ⟨by have := relDs_len r3; rw [sizeLine_eq]; omega, fun b hb => ?_⟩
          have Eb : Ext W3 H3 W3 (upd H3 b (.tup (k.map kV))) := R3.more hb
          have Rb : Rl X.K W3 s3 (upd H3 b (.tup (k.map kV))) := R3.rest hb
          obtain ⟨a, ea, rfl⟩ := E3.relD R2 r2
          obtain ⟨vs, q1, q2⟩ := Rb.live m a _ ea q
          have E4 : Ext W3 (upd H3 b (.tup (k.map kV))) W3 (upd (upd H3 b (.tup (k.map kV))) a (.dT (putK vs k u))) := Ext.put ea q1
          have R4 := Rb.putO (so := .dt (putG kvs k z)) ea q1 ⟨_, upd_same, relKs_put (E4.relD Rb (Eb.relD R3 (E3.relD R2 (E2.relD R1 r1)))) ((E4.kt Rb).relKs (List.prefix_refl _) q2)⟩
          refine ⟨a, _, rfl, DPut.t q1 upd_same (by rw [relKs_len q2]; exact lim_lt (Nat.le_of_lt hl.1)), ?_⟩
          have Eall := E1.trans (E2.trans (E3.trans (Eb.trans E4)))
          exact h3 W3 σ _ Eall R4 (Ev.mono Eall R)
      · exact h3.elim
    · exact h3.elim
  · exact h3.elim
end
end Mi
/-! Mv8 -/
namespace Mi
open L2 PySem PySem.Spec PyProof.Rows
section
variable {X : Cx} {Wx : WX} {e v : Expr} {keys : List (Option Expr)} {values : List Expr} {f : Env → Sto → Res D} {pos : Pos}
/-! ### {'a': .., 'b': ..} -/
def trsM (K : PySem.W.Frag) (Wx : WX) (ss : List Str) (fs : List (Env → Sto → Res D)) : List (TE × TE) := (ss.zip fs).map fun p => (tE K Wx (eC (.str p.1)), tE K Wx p.2)
abbrev RPs (X : Cx) (Wx : WX) (pos : Pos) (keys : List (Option Expr)) (values : List Expr) (ss : List Str) (fs : List (Env → Sto → Res D)) : Prop := PPs X pos keys values (trsM X.K Wx ss fs)
theorem rps_nil : RPs X Wx pos [] [] [] [] := pps_nil
theorem rps_cons {s : Str} {ss : List Str} {fs : List (Env → Sto → Res D)} (hk : RE X Wx e (eC (.str s))) (hv : RE X Wx v f) (hr : RPs X Wx pos keys values ss fs) : RPs X Wx pos (some e :: keys) (v :: values) (s :: ss) (f :: fs) := pps_cons hk hv hr
def dispKs (ss : List Str) (ds : List D) : List (L2.Key × D) := (ss.zip ds).foldl (fun acc p => putG acc (.inr p.1) p.2) []
def dispM (ss : List Str) (fs : List (Env → Sto → Res D)) (env : Env) (st : Sto) : Res D := (argsM fs env st).bind fun ds s => if ds.length = ss.length ∧ ss.length ≤ 15 then .ok (.r s.length) (s ++ [.dk false (dispKs ss ds)]) else .bad
theorem disp_put {K : PySem.W.Frag} {W : Wd} {H : Hp} : ∀ {ss : List Str} {ds : List D} {vs : List V} {acc : List (L2.Key × D)} {bcc : List (L2.Key × V)}, RelDs K W H ds vs → RelKs K W H acc bcc →
    RelKs K W H ((ss.zip ds).foldl (fun acc p => putG acc (.inr p.1) p.2) acc) (mergeK bcc (((ss.map Sum.inr : List L2.Key)).zip vs))
  | [], ds, vs, acc, bcc, _, h => by rw [List.zip_nil_left, List.map_nil, List.zip_nil_left]; exact h
  | s :: ss, [], vs, acc, bcc, r, h => by cases r; rw [List.zip_nil_right, List.zip_nil_right]; exact h
  | s :: ss, d :: ds, vs, acc, bcc, r, h => by
    obtain ⟨y, u, rfl, a, b⟩ := r
    rw [List.map_cons, List.zip_cons_cons, List.zip_cons_cons]
    exact disp_put (ss := ss) b (relKs_put a h)
theorem disp_run {K : PySem.W.Frag} {W0 : Wd} {H0 : Hp} {p : Addr} {σ : L2.St} {Cn : List (V × V) → Hp → Prop} : ∀ {ss : List Str} {fs : List (Env → Sto → Res D)} {W : Wd} {st : Sto} {H : Hp} {env : Env}, ss.length = fs.length → DcW K W0 H0 p W st H [] [] → EnvR K W H env σ →
    (argsM fs env st).Holds (fun ds s => ∀ W' H' vs, Ext W H W' H' → DcW K W0 H0 p W' s H' [] [] → RelDs K W' H' ds vs → Cn ((ss.map V.str).zip vs) H') (fun C gs s => ∀ W' H' o, Ext W H W' H' → DcW K W0 H0 p W' s H' [] [] → ExD K W' H' gs o → Wx (.ref C) o σ H') → tPairs (trsM K Wx ss fs) σ H Cn
  | [], [], W, st, H, env, _, w, Ev, h => h W H [] .refl w rfl
  | [], _ :: _, _, _, _, _, l, _, _, _ => by cases l
  | _ :: _, [], _, _, _, _, l, _, _, _ => by cases l
  | s :: ss, f :: fs, W, st, H, env, l, w, Ev, h => by
    refine ⟨W, env, st, w.R, Ev, fun W1 H1 x E1 R1 r1 => ?_⟩
    have w1 := w.step E1 R1
    have ex : x = .str s := r1
    subst ex
    refine ⟨W1, env, st, R1, Ev.mono E1 w.R, split (h : ((f env st).bind fun d st1 => (argsM fs env st1).bind fun ds st2 => .ok (d :: ds) st2).Holds _ _) (fun d s2 h2 W2 H2 y E2 R2 r2 => ?_) fun C gs s2 hx W' H' o E' R' xx => hx W' H' o (E1.trans E') (w1.step E' R') xx⟩
    have w2 := w1.step E2 R2
    refine disp_run (ss := ss) (Nat.succ.inj l) w2 ((Ev.mono E1 w.R).mono E2 R1) (split h2 (fun ds s3 h3 W' H' vs E' w' r' => ?_) fun C gs s2 hx W' H' o E' w' xx => hx W' H' o (E1.trans (E2.trans E')) w' xx)
    exact h3 W' H' (y :: vs) (E1.trans (E2.trans E')) w' ⟨y, vs, rfl, E'.relD R2 r2, r'⟩
theorem zip_kv : ∀ (ss : List Str) (vs : List V), (((ss.map Sum.inr : List L2.Key)).zip vs).map (fun kv => (kV kv.1, kv.2)) = (ss.map V.str).zip vs
  | [], vs => by simp
  | s :: ss, [] => by simp
  | s :: ss, v :: vs => by
    have h := zip_kv ss vs
    simp only [List.map_cons, List.zip_cons_cons]
    rw [h]; rfl
theorem re_disp {ss : List Str} {fs : List (Env → Sto → Res D)} (h : RPs X Wx pos keys values ss fs) (hl : ss.length = fs.length) (hall : keys.all (·.isSome) = true := by rfl) (hlen : keys.length = values.length := by rfl) (h0 : keys ≠ [] := by simp) (h15 : keys.length ≤ 15 := by decide) : RE X Wx (.Dict keys values pos) (dispM ss fs) := by
  refine PE.conv (pe_disp h hall hlen h0 h15) fun σ H Q ⟨W, env, st, R, Ev, h⟩ p hp => ?_
  have w := DcW.new R hp
  refine disp_run (W0 := W) (H0 := H) (ss := ss) hl w (Ev.mono w.E R) (split h (fun ds s h1 W' H' vs E' w' r' => ?_) fun C gs s hx W' H' o E' w' xx => hx W' H' o (w.E.trans E') w'.R xx)
  split at h1
  · rename_i c
    have lv : vs.length = ss.length := by rw [relDs_len r']; exact c.1
    refine ⟨w'.at_, ((ss.map Sum.inr : List L2.Key)).zip vs, (zip_kv ss vs).symm, by rw [List.length_zip, List.length_map, lv, Nat.min_self]; exact c.2, ?_⟩
    have w2 := w'.put hp (disp_put (ss := ss) (acc := []) (bcc := []) r' rfl)
    obtain ⟨a1, a2, a3⟩ := w2.added hp
    exact h1 _ _ _ a1 a2 ⟨p, a3, rfl⟩
  · exact h1.elim
end
end Mi
/-! Mv9 -/
namespace Mi
open L2 PySem PySem.Spec PyProof.Rows
/-! ### keyword-only parameters that are all given; tables of classes -/
theorem Fun_kb {K : PySem.W.Frag} {x qual : Str} {st : Stmt} {f : Addr} {fd : FuncData} {ps ks : List Str} {n : Nat} (F : Fun K x qual st f fd)
    (h : ∀ (kV doc pm : Value) (an : Option Addr) (cdv ct : Value) (us ws : List Value), us.length = n → ws.length = ks.length → bindArgs (PySem.W.fnOf x qual (defArgs st) (defBody st) (defScope st) .none kV doc pm an cdv ct) ⟨us, ks.zip ws⟩ = pure (ps.zip (us ++ ws))) :
    KBn K fd ps n ks (fun us ws => us ++ ws) (fun vs zs => vs ++ zs) := by
  obtain  ⟨oc, od, kV, doc, pm, an, cdv, ct, osl, rfl, lk, hcd⟩ := F.ex
  exact ⟨fun s us ws X l1 l2 => .of_eq (h kV doc pm an cdv ct us ws l1 l2), fun r1 r2 => r1.append r2⟩
def app2 (as bs : List D) : List D := as ++ bs
theorem perm_app {K : PySem.W.Frag} {ks : List Str} {m np : Nat} (h : m + 1 + ks.length = np) {W : Wd} {H : Hp} {as bs : List D} {us ws : List V} (r1 : RelDs K W H as us) (r2 : RelDs K W H bs ws) (l1 : as.length = m + 1) (l2 : bs.length = ks.length) :
    RelDs K W H (app2 as bs) (us ++ ws) ∧ (app2 as bs).length = np := ⟨relDs_append r1 r2, by unfold app2; rw [List.length_append, l1, l2, h]⟩
instance decTyN : DecidableEq TyN := fun a b => match a, b with
  | .b s, .b t => if h : s = t then .isTrue (by rw [h]) else .isFalse fun e => by cases e; exact h rfl
  | .c s, .c t => if h : s = t then .isTrue (by rw [h]) else .isFalse fun e => by cases e; exact h rfl
  | .b _, .c _ => .isFalse fun e => by cases e
  | .c _, .b _ => .isFalse fun e => by cases e
def lkT (t : TyN) : List (TyN × Bool) → Option Bool
  | [] => none
  | (a, b) :: r => if t = a then some b else lkT t r
def AllT (P : TyN → Bool → Prop) : List (TyN × Bool) → Prop
  | [] => True
  | (a, b) :: r => P a b ∧ AllT P r
theorem lkT_all {P : TyN → Bool → Prop} {t : TyN} {b : Bool} : ∀ {l : List (TyN × Bool)}, AllT P l → lkT t l = some b → P t b
  | [], _, h => by cases h
  | (a, c) :: r, hl, h => by
    have h : (if t = a then some c else lkT t r) = some b := h
    by_cases e : t = a
    · rw [if_pos e] at h
      cases h
      rw [e]
      exact hl.1
    · rw [if_neg e] at h
      exact lkT_all hl.2 h
/-- isinstance(x, B), B an own class: by the kinds of things that are known -/
def ktB (B : Addr) (l : List (TyN × Bool)) (t u : TyN) : Option Bool := match u with
  | .c B' => if B' = B then lkT t l else none
  | .b _ => none
theorem ktB_ok {K : PySem.W.Frag} {B : Addr} {l : List (TyN × Bool)} (h : AllT (fun t b => PySem.W.kitOne K t.val (.ref B) = some b) l) : ∀ t u b, ktB B l t u = some b → PySem.W.kitOne K t.val u.val = some b := fun t u b e => by
  unfold ktB at e
  split at e
  · rename_i B'
    by_cases c : B' = B
    · rw [if_pos c] at e; rw [c]; exact lkT_all (P := fun t b => PySem.W.kitOne K t.val (.ref B) = some b) h e
    · rw [if_neg c] at e; cases e
  · cases e
theorem ktB_ins {K : PySem.W.Frag} {B : Addr} {l : List (TyN × Bool)} (h : AllT (fun t _ => ∀ C, t = .c C → InsT K C) l) : ∀ C u b, ktB B l (.c C) u = some b → InsT K C := fun C u b e => by
  unfold ktB at e
  split at e
  · rename_i B'
    by_cases c : B' = B
    · rw [if_pos c] at e; exact lkT_all (P := fun t _ => ∀ C, t = .c C → InsT K C) h e C rfl
    · rw [if_neg c] at e; cases e
  · cases e
theorem ins_b {K : PySem.W.Frag} {s : String} : ∀ C, TyN.b s = .c C → InsT K C := fun C e => nomatch e
theorem ins_c {K : PySem.W.Frag} {D : Addr} (h : InsT K D) : ∀ C, TyN.c D = .c C → InsT K C := fun C e => by cases e; exact h
/-- one of these classes -/
def csL (l : List Addr) (C : Addr) : Bool := match l with
  | [] => false
  | a :: r => decide (C = a) || csL r C
theorem csL_all {P : Addr → Prop} : ∀ {l : List Addr}, (∀ a ∈ l, P a) → ∀ C, csL l C = true → P C
  | [], _, C, h => by cases h
  | a :: r, hl, C, h => by
    have h : (decide (C = a) || csL r C) = true := h
    rcases Bool.or_eq_true _ _ |>.mp h with h | h
    · rw [of_decide_eq_true h]; exact hl a List.mem_cons_self
    · exact csL_all (fun b hb => hl b (List.mem_cons_of_mem _ hb)) C h
theorem all1 {P : Addr → Prop} {a : Addr} (h : P a) : ∀ x ∈ [a], P x := fun x hx => by rw [List.mem_singleton.mp hx]; exact h
theorem all2 {P : Addr → Prop} {a : Addr} {r : List Addr} (h : P a) (hr : ∀ x ∈ r, P x) : ∀ x ∈ a :: r, P x := fun x hx => (List.mem_cons.mp hx).elim (fun e => by rw [e]; exact h) (hr x)
/-- bool(x) -/
def boolB (ds : List D) (_ : Sto) : Option D := match ds with
  | [.t (.int i)] => some (bD (i != 0))
  | [.t (.bl b)] => some (bD b)
  | _ => none
theorem c_bool {X : Cx} : CallR X (.type "bool") (rC X.K boolB) := call_of call_bool1 fun W st ds xs H Q z R r h q => by
  unfold boolB at h
  split at h
  · cases h; obtain ⟨v, rfl, r1⟩ := rel1 r; cases r1; exact .inl ⟨_, rfl, q W H _ .refl R rfl⟩
  · cases h; obtain ⟨v, rfl, r1⟩ := rel1 r; cases r1; exact .inr ⟨_, rfl, q W H _ .refl R rfl⟩
  · cases h
section
variable {X : Cx} {Wx : WX} {a b c i o : Expr} {fo fi : Env → Sto → Res D} {pos px py pz pt : Pos}
/-- in and not in of a dict as a test -/
theorem rt_din (hu : X.A.units + 1 < cLine) (hi : RE X Wx i fi) (ho : RE X Wx o fo) (hm : behindInMarks .In o = false := by rfl) : RT X Wx (.Compare i [.In] [o] pos) (fun env st => blOf (dinM false fi fo env st)) := by
  refine PT.conv (pt_cmp (pc_din hu hi ho) hm) fun σ H Q ⟨W, env, st, R, Ev, h⟩ => ⟨W, env, st, R, Ev, split (split h (A' := fun dd s => (match dd with | .t (.bl k) => OkB X.K W H Q k s | _ => False)) (fun dd s hh => ?_) fun C fs st' hx => hx) (fun y s h1 W1 H1 w E1 R1 r1 => ?_) fun C fs st' hx => hx⟩
  · split at hh
    · exact hh
    · exact hh.elim
  · refine ⟨W1, env, s, R1, Ev.mono E1 R, split h1 (fun d s2 h2 W2 H2 v E2 R2 r2 => ?_) fun C fs st' hx => hx.mono E1⟩
    cases q : dgetB s2 d y with
    | none => rw [q] at h2; exact h2.elim
    | some z =>
      rw [q] at h2
      obtain ⟨a, ov, ea, g, ro⟩ := dget_rel R2 q r2 (E2.relD R1 r1)
      refine ⟨a, ov, ea, g, _, rfl, ?_⟩
      rw [relO_some ro]
      have h2 : OkB X.K W H Q (xor false z.isSome) s2 := h2
      rw [Bool.false_xor] at h2
      exact h2 W2 H2 (E1.trans E2) R2
theorem rt_dnotin (hu : X.A.units + 1 < cLine) (hi : RE X Wx i fi) (ho : RE X Wx o fo) (hm : behindInMarks .NotIn o = false := by rfl) : RT X Wx (.Compare i [.NotIn] [o] pos) (fun env st => blOf (dinM true fi fo env st)) := by
  refine PT.conv (pt_cmp (pc_dnotin hu hi ho) hm) fun σ H Q ⟨W, env, st, R, Ev, h⟩ => ⟨W, env, st, R, Ev, split (split h (A' := fun dd s => (match dd with | .t (.bl k) => OkB X.K W H Q k s | _ => False)) (fun dd s hh => ?_) fun C fs st' hx => hx) (fun y s h1 W1 H1 w E1 R1 r1 => ?_) fun C fs st' hx => hx⟩
  · split at hh
    · exact hh
    · exact hh.elim
  · refine ⟨W1, env, s, R1, Ev.mono E1 R, split h1 (fun d s2 h2 W2 H2 v E2 R2 r2 => ?_) fun C fs st' hx => hx.mono E1⟩
    cases q : dgetB s2 d y with
    | none => rw [q] at h2; exact h2.elim
    | some z =>
      rw [q] at h2
      obtain ⟨a, ov, ea, g, ro⟩ := dget_rel R2 q r2 (E2.relD R1 r1)
      refine ⟨a, ov, ea, g, _, rfl, ?_⟩
      rw [relO_some ro]
      have h2 : OkB X.K W H Q (xor true z.isSome) s2 := h2
      rw [Bool.true_xor] at h2
      exact h2 W2 H2 (E1.trans E2) R2
/-- a, b, c = x, y, z, plain names -/
def parM3 (i j l : Nat) (fs : List (Env → Sto → Res D)) (env : Env) (st : Sto) : Out := (argsM fs env st).out env fun ds s => match ds with
  | [d, d2, d3] => .nx (((env.set i (some d)).set j (some d2)).set l (some d3)) s
  | _ => .bad
theorem rs_par3 {i j l : Nat} {x y z : Str} {kt k2 pt2} {fs : List (Env → Sto → Res D)} (hc : X.calm = true) (hN : X.N.Nodup) (hi : X.N[i]? = some x) (hj : X.N[j]? = some y) (hl : X.N[l]? = some z) (hij : i ≠ j) (hil : i ≠ l) (hjl : j ≠ l)
    (hx : X.env.scope.names.lookup x = some .local) (hy : X.env.scope.names.lookup y = some .local) (hz : X.env.scope.names.lookup z = some .local) (ha : RA X Wx [a, b, c] (argsM fs))
    (hw : swappedStores [.Tuple [.Name x px, .Name y py, .Name z pz] kt pt] (.Tuple [a, b, c] k2 pt2) X.env = pure (some [x, y, z]) := by rfl)
    (hs : swapsWithSole [.Tuple [.Name x px, .Name y py, .Name z pz] kt pt] (.Tuple [a, b, c] k2 pt2) pos.line X.env = pure false := by rfl) : RS X Wx (.Assign [.Tuple [.Name x px, .Name y py, .Name z pz] kt pt] (.Tuple [a, b, c] k2 pt2) pos) (parM3 i j l fs) := by
  refine PS.conv (ps_par3 hc hN hi hj hl hij hil hjl hx hy hz ha hw hs) fun E σ H ⟨W, env, st, R, Ev, h⟩ => ⟨W, env, st, R, Ev, out_split h Ev R fun ds s h1 W1 H1 vs E1 R1 r1 => ?_⟩
  split at h1
  · rename_i d d2 d3
    obtain ⟨v, r, rfl, q1, w, r', rfl, q2, u, r2, rfl, q3, q4⟩ := r1
    cases q4
    exact ⟨v, w, u, rfl, h1 W1 _ H1 E1 R1 ((((Ev.mono E1 R).set i q1).set j q2).set l q3)⟩
  · exact h1.elim
end
end Mi
/-! Dc2 -/
/-! {k: v for t0 in i0 for t1 in i1}, no tests -/
namespace Md
open L2 PySem PySem.Spec PyProof.Rows
abbrev two (kx vx t0 i0 t1 i1 : Expr) (sc : Scope) (po : Pos) : Expr := .DictComp kx vx [⟨t0, i0, [], 0⟩, ⟨t1, i1, [], 0⟩] sc po
section
variable {P : Program} {w : World} {A : Around} {R : Result → Shared → Prop} {s : Shared} {kx vx t0 i0 t1 i1 : Expr} {sc : Scope} {po : Pos} {g : Value} {L : Addr} {en : PySem.Env}
theorem turnO : compTurn (two kx vx t0 i0 t1 i1 sc po) 0 g (.ref L) en = (do
      standAt i0.pos
      match ← pyNext g with
      | none => pure (.done .next)
      | some y =>
        letOwnedTupleGo t0 g y
        assign t0 en y
        let z ← eval i1 en
        standAt i1.pos
        let z ← foldedSetIterable i1 en z
        let _ ← runOwn (.compStart (two kx vx t0 i0 t1 i1 sc po) 1 (← holding [z] (pyIter z)) (.ref L) en) en
        again (.compLoop (two kx vx t0 i0 t1 i1 sc po) 0 g (.ref L) en)) := by rfl
theorem turnI : compTurn (two kx vx t0 i0 t1 i1 sc po) 1 g (.ref L) en = (do
      standAt i1.pos
      match ← pyNext g with
      | none => pure (.done .next)
      | some y =>
        letOwnedTupleGo t1 g y
        assign t1 en y
        (do let k ← eval kx en
            let v ← holding [k] (eval vx en)
            standAt  { kx.pos with endLine := vx.pos.endLine, endCol := vx.pos.endCol }
            holding [k, v] (dictSet L k v))
        again (.compLoop (two kx vx t0 i0 t1 i1 sc po) 1 g (.ref L) en)) := by rfl

/-- the outer loop -/
theorem loopO (hf : ∀ x, foldedSetIterable i1 en x = pure x) (I : Nat → Shared → Prop)
    (turn : ∀ n s, I n s → wpAny (model P w) A (pyNext g) (fun r s1 => match r with
      | none => R (.ok .next) s1
      | some y => wpAny (model P w) A (letOwnedTupleGo t0 g y) (fun _ s2 => wpAny (model P w) A (assign t0 en y) (fun _ s3 => wpAny (model P w) A (eval i1 en) (fun z s4 => wpAny (model P w) A (pyIter z) (fun g1 s5 =>
          codeAny (model P w) A (.compStart (two kx vx t0 i0 t1 i1 sc po) 1 g1 (.ref L) en) (fun r s6 => match r with
            | .ok _ => ∃ m, m < n ∧ I m s6
            | .error _ => False) s5) (notedBy (model P w) A en fun e s' => R (.error e) s') s4) (notedBy (model P w) A en fun e s' => R (.error e) s') s3) (notedBy (model P w) A en fun e s' => R (.error e) s') s2) (notedBy (model P w) A en fun e s' => R (.error e) s') s1) (notedBy (model P w) A en fun e s' => R (.error e) s') s)
    (n : Nat) (h : I n s) : codeAny (model P w) A (.compLoop (two kx vx t0 i0 t1 i1 sc po) 0 g (.ref L) en) R s := by
  refine codeAny_loop rfl I ?_ n h
  intro n s hI
  show wpAny (model P w) A ((compTurn (two kx vx t0 i0 t1 i1 sc po) 0 g (.ref L) en).onRaise fun x => do noteFrame x en; theTreesLotGoes x) _ _ s
  apply wpAny_noted
  rw [turnO]
  apply wpAny_bind; apply wpAny_standAt; apply wpAny_bind
  refine wpAny_mono (turn n s hI) (fun r s1 q1 => ?_) fun _ _ z => z
  match r, q1 with
  | none, q1 => exact wpAny_pure q1
  | some y, q1 =>
    apply wpAny_bind
    refine wpAny_mono q1 (fun _ s2 q2 => ?_) fun _ _ z => z
    apply wpAny_bind
    refine wpAny_mono q2 (fun _ s3 q3 => ?_) fun _ _ z => z
    apply wpAny_bind
    refine wpAny_mono q3 (fun x s4 q4 => ?_) fun _ _ z => z
    apply wpAny_bind; apply wpAny_standAt; apply wpAny_bind
    refine wpAny_of_eq (hf x) (wpAny_bind (wpAny_holding (wpAny_mono q4 (fun g1 s5 q5 => ?_) fun _ _ z => z)))
    refine  wpAny_bind (wpAny_runOwn ?_)
    rw [Around.mark_none]
    refine codeAny_mono q5 fun r s6 q6 => ?_
    match r, q6 with
    | .ok f, q6 => first | exact wpAny_pure ⟨rfl, q6⟩ | exact wpAny_bind (wpAny_pure (wpAny_pure ⟨rfl, q6⟩))
    | .error e, q6 => exact q6.elim
/-- the inner loop -/
theorem loopI (I : Nat → Shared → Prop)
    (turn : ∀ n s, I n s → wpAny (model P w) A (pyNext g) (fun r s1 => match r with
      | none => R (.ok .next) s1
      | some y => wpAny (model P w) A (letOwnedTupleGo t1 g y) (fun _ s2 => wpAny (model P w) A (assign t1 en y) (fun _ s3 => wpAny (model P w) A (eval kx en) (fun k s4 => wpAny (model P w) A (eval vx en) (fun v s5 =>
          wpAny (model P w) A (dictSet L k v) (fun _ s6 => ∃ m, m < n ∧ I m s6) (notedBy (model P w) A en fun e s' => R (.error e) s') s5) (notedBy (model P w) A en fun e s' => R (.error e) s') s4) (notedBy (model P w) A en fun e s' => R (.error e) s') s3) (notedBy (model P w) A en fun e s' => R (.error e) s') s2) (notedBy (model P w) A en fun e s' => R (.error e) s') s1) (notedBy (model P w) A en fun e s' => R (.error e) s') s)
    (n : Nat) (h : I n s) : codeAny (model P w) A (.compLoop (two kx vx t0 i0 t1 i1 sc po) 1 g (.ref L) en) R s := by
  refine codeAny_loop rfl I ?_ n h
  intro n s hI
  show wpAny (model P w) A ((compTurn (two kx vx t0 i0 t1 i1 sc po) 1 g (.ref L) en).onRaise fun x => do noteFrame x en; theTreesLotGoes x) _ _ s
  apply wpAny_noted
  rw [turnI]
  apply wpAny_bind; apply wpAny_standAt; apply wpAny_bind
  refine wpAny_mono (turn n s hI) (fun r s1 q1 => ?_) fun _ _ z => z
  match r, q1 with
  | none, q1 => exact wpAny_pure q1
  | some y, q1 =>
    apply wpAny_bind
    refine wpAny_mono q1 (fun _ s2 q2 => ?_) fun _ _ z => z
    apply wpAny_bind
    refine wpAny_mono q2 (fun _ s3 q3 => ?_) fun _ _ z => z
    apply wpAny_bind; apply wpAny_bind
    refine wpAny_mono q3 (fun k s4 q4 => ?_) fun _ _ z => z
    apply wpAny_bind; apply wpAny_holding
    refine wpAny_mono q4 (fun v s5 q5 => ?_) fun _ _ z => z
    apply wpAny_bind; apply wpAny_standAt; apply wpAny_holding
    exact wpAny_mono q5 (fun _ s6 q6 => wpAny_pure ⟨rfl, q6⟩) fun _ _ z => z
/-- the inner clause's start -/
theorem startI (h0 : codeAny (model P w) A (.compLoop (two kx vx t0 i0 t1 i1 sc po) 1 g (.ref L) en) R s)
    (h : wpAny (model P w) A (pyIter g) (fun g1 s1 => codeAny (model P w) A (.compLoop (two kx vx t0 i0 t1 i1 sc po) 1 g1 (.ref L) en) R s1) (notedBy (model P w) A en fun e s' => R (.error e) s') s) :
    codeAny (model P w) A (.compStart (two kx vx t0 i0 t1 i1 sc po) 1 g (.ref L) en) R s := by
  apply codeAny_of_tree
  show wpAny _ _ ((compStart (two kx vx t0 i0 t1 i1 sc po) 1 g (.ref L) en).onRaise fun x => do noteFrame x en; standAt theWindowsPlace) _ _ s
  apply wpAny_notedAt
  unfold compStart
  show  wpAny _ _ (ask >>= _) _ _ s
  apply wpAny_bind
  refine wpAny_askSetting (wpAny_ite ?_)
  split
  · first
      | exact wpAny_pure ⟨rfl, h0⟩
      | exact wpAny_bind (wpAny_pure (wpAny_pure ⟨rfl, h0⟩))
  · apply wpAny_bind; apply wpAny_rule
    first
      | exact wpAny_bind (wpAny_standAt (wpAny_bind (wpAny_mono h (fun g1 s1 q => wpAny_pure ⟨rfl, q⟩) fun _ _ z => z)))
      | (show wpAny _ _ (standAt i1.pos >>= _) _ _ s
         exact wpAny_bind (wpAny_standAt (wpAny_bind (wpAny_mono h (fun g1 s1 q => wpAny_pure ⟨rfl, q⟩) fun _ _ z => z))))
end

section
variable {Y : Cx}
theorem go {α : Type} {t : Sem α} {Q Q' : α → Shared → Prop} {E : Value → Shared → Prop} {s : Shared} (hx : ∀ v s, ¬ Y.xe v s) (h : wpAny (model Y.prog Y.w) Y.A t Q Y.xe s) (k : ∀ a s, Q a s → Q' a s) : wpAny (model Y.prog Y.w) Y.A t Q' E s :=
  wpAny_mono h k fun v s z => absurd z (hx v s)
/-- an iterator's objects, pinned while a turn is under way, and free again -/
theorem freed {tg : Expr} {J : It} {fp : List Addr} {it : Addr} {tn : Nat → Heap → Prop} {i : Nat} {pins : List (Addr × Obj)} {σ σ0 : L2.St} {H : Hp} {a s : Shared} (T : Turn Y.prog Y.w Y.K tg J fp it tn) (ha : tn i a.heap) (I : Inv Y (pins ++ pinsAt fp a.heap) σ H s)
    (hl : σ0.length = σ.length) (hk : ∀ (j : Nat) v, σ0[j]? = some (some v) → σ[j]? = some (some v)) : Inv Y pins σ0 H s ∧ tn i s.heap ∧ ∀ b ∈ fp, H b = none := by
  have pin : ∀ b ∈ fp, ∀ o, a.heap.get? b = some o → s.heap.get? b = some o ∧ H b = none := fun b hb o e => by
    have z := I.pin (b, o) (List.mem_append.mpr (.inr (List.mem_append.mpr (.inr (mem_pinsAt hb e)))))
    exact ⟨z.1, z.2.1⟩
  refine ⟨I.unpinned.weak hl hk, T.keep i _ _ ha fun b hb o e => (pin b hb o e).1, fun b hb => ?_⟩
  obtain ⟨o, e, _⟩ := T.obj i _ ha b hb
  exact (pin b hb o e).2
/-- what the inner loop asks -/
def tIn (J : It) (L : Addr) (g : TG) (tk tv : TE) (us : List Nat) (σ : L2.St) (H : Hp) (Nx : Hp → Prop) : Prop :=
  ∃ W : Nat → Nat → Hp → Prop, (∃ m, W 0 m H) ∧ ∀ j k H, W j k H → (J.stop j H ∧ Nx H) ∨ (J.go j H ∧ ∃ Ny : Hp → Prop, (∀ H', Ny H' → ∃ k', k' < k ∧ W (j + 1) k' H') ∧
    ∀ x H', J.yld j H x H' → g x (wipe σ us) H' fun σ2 H2 => wipe σ2 us = wipe σ us ∧ tk σ2 H2 fun y H3 => tv σ2 H3 fun z H4 => ∃ kvs k, y = kV k ∧ H4 L = some (.dK kvs) ∧ kvs.length < sizeLine ∧ Ny (upd H4 L (.dK (putK kvs k z))))
variable {kx vx t0 i0 t1 i1 : Expr} {sc : Scope} {po : Pos}
theorem inner {J : It} {L it : Addr} {fp : List Addr} {tn : Nat → Heap → Prop} {g : TG} {tk tv : TE} {us : List Nat} {pins : List (Addr × Obj)} {σ : L2.St} {H : Hp} {s : Shared} {Nx : Hp → Prop} {G : Shared → Prop} (hc : Y.calm = true) (hx : ∀ v s, ¬ Y.xe v s)
    (pg : PG Y t1 g) (pk : PE Y kx tk) (pv : PE Y vx tv) (T : Turn Y.prog Y.w Y.K t1 J fp it tn) (I : Inv Y pins σ H s) (st : tn 0 s.heap) (f : ∀ b ∈ fp, FpOk Y pins H b) (h : tIn J L g tk tv us σ H Nx)
    (hG : ∀ s' H', Inv Y pins (wipe σ us) H' s' → Nx H' → G s') :
    codeAny (model Y.prog Y.w) Y.A (.compLoop (two kx vx t0 i0 t1 i1 sc po) 1 (.ref it) (.ref L) Y.env) (fun r s' => match r with
      | .ok _ => G s'
      | .error _ => False) s := by
  obtain ⟨W, ⟨m, w0⟩, hW⟩ := h
  have own : ∀ {H'}, (∀ b ∈ fp, H' b = none) → ∀ b ∈ fp, FpOk Y pins H' b := fun z b hb => ⟨z b hb, (f b hb).2⟩
  refine loopI (fun k s' => ∃ j H', Inv Y pins (wipe σ us) H' s' ∧ tn j s'.heap ∧ (∀ b ∈ fp, H' b = none) ∧ W j k H') ?_ m ⟨0, H, I.weak (wipe_length _ _) fun _ _ e => (wipe_some e).1, st, fun b hb => (f b hb).1, w0⟩
  rintro k s1 ⟨j, H1, I1, st1, n1, w1⟩
  rcases hW j k H1 w1 with ⟨e, nx⟩ | ⟨gg, Ny, hN, step⟩
  · refine thnF (T.done Y rfl rfl rfl hc j pins s1 _ H1 (fun _ _ => False) I1 (own n1) st1 e) fun r s2 ⟨er, I2⟩ => ?_
    rw [er]
    exact hG s2 H1 I2 nx
  · refine thnF (T.item Y rfl rfl rfl hc j pins s1 _ H1 (fun _ _ => False) I1 (own n1) st1 gg) fun r s2 ⟨u, er, q2⟩ => ?_
    rw [er]
    refine thnF q2 fun _ s3 ⟨x, H3, I3, rx, yx, st3, n3⟩ => ?_
    refine go hx (pg.run _ s3 _ H3 x u _ (I3.pinned (own n3) (T.obj _ _ st3)) rx (step x H3 yx)) fun _ s4 ⟨σ4, H4, I4, hw, q4⟩ => ?_
    refine go hx (pk.run _ s4 σ4 H4 _ I4 q4) fun k1 s5 ⟨y, H5, I5, r5, q5⟩ => ?_
    refine go hx (pv.run _ s5 σ4 H5 _ I5 q5) fun v1 s6 ⟨z, H6, I6, r6, kvs, key, e, hL, hz, ny⟩ => ?_
    subst e
    refine d_dictSet (X := Y) I6 hL hz r5 r6 fun s7 I7 => ?_
    obtain ⟨k', lt, w'⟩ := hN _ ny
    obtain ⟨a1, a2, a3⟩ := freed (σ0 := wipe σ us) T st3 I7 (by rw [← hw, wipe_length]) fun i v e => by rw [← hw] at e; exact (wipe_some e).1
    exact ⟨k', lt, j + 1, _, a1, a2, a3, w'⟩
theorem outer {J : It} {L it : Addr} {fp : List Addr} {tn : Nat → Heap → Prop} {g g1 : TG} {wi : TI} {tk tv : TE} {us us1 : List Nat} {σ0 : L2.St} {H : Hp} {s : Shared} {Qx : Hp → Prop} {R : Result → Shared → Prop} {W : Nat → Nat → Hp → Prop} {m0 : Nat} (hc : Y.calm = true) (hx : ∀ v s, ¬ Y.xe v s) (hsub : ∀ i ∈ us1, i ∈ us)
    (hf : ∀ x, foldedSetIterable i1 Y.env x = pure x) (pg : PG Y t0 g) (pi : PI Y t1 i1 wi) (pg1 : PG Y t1 g1) (pk : PE Y kx tk) (pv : PE Y vx tv) (T : Turn Y.prog Y.w Y.K t0 J fp it tn) (I : Inv Y [] σ0 H s) (st : tn 0 s.heap) (nf : ∀ b ∈ fp, H b = none)
    (own : ∀ {σ' : L2.St} {H' : Hp} {s' : Shared}, Inv Y [] σ' H' s' → (∀ b ∈ fp, H' b = none) → ∀ b ∈ fp, FpOk Y [] H' b) (w0 : W 0 m0 H)
    (hW : ∀ i m H, W i m H → (J.stop i H ∧ Qx H) ∨ (J.go i H ∧ ∃ Nx : Hp → Prop, (∀ H', Nx H' → ∃ m', m' < m ∧ W (i + 1) m' H') ∧
      ∀ x H', J.yld i H x H' → g x σ0 H' fun σ2 H2 => wipe σ2 us = σ0 ∧ wi σ2 H2 fun J1 H3 => tIn J1 L g1 tk tv us1 σ2 H3 Nx))
    (hR : ∀ s' H', Inv Y [] σ0 H' s' → Qx H' → R (.ok .next) s') :
    codeAny (model Y.prog Y.w) Y.A (.compLoop (two kx vx t0 i0 t1 i1 sc po) 0 (.ref it) (.ref L) Y.env) R s := by
  refine loopO hf (fun n s' => ∃ i H', Inv Y [] σ0 H' s' ∧ tn i s'.heap ∧ (∀ b ∈ fp, H' b = none) ∧ W i n H') ?_ m0 ⟨0, H, I, st, nf, w0⟩
  rintro n s1 ⟨i, H1, I1, st1, n1, w1⟩
  rcases hW i n H1 w1 with ⟨e, qx⟩ | ⟨gg, Nx, hN, step⟩
  · refine thnF (T.done Y rfl rfl rfl hc i [] s1 _ H1 (fun _ _ => False) I1 (own I1 n1) st1 e) fun r s2 ⟨er, I2⟩ => ?_
    rw [er]
    exact hR s2 H1 I2 qx
  · refine thnF (T.item Y rfl rfl rfl hc i [] s1 _ H1 (fun _ _ => False) I1 (own I1 n1) st1 gg) fun r s2 ⟨u, er, q2⟩ => ?_
    rw [er]
    refine thnF q2 fun _ s3 ⟨x, H3, I3, rx, yx, st3, n3⟩ => ?_
    refine go hx (pg.run _ s3 _ H3 x u _ (I3.pinned (own I3 n3) (T.obj _ _ st3)) rx (step x H3 yx)) fun _ s4 ⟨σ4, H4, I4, hw, q4⟩ => ?_
    refine go hx (pi.run _ s4 σ4 H4 _ I4 q4) fun z s5 q5 => go hx q5 fun itv s6 ⟨it1, fp1, tn1, J1, H6, e1, I6, T1, st6, f6, q6⟩ => ?_
    rw [e1]
    have lp := inner (G := fun s' => ∃ m, m < n ∧ ∃ i H', Inv Y [] σ0 H' s' ∧ tn i s'.heap ∧ (∀ b ∈ fp, H' b = none) ∧ W i m H') (t0 := t0) (i0 := i0) (i1 := i1) (sc := sc) (po := po) hc hx pg1 pk pv T1 I6 st6 f6 q6 fun s7 H7 I7 nx => by
      obtain ⟨m', lt, w'⟩ := hN H7 nx
      obtain ⟨a1, a2, a3⟩ := freed (σ0 := σ0) T st3 I7 (by rw [← hw, wipe_length, wipe_length]) fun j v e => by
        rw [← hw] at e
        obtain  ⟨e1, e2⟩ := wipe_some e
        rw [wipe_out fun z => e2 (hsub j z)]
        exact e1
      exact ⟨m', lt, i + 1, H7, a1, a2, a3, w'⟩
    exact startI lp (T1.self Y.A 0 _ _ _ st6 lp)
end

section
variable {X : Cx} {kx vx t0 i0 t1 i1 : Expr} {sc : Scope} {po : Pos}
def tTwo (wi : TI) (g : TG) (wi1 : TI) (g1 : TG) (tk tv : TE) (us us1 : List Nat) : TE := fun σ H Q => wi σ H fun J H1 => ∀ L, H1 L = none →
  ∃ W : Nat → Nat → Hp → Prop, (∃ m, W 0 m (upd H1 L (.dK []))) ∧ ∀ i m H, W i m H → (J.stop i H ∧ Q (.ref L) H) ∨ (J.go i H ∧ ∃ Nx : Hp → Prop, (∀ H', Nx H' → ∃ m', m' < m ∧ W (i + 1) m' H') ∧
    ∀ x H', J.yld i H x H' → g x (wipe σ us) H' fun σ2 H2 => wipe σ2 us = wipe σ us ∧ wi1 σ2 H2 fun J1 H3 => tIn J1 L g1 tk tv us1 σ2 H3 Nx)
abbrev Blk (X : Cx) (sc : Scope) (f : Cx → Prop) : Prop := ∀ (s : Shared) (H : Hp) (C : Addr) (cl : List (Str × Addr)) (fp : List Addr), f (X.blk s H sc (compEnvC sc cl C X.env) fp)
theorem pe_two {own : List (Str × Nat)} {us1 : List Nat} {wi wi1 : TI} {g g1 : TG} {tk tv : TE} (hc : X.calm = true) (hN : X.N.Nodup) (hi : PI X t0 i0 wi) (ok : BlkOk X.N X.env.scope sc own) (hv : ∀ i ∈ us1, i ∈ own.map (·.2)) (hg : Blk X sc fun Y => PG Y t0 g) (hi1 : Blk X sc fun Y => PI Y t1 i1 wi1)
    (hg1 : Blk X sc fun Y => PG Y t1 g1) (hk : Blk X sc fun Y => PE Y kx tk) (he : Blk X sc fun Y => PE Y vx tv) (hs : ∀ x, foldedSetIterable i0 X.env x = pure x) (hs1 : ∀ env x, foldedSetIterable i1 env x = pure x) : PE X (two kx vx t0 i0 t1 i1 sc po) (tTwo wi g wi1 g1 tk tv (own.map (·.2)) us1) := by
  refine  ⟨fun pins s σ H Q I h => ?_⟩
  rw [arm_eval_DictComp]
  have hfree : ∀ y ∈ sc.names, y.2 = .free → ∃ c, X.env.cells.lookup y.1 = some c := fun y hy e => (ok.free y hy e).elim (fun z => I.ok.has _ (.inl z)) fun z => I.ok.has _ (.inr z)
  refine wpAny_comprehension_free (use := none) rfl hs (closure_ok hfree) ok.kind (fun y hy e => by rw [ok.uniq y hy, e]) (thn (hi.run pins s σ H _ I h) fun xv s1 q1 => thn q1 fun itv s2 q2 => ?_)
  obtain ⟨it, fp, tn, J, H2, e, I2, T, st2, f2, q⟩ := q2
  rw [e]
  refine  wpAny_newObj_type (newEnv_comp ?_)
  have new : H2 s2.heap.objs.size = none := I2.hok.fresh (Nat.le_refl _)
  obtain ⟨W, ⟨m0, w0⟩, hW⟩ := q _ new
  -- the dict is laid
  obtain ⟨s3, hs3⟩ : ∃ s3 : Shared, s3 = { s2 with heap := s2.heap.push { cls := .type "dict", data := .dict #[] } } := ⟨_, rfl⟩
  obtain ⟨H3, hH3⟩ : ∃ H3 : Hp, H3 = upd H2 s2.heap.objs.size (.dK []) := ⟨_, rfl⟩
  have I3 : Inv X pins σ H3 s3 := by
    rw [hs3, hH3]
    exact I2.laid (t' := s2.toks) (fun b o z => Heap.get?_push_of_some _ z) (Nat.le_refl _) (dk_empty s2.heap I2.big)
  have old : ∀ b ∈ fp, b < s2.heap.objs.size := fun b hb => let ⟨_, z, _⟩ := T.obj _ _ st2 b hb; Heap.lt_size z
  have f3 : ∀ b ∈ fp, FpOk X pins H3 b ∧ b < s3.heap.objs.size := fun b hb => by
    have lt := old b hb
    refine ⟨⟨?_, (f2 b hb).2⟩, ?_⟩
    · rw [hH3, upd_ne (Nat.ne_of_lt lt)]
      exact (f2 b hb).1
    · rw [hs3]
      show b < (s2.heap.push _).objs.size
      rw [Heap.size_push]
      exact Nat.lt_succ_of_lt lt
  have st3 : tn 0 s3.heap := T.keep _ _ _ st2 fun b _ o z => by rw [hs3]; exact Heap.get?_push_of_some _ z
  -- the block
  have  I4 := block_start I3 ok hN f3
  have goal : codeAny (model X.prog X.w) X.A (.compStart (two kx vx t0 i0 t1 i1 sc po) 0 (.ref it) (.ref s2.heap.objs.size) (compEnvC sc (cellsFrom (s3.heap.objs.size + 1) sc.names (cloFrom X.env.cells sc.names [])) s3.heap.objs.size X.env)) (compPost (model X.prog X.w) X.A X.xe none (EP X pins σ Q) (.ref s2.heap.objs.size) s3.heap.objs.size) { s3 with heap := pushCells (s3.heap.push { cls := .type "dict", data := .dict #[] }) sc.names } := by
    generalize hce : compEnvC sc (cellsFrom (s3.heap.objs.size + 1) sc.names (cloFrom X.env.cells sc.names [])) s3.heap.objs.size X.env = ce at I4 ⊢
    have cL : ce.locals = s3.heap.objs.size := by rw [← hce]; rfl
    obtain ⟨s4, hs4⟩ : ∃ s4 : Shared, s4 = { s3 with heap := pushCells (s3.heap.push { cls := .type "dict", data := .dict #[] }) sc.names } := ⟨_, rfl⟩
    rw [← hs4] at I4 ⊢
    have st4 : tn 0 s4.heap := T.keep _ _ _ st3 fun b _ o z => by rw [hs4]; exact pushCells_keeps _ _ _ _ (Heap.get?_push_of_some _ z)
    have own4 : ∀ {σ' : L2.St} {H' : Hp} {s' : Shared}, Inv (X.blk s3 H3 sc ce fp) [] σ' H' s' → (∀ b ∈ fp, H' b = none) → ∀ b ∈ fp, FpOk (X.blk s3 H3 sc ce fp) [] H' b := fun {σ' H' s'} J' nn b hb =>
      ⟨nn b hb, (J'.ok.exf b hb).1, J'.ok.exfs b hb, .inl hb, fun x c z => (J'.ok.exf b hb).2 x c z, fun p hp => absurd (show p ∈ ([] : List (Addr × Obj)) ++ [] from hp) (by simp)⟩
    have lp : codeAny (model X.prog X.w) X.A (.compLoop (two kx vx t0 i0 t1 i1 sc po) 0 (.ref it) (.ref s2.heap.objs.size) ce) (compPost (model X.prog X.w) X.A X.xe none (EP X pins σ Q) (.ref s2.heap.objs.size) s3.heap.objs.size) s4 := by
      refine outer (Y := X.blk s3 H3 sc ce fp) (us := own.map (·.2)) (us1 := us1) (σ0 := wipe σ (own.map (·.2))) (H := H3) (W := W) (m0 := m0) (Qx := Q (.ref s2.heap.objs.size)) hc (fun _ _ z => z) hv (hs1 ce) ?_ ?_ ?_ ?_ ?_ T I4 st4 (fun b hb => (f3 b hb).1.1) own4 (by rw [hH3]; exact w0) hW ?_
      · rw [← hce]; exact hg _ _ _ _ _
      · rw [← hce]; exact hi1 _ _ _ _ _
      · rw [← hce]; exact hg1 _ _ _ _ _
      · rw [← hce]; exact hk _ _ _ _ _
      · rw [← hce]; exact he _ _ _ _ _
      · intro s5 H5 I5 qx
        have back : Inv X pins σ H5 s5 := I3.call' (ch := fp) I5.os I5.base I5.hok I5.bare fun b hb => ⟨(f3 b hb).1.2.2.2.1, (f3 b hb).1.2.1, (f3 b hb).1.2.2.2.2.1, (f3 b hb).1.2.2.2.2.2⟩
        have nC : H5 s3.heap.objs.size = none := by rw [← cL]; exact I5.free
        obtain ⟨m, hn, _⟩ := I5.loc
        obtain ⟨f0, f1, f2, f3, f4, f5⟩ := I3.fpOk (Nat.le_refl _) nC
        refine ⟨m, by rw [← cL]; exact hn, fun h'' sb => ⟨.ref s2.heap.objs.size, H5, back.turned (t' := s5.toks) (fun b o hb z => (sb.2 b hb).trans z) f0 f1 f3 f4 f5, rfl, qx⟩⟩
    exact codeAny_compStart_dict lp (T.self X.A 0 _ _ _ st4 lp)
  rw [hs3] at goal
  exact goal
end
end Md
/-! EnT -/
/-! enumerate(t), t a tuple -/
namespace PySem
open PySem.Sem (wp)
theorem Md.enumNew {v : Value} {o : Obj} {H : Heap → Prop} (B : Begins v o H) : Meets (Builtin.«enumerate.__new__» ⟨[.type "enumerate", v], []⟩) (fun _ R s => H s.heap ∧
    R (.ok (.ret (.ref (s.heap.push o).objs.size))) { s with heap := (s.heap.push o).push { cls := .type "enumerate", data := .fields #[.none, .bool false, .ref s.heap.objs.size, rawInt 0, .none, .none] } }) :=
  .of_wp fun prog w A R s hs => by
    obtain  ⟨hp, g, d, tk, os⟩ := s
    obtain ⟨h1, h⟩ := hs
    have hsub := sub_enumerate
    have begin1 : ∀ {A1 : Around} {E1 : Value → Shared → Prop} {Q1 : Value → Shared → Prop}, Q1 (.ref hp.objs.size) ⟨hp.push o, g, d, tk, os⟩ → wpAny (model prog w) A1 (pyIter v) Q1 E1 ⟨hp, g, d, tk, os⟩ :=
      fun z => B.iter prog w _ _ ⟨hp, g, d, tk, os⟩ _ h1 z
    wp_walk
    refine  wpAny_stack_any fun st => wpAny_pure ?_
    split
    · rename_i c _ _ _ _ _
      cases (c == Value.type "enumerate") <;> (wp_walk using begin1; exact ⟨_, rfl, h⟩)
    · wp_walk using begin1
      exact ⟨_, rfl, h⟩
theorem Md.enumCall {prog : Program} {w : World} {A : Around} {E : Value → Shared → Prop} {s : Shared} {v : Value} {o : Obj} {H : Heap → Prop} {Q : Value → Shared → Prop} (B : Begins v o H) (h1 : H s.heap)
    (h : ∀ h', IsEnum h' (s.heap.objs.size + 1) s.heap.objs.size 0 .none → h'.get? s.heap.objs.size = some o → (∀ b x, s.heap.get? b = some x → h'.get? b = some x) → Q (.ref (s.heap.objs.size + 1)) { s with heap := h' }) :
    wpAny (model prog w) A (call (.type "enumerate") [v]) Q E s := by
  refine callType_new F.called_enumerate (by decide) (F.typeCall_enumerate_1 _) (F.newCall_enumerate_1 _) (fun obj => F.args_object_init_2 obj _) F.entry_enumerate_new (Md.enumNew B) ⟨h1, ?_⟩
  have sz : (s.heap.push o).objs.size = s.heap.objs.size + 1 := Heap.size_push ..
  have he : IsEnum ((s.heap.push o).push { cls := .type "enumerate", data := .fields #[.none, .bool false, .ref s.heap.objs.size, rawInt 0, .none, .none] }) (s.heap.objs.size + 1) s.heap.objs.size 0 .none := by
    have z := Heap.get?_push_size (s.heap.push o) (o := { cls := .type "enumerate", data := .fields #[.none, .bool false, .ref s.heap.objs.size, rawInt 0, .none, .none] }) rfl
    rw [sz] at z
    exact z
  show _ ∧ _
  rw [sz]
  exact ⟨⟨_, he, rfl⟩, h _ he (Heap.get?_push_of_some _ (Heap.get?_push_size _ B.free)) fun b x q => Heap.get?_push_of_some _ (Heap.get?_push_of_some _ q)⟩
end PySem
namespace Md
open L2 PySem PySem.Spec PyProof.Rows
/-- pairs of a number and the tuple's item -/
def IteT (K : PySem.W.Frag) (a : Addr) : It where
  go i H := ∃ (xs : List V) (x : V), SqT K H a xs ∧ xs[i]? = some x
  yld i H v H' := ∃ T x, v = .ref T ∧ H T = none ∧ H' = upd H T (.tup [.int (i : Nat), x]) ∧ ∀ xs, SqT K H a xs → xs[i]? = some x
  stop i H := ∃ xs : List V, SqT K H a xs ∧ xs.length ≤ i
/-- where an enumerate and its tuple's iterator stand -/
structure EtAt (a e it i : Nat) (h : Heap) : Prop where
  en : ∃ old, IsEnum h e it ((i : Nat) : Int) old
  tp : h.IsTupleIter it a i
  n1 : e ≠ it
  n2 : a ≠ it
  n3 : a ≠ e
theorem turnEt {P : Program} {w : World} {K : PySem.W.Frag} {es : List Expr} {k : Nat} {tp : Pos} (a e it : Addr) : Turn P w K (.Tuple es k tp) (IteT K a) [e, it] e (EtAt a e it) where
  mem := List.mem_cons_self ..
  obj i h st b hb := by
    obtain ⟨old, he⟩ := st.en
    obtain ⟨o, ho, _, hd⟩ := st.tp
    rcases  List.mem_cons.mp hb with z | z
    · subst z; exact ⟨_, he, fun v q => nomatch q⟩
    · rw [List.mem_singleton.mp z]; exact ⟨o, ho, fun v q => by rw [hd] at q; cases q⟩
  keep i h h' st kp := ⟨let ⟨old, he⟩ := st.en; ⟨old, kp e (by simp) _ he⟩, st.tp.at fun o q => kp it (by simp) o q, st.n1, st.n2, st.n3⟩
  item := by
    intro X e1 e2 e3 hc i pins s σ H E I own st gg
    subst e1 e2 e3
    obtain ⟨old, he⟩ := st.en
    obtain ⟨xs, x, hq, hx⟩ := gg
    obtain  ⟨its, rv, p, hz⟩ := I.tuple hq
    obtain  ⟨u, hu, ru⟩ := rv.get hx
    have el : e < s.heap.objs.size := Heap.lt_size he
    have il : it < s.heap.objs.size := by obtain ⟨_, q, _⟩ := st.tp; exact Heap.lt_size q
    have lt : i < its.toArray.size := by
      have := (List.getElem?_eq_some_iff.mp hu).1
      simpa using this
    have hh : X.A.in1.handled = none := I.ok.hd hc
    refine wpAny_pyNext_enum_itemD (Draws.tuple hh it a st.n2 its.toArray) he ⟨st.tp, p⟩ lt st.n1 (by simp [st.n1, Ne.symm st.n3]) fun y h' tk py ho st' hT hsz kp => ?_
    have ey : y = u := by
      have q : its.toArray[i]? = some y := py
      rw [List.getElem?_toArray, hu] at q
      exact  (Option.some.inj q).symm
    subst ey
    refine ⟨_, rfl, wpAny_letOwnedTupleGo_enum (s := { s with heap := h', toks := tk + 1 }) ho fun h'' he' sb => ?_⟩
    have hT2 : h''.get? s.heap.objs.size = some { cls := .type "tuple", data := .seq #[.int i tk, y] } := (sb.2 _ (Nat.ne_of_gt el)).trans hT
    have  new : ObjOk X.prog X.w (upd H s.heap.objs.size (.tup [.int (i : Nat), x])) h'' s.heap.objs.size (.tup [.int (i : Nat), x]) :=
      ⟨by show 2 ≤ sizeLine; decide, [.int i tk, y], .cons ⟨_, rfl⟩ (.cons ru .nil), ⟨_, hT2, rfl, _, rfl⟩⟩
    have I1 : Inv X pins σ (upd H s.heap.objs.size (.tup [.int (i : Nat), x])) { s with heap := h'', toks := tk + 1 } :=
      I.turnedNew (ch := [e, it]) (fun b ob hb q => (sb.2 b fun z => hb (by simp [z])).trans (kp b ob (fun z => hb (by simp [z])) (fun z => hb (by simp [z])) q)) own (Nat.le_refl _) new
    refine ⟨.ref s.heap.objs.size, _, I1, rfl, ⟨_, x, rfl, I.hok.fresh (Nat.le_refl _), rfl, fun ys hy => by rw [I.tuple_inj hy hq]; exact hx⟩, ⟨⟨y, ?_⟩, st'.1.at fun o q => (sb.2 it (Ne.symm st.n1)).trans q, st.n1, st.n2, st.n3⟩, fun b hb => ?_⟩
    · have z : ((i + 1 : Nat) : Int) = (i : Int) + 1 := by omega
      rw [z]
      exact he'
    · have lb : b < s.heap.objs.size := by
        rcases  List.mem_cons.mp hb with z | z
        · rw [z]; exact el
        · rw [List.mem_singleton.mp z]; exact il
      rw [upd_ne (Nat.ne_of_lt lb)]
      exact (own b hb).1
  done := by
    intro X e1 e2 e3 hc i pins s σ H E I own st gg
    subst e1 e2 e3
    obtain ⟨old, he⟩ := st.en
    obtain ⟨xs, hq, hx⟩ := gg
    obtain  ⟨its, rv, p, hz⟩ := I.tuple hq
    obtain ⟨f0, f1, f2, f3, f4, f5⟩ := own it (by simp)
    have hl := rv.length
    have hh : X.A.in1.handled = none := I.ok.hd hc
    unfold pyNext
    refine wpAny_bind (wpAny_attempt (wpAny_callSpecial?_slot (name := Str.ofString "__next__") ⟨_, he, rfl⟩ F.slot_enumerate_next
      (wpAny_call_entry F.slot_enumerate_next ⟨_, he, rfl⟩ F.entry_enumerate_next ?_ (F.args_enumerate_next_1 _))))
    show  wpAny _ _ (field (.ref e) 2 >>= _) _ _ _
    refine wpAny_bind (wpAny_field he rfl (x := .ref it) rfl (wpAny_bind (RZ.nextOf_tuple_end hh st.tp (show s.heap.IsTuple a its.toArray from p) (by simp; omega) fun h' x' he' hx' => ?_)))
    obtain ⟨o, ho, hc'⟩ := hx'
    refine wpAny_bind (wpAny_isInstance (T := "StopIteration") (b := true) ⟨o, ho, hc'⟩ isSubtype_stop ?_)
    exact wpAny_pure ⟨rfl, I.turned (t' := s.toks) (fun b o hb q => he' b o hb q) f0 f1 f3 f4 f5⟩
  self A i s Q E st h := let ⟨_, he⟩ := st.en; wpAny_pyIter_enum he h
def iEnumT (K : PySem.W.Frag) (ta : TA) : TI := fun σ H R => ta σ H fun vs H1 => ∃ a xs, vs = [.ref a] ∧ SqT K H1 a xs ∧ R (IteT K a) H1
theorem pi_enumT {X : Cx} {e : Expr} {ta : TA} {p pos tp : Pos} {es : List Expr} {k : Nat} (hg : Gl X "enumerate") (hm : X.mg "enumerate" = none) (ha : PA X [e] ta) (hs : starEach [e] X.env = [(false, eval e X.env)] := by rfl) :
    PI X (.Tuple es k tp) (.Call (.Name "enumerate" p) [e] [] pos) (iEnumT X.K ta) := by
  refine ⟨fun pins s σ H R I h => Call_ (ld_blt I hg hm boot_enumerate (PyProof.Rows.callWith_type1 (thn (ha.run pos pins s σ H _ I h) fun us s1 ⟨vs, H1, I1, r1, a, xs, ex, hq, q⟩ => ?_) hs rfl))⟩
  subst ex
  cases r1 with
  | cons r rr =>
    cases rr
    cases r
    obtain ⟨its, rv, p', hz⟩ := I1.tuple hq
    have la : a < s1.heap.objs.size := by obtain ⟨_, z, _⟩ := p'; exact Heap.lt_size z
    refine PySem.Md.enumCall (begins_tuple a its.toArray) p' fun h' he ho kp => wpAny_pyIter_enum he ?_
    have I2 : Inv X pins σ H1 { s1 with heap := h' } := I1.kept (t' := s1.toks) kp
    refine ⟨s1.heap.objs.size + 1, [s1.heap.objs.size + 1, s1.heap.objs.size], _, _, H1, rfl, I2, turnEt a (s1.heap.objs.size + 1) s1.heap.objs.size, ⟨⟨.none, he⟩, ⟨_, ho, rfl, rfl⟩, Nat.succ_ne_self _, Nat.ne_of_lt la, Nat.ne_of_lt (Nat.lt_succ_of_lt la)⟩, fun b hb => ?_, q⟩
    have le : s1.heap.objs.size ≤ b := by
      rcases  List.mem_cons.mp hb with z | z
      · rw  [z]; exact Nat.le_add_right _ _
      · rw [List.mem_singleton.mp z]; exact Nat.le_refl _
    exact I1.fpOk le (I1.hok.fresh le)
end Md
/-! Mv10 -/
namespace Mi
open L2 PySem PySem.Spec PyProof.Rows
/-! ### a, b = a list that stays -/
section
variable {X : Cx} {pos : Pos}
def gL (n : Nat) (gr : List T → Env → Option Env) (d : D) (env : Env) : Option Env := match d with
  | .t (.lst ts) => if ts.length = n then gr ts env else none
  | _ => none
theorem rg_lst {us : List Nat} {es : List Expr} {k n : Nat} {gr : List T → Env → Option Env} (hc : X.calm = true) (h : RGs X us es gr)
    (hn : (assignEach es X.env).length = n := by rfl) (hst : (assignEach es X.env).findIdx? (·.1) = none := by rfl) : RG X us (.Tuple es k pos) (gL n gr) := by
  refine PG.conv (pg_unl hc h hn hst) fun v σ H Q ⟨W, env, st, d, env', R, Ev, r, e, h⟩ => ?_
  unfold gL at e
  split at e
  · rename_i ts
    split at e
    · rename_i hl
      obtain ⟨a, vs, e1, _, q, rr⟩ := r
      exact ⟨a, vs, e1, SqL.of q, by rw [relTs_len rr]; exact hl, W, env, st, ts, env', R, Ev, rr, e, h⟩
    · cases e
  · cases e
end

/-! ### enumerate(t), a tuple -/
section
variable {X : Cx} {Wx : WX} {e : Expr} {f : Env → Sto → Res D} {p pos tpos : Pos}
def enTOf (f : Env → Sto → Res D) (env : Env) (st : Sto) : Res ItM := (f env st).bind fun d s => match d with
  | .t (.tup ts) => .ok (enIt d ts.length) s
  | _ => .bad
theorem JOk.enumT {K : PySem.W.Frag} {W : Wd} {H : Hp} {st : Sto} {ts : List T} {a : Addr} {n : Nat} (R : Rl K W st H) (r : RelD K W H (.t (.tup ts)) (.ref a)) : JOk K (Md.IteT K a) (enIt (.t (.tup ts)) n) W H := by
  intro W' H' st' i E' R'
  obtain ⟨a', vs, e1, s, rr⟩ := E'.relD R r
  cases e1
  have key : ∀ o, (enIt (.t (.tup ts)) n).nth st' i = some o → (o = none ∧ ts.length ≤ i) ∨ ∃ x, ts[i]? = some x ∧ o = some (.t (.tup [.int (i : Nat), x])) := fun o h => by
    have h : ((items st' (.t (.tup ts))).bind fun ds => match ds[i]? with
      | some (.t x) => some (some (D.t (.tup [.int (i : Nat), x])))
      | some _ => none
      | none => some none) = some o := h
    have q : items st' (.t (.tup ts)) = some (ts.map .t) := rfl
    rw [q] at h
    simp only [Option.bind_some, List.getElem?_map] at h
    cases q2 : ts[i]? with
    | none => rw [q2] at h; cases h; exact .inl ⟨rfl, List.getElem?_eq_none_iff.mp q2⟩
    | some x => rw [q2] at h; cases h; exact .inr ⟨x, rfl, rfl⟩
  refine ⟨fun h => ?_, fun dd h => ?_⟩
  · rcases key _ h with ⟨_, z⟩ | ⟨x, _, z⟩
    · exact ⟨vs, s.sq, by rw [relTs_len rr]; exact z⟩
    · cases z
  · rcases key _ h with ⟨z, _⟩ | ⟨x, q, z⟩
    · cases z
    · cases z
      obtain ⟨v, e3, rv⟩ := relTs_get rr q
      refine ⟨⟨vs, v, s.sq, e3⟩, fun u H2 hy => ?_⟩
      obtain ⟨t, w, rfl, ht, rfl, hw⟩ := hy
      have e4 : w = v := Option.some.inj ((hw vs s.sq).symm.trans e3)
      subst e4
      exact ⟨W', R'.more ht, R'.rest ht, t, _, rfl, .inl upd_same, V.int (i : Nat), [w], rfl, rfl, w, [], rfl, (R'.more ht).relT R' x w rv, rfl⟩
theorem ri_enumT {elts : List Expr} {kk : Nat} (hg : Gl X "enumerate") (hm : X.mg "enumerate" = none) (h : RE X Wx e f) (hs : starEach [e] X.env = [(false, eval e X.env)] := by rfl) : RI X Wx (.Tuple elts kk tpos) (.Call (.Name "enumerate" p) [e] [] pos) (enTOf f) := by
  refine PI.conv (Md.pi_enumT hg hm (ra_cons h ra_nil hs) hs) fun σ H Q ⟨W, env, st, R, Ev, h⟩ => ⟨W, env, st, R, Ev, ?_⟩
  show ((f env st).bind fun d st1 => (argsM [] env st1).bind fun ds st2 => .ok (d :: ds) st2).Holds _ _
  have key := split (A' := fun d s => (match d with
    | .t (.tup ts) => Res.ok (enIt d ts.length) s
    | _ => .bad).Holds (fun it s => ∀ W' H' J, Ext W H W' H' → Rl X.K W' s H' → JOk X.K J it W' H' → Q J H') (OkX X.K W H fun c o H' => Wx c o σ H')) h (fun d s h1 => h1) fun _ _ _ hx => hx
  cases q : f env st with
  | bad => rw [q] at key; exact key
  | exc C fs s => rw [q] at key; exact key
  | ok d s =>
    rw [q] at key
    intro W1 H1 vs E1 R1 r1
    obtain ⟨v, u, rfl, rv, ru⟩ := r1
    cases ru
    cases d with
    | t y =>
      cases y with
      | tup ts =>
        obtain ⟨a, ws, rfl, sq, rr⟩ := id rv
        exact ⟨a, ws, rfl, sq.sq, key W1 H1 _ E1 R1 (JOk.enumT R1 rv)⟩
      | _ => exact key.elim
    | _ => exact key.elim
end
/-! ### {k: v for .. for ..}: the new dict is the store's n-th from the first turn on -/
def dcS (n : Nat) (ga : D → Env → Option Env) (fk fe : Env → Sto → Res D) (it : ItM) (env0 : Env) : Nat → Nat → Sto → Option Sto
  | 0, i, st => match it.nth st i with
    | some none => some st
    | _ => none
  | m + 1, i, st => match it.nth st i with
    | some none => some st
    | some (some d) => match ga d env0 with
      | some env1 => match fk env1 st with
        | .ok y st2 => match fe env1 st2 with
          | .ok z st3 => match keyOf y, st3[n]? with
            | some k, some (.dk false kvs) => if kvs.length < LIM then dcS n ga fk fe it env0 m (i + 1) (st3.set n (.dk false (putG kvs k z))) else none
            | _, _ => none
          | _ => none
        | _ => none
      | none => none
    | none => none
def dcO (n : Nat) (us1 : List Nat) (ga : D → Env → Option Env) (fit1 : Env → Sto → Res ItM) (ga1 : D → Env → Option Env) (fk fe : Env → Sto → Res D) (it : ItM) (env0 : Env) : Nat → Nat → Sto → Option Sto
  | 0, i, st => match it.nth st i with
    | some none => some st
    | _ => none
  | m + 1, i, st => match it.nth st i with
    | some none => some st
    | some (some d) => match ga d env0 with
      | some env1 => match fit1 env1 st with
        | .ok it1 st1 => match dcS n ga1 fk fe it1 (wipeE env1 us1) it1.most 0 st1 with
          | some st2 => dcO n us1 ga fit1 ga1 fk fe it env0 m (i + 1) st2
          | none => none
        | _ => none
      | none => none
    | none => none
def dcN2 (us us1 : List Nat) (fit : Env → Sto → Res ItM) (ga : D → Env → Option Env) (fit1 : Env → Sto → Res ItM) (ga1 : D → Env → Option Env) (fk fe : Env → Sto → Res D) (env : Env) (st : Sto) : Res D := (fit env st).bind fun it s =>
  match dcO s.length us1 ga fit1 ga1 fk fe it (wipeE env us) it.most 0 (s ++ [.dk false []]) with
  | some s2 => .ok (.r s.length) s2
  | none => .bad
theorem dcS_run {K : PySem.W.Frag} {n : Nat} {us : List Nat} {ga : D → Env → Option Env} {fk fe : Env → Sto → Res D} {σ : L2.St} {W1 : Wd} {H1 : Hp} {J : It} {it : ItM} {env : Env} {s s' : Sto} {L : Addr} {Nx : Hp → Prop} (hn : W1.ρ[n]? = some L)
    (R1 : Rl K W1 s H1) (Ev : EnvR K W1 H1 env σ) (j : JOk K J it W1 H1) (hr : dcS n ga fk fe it (wipeE env us) it.most 0 s = some s') (fin : ∀ W H, Ext W1 H1 W H → Rl K W s' H → Nx H) :
    Md.tIn J L (tG K us ga) (tE K W0 fk) (tE K W0 fe) us σ H1 Nx := by
  refine ⟨fun i m H => ∃ W st, Ext W1 H1 W H ∧ Rl K W st H ∧ dcS n ga fk fe it (wipeE env us) m i st = some s', ⟨it.most, W1, s, .refl, R1, hr⟩, ?_⟩
  rintro i m H ⟨W, st, E, R, h⟩
  obtain ⟨j1, j2⟩ := j W H st i E R
  cases q : it.nth st i with
  | none => cases m <;> (unfold dcS at h; rw [q] at h; cases h)
  | some od =>
    cases od with
    | none =>
      have stop : dcS n ga fk fe it (wipeE env us) m i st = some st := by cases m <;> (unfold dcS; rw [q])
      rw [stop] at h
      cases h
      exact .inl ⟨j1 q, fin W H E R⟩
    | some d =>
      cases m with
      | zero => unfold dcS at h; rw [q] at h; cases h
      | succ m =>
        obtain ⟨jg, jy⟩ := j2 d q
        refine .inr ⟨jg, fun H' => ∃ W st, Ext W1 H1 W H' ∧ Rl K W st H' ∧ dcS n ga fk fe it (wipeE env us) m (i + 1) st = some s', fun H' h => ⟨m, Nat.lt_succ_self m, h⟩, fun x H3 hy => ?_⟩
        obtain ⟨W3, E3, R3, r3⟩ := jy x H3 hy
        unfold dcS at h
        simp only [q] at h
        cases q2 : ga d (wipeE env us) with
        | none => rw [q2] at h; cases h
        | some env1 =>
          simp only [q2] at h
          refine ⟨W3, wipeE env us, st, d, env1, R3, (Ev.mono (E.trans E3) R1).wipe us, r3, q2, fun σ3 Ev3 ag => ⟨ag.wipe, W3, env1, st, R3, Ev3, ?_⟩⟩
          cases q4 : fk env1 st with
          | bad => simp only [q4] at h; cases h
          | exc C x y => simp only [q4] at h; cases h
          | ok y st2 =>
            simp only [q4] at h
            intro W5 H5 yv E5 R5 r5
            refine ⟨W5, env1, st2, R5, Ev3.mono E5 R3, ?_⟩
            cases q5 : fe env1 st2 with
            | bad => simp only [q5] at h; cases h
            | exc C x y => simp only [q5] at h; cases h
            | ok z st3 =>
              simp only [q5] at h
              intro W6 H6 zv E6 R6 r6
              have E06 := E.trans (E3.trans (E5.trans E6))
              split at h
              · rename_i k kvs q6 q7
                split at h
                · rename_i hl
                  obtain ⟨a, ea, e1⟩ := E06.relD R1 (d := .r n) ⟨L, hn, rfl⟩
                  cases e1
                  obtain ⟨vs, p1, p2⟩ := R6.live n L _ ea q7
                  rw [if_neg (by decide)] at p1
                  have E7 : Ext W6 H6 W6 (upd H6 L (.dK (putK vs k zv))) := Ext.put ea p1
                  have R7 := R6.putO (so := .dk false (putG kvs k z)) ea p1 ⟨_, by rw [if_neg (by decide)]; exact upd_same, relKs_put (E7.relD R6 r6) ((E7.kt R6).relKs (List.prefix_refl _) p2)⟩
                  exact ⟨vs, k, keyOf_rel q6 r5, p1, by rw [relKs_len p2]; exact lim_lt (Nat.le_of_lt hl), W6, _, E06.trans E7, R7, h⟩
                · cases h
              · cases h
theorem dcO_run {K : PySem.W.Frag} {us us1 : List Nat} {ga ga1 : D → Env → Option Env} {fit1 : Env → Sto → Res ItM} {fk fe : Env → Sto → Res D} {σ : L2.St} {W1 : Wd} {H1 : Hp} {J : It} {it : ItM} {env : Env} {s s' : Sto} {Q : VK}
    (R1 : Rl K W1 s H1) (Ev : EnvR K W1 H1 env σ) (j : JOk K J it W1 H1) (hr : dcO s.length us1 ga fit1 ga1 fk fe it (wipeE env us) it.most 0 (s ++ [.dk false []]) = some s') (fin : ∀ L W H, Ext W1 H1 W H → Rl K W s' H → W.ρ[s.length]? = some L → Q (.ref L) H) :
    ∀ L, H1 L = none → ∃ Wn : Nat → Nat → Hp → Prop, (∃ m, Wn 0 m (upd H1 L (.dK []))) ∧ ∀ i m H, Wn i m H → (J.stop i H ∧ Q (.ref L) H) ∨ (J.go i H ∧ ∃ Nx : Hp → Prop, (∀ H', Nx H' → ∃ m', m' < m ∧ Wn (i + 1) m' H') ∧
      ∀ x H', J.yld i H x H' → tG K us ga x (wipe σ us) H' fun σ2 H2 => wipe σ2 us = wipe σ us ∧ tI K W0 fit1 σ2 H2 fun J1 H3 => Md.tIn J1 L (tG K us1 ga1) (tE K W0 fk) (tE K W0 fe) us1 σ2 H3 Nx) := by
  intro L hL
  have E2 : Ext W1 H1 (W1.add L) (upd H1 L (.dK [])) := Ext.add W1 hL
  have R2 : Rl K (W1.add L) (s ++ [.dk false []]) (upd H1 L (.dK [])) := R1.addO hL ⟨[], by rw [if_neg (by decide)]; exact upd_same, rfl⟩
  have last : (W1.add L).ρ[s.length]? = some L := by show (W1.ρ ++ [L])[s.length]? = some L; rw [← R1.len, List.getElem?_append_right (Nat.le_refl _), Nat.sub_self]; rfl
  refine ⟨fun i m H => ∃ W st, Ext (W1.add L) (upd H1 L (.dK [])) W H ∧ Rl K W st H ∧ dcO s.length us1 ga fit1 ga1 fk fe it (wipeE env us) m i st = some s', ⟨it.most, W1.add L, _, .refl, R2, hr⟩, ?_⟩
  rintro i m H ⟨W, st, E, R, h⟩
  have stay : ∀ {W' H'}, Ext (W1.add L) (upd H1 L (.dK [])) W' H' → W'.ρ[s.length]? = some L := fun E' => by
    obtain ⟨a, ea, e1⟩ := E'.relD R2 (d := .r s.length) ⟨L, last, rfl⟩
    cases e1
    exact ea
  obtain ⟨j1, j2⟩ := j W H st i (E2.trans E) R
  cases q : it.nth st i with
  | none => cases m <;> (unfold dcO at h; rw [q] at h; cases h)
  | some od =>
    cases od with
    | none =>
      have stop : dcO s.length us1 ga fit1 ga1 fk fe it (wipeE env us) m i st = some st := by cases m <;> (unfold dcO; rw [q])
      rw [stop] at h
      cases h
      exact .inl ⟨j1 q, fin L W H (E2.trans E) R (stay E)⟩
    | some d =>
      cases m with
      | zero => unfold dcO at h; rw [q] at h; cases h
      | succ m =>
        obtain ⟨jg, jy⟩ := j2 d q
        refine .inr ⟨jg, fun H' => ∃ W st, Ext (W1.add L) (upd H1 L (.dK [])) W H' ∧ Rl K W st H' ∧ dcO s.length us1 ga fit1 ga1 fk fe it (wipeE env us) m (i + 1) st = some s', fun H' h => ⟨m, Nat.lt_succ_self m, h⟩, fun x H3 hy => ?_⟩
        obtain ⟨W3, E3, R3, r3⟩ := jy x H3 hy
        unfold dcO at h
        simp only [q] at h
        cases q2 : ga d (wipeE env us) with
        | none => rw [q2] at h; cases h
        | some env1 =>
          simp only [q2] at h
          refine ⟨W3, wipeE env us, st, d, env1, R3, (Ev.mono (E2.trans (E.trans E3)) R1).wipe us, r3, q2, fun σ3 Ev3 ag => ⟨ag.wipe, W3, env1, st, R3, Ev3, ?_⟩⟩
          cases q4 : fit1 env1 st with
          | bad => simp only [q4] at h; cases h
          | exc C x y => simp only [q4] at h; cases h
          | ok it1 st1 =>
            simp only [q4] at h
            intro W4 H4 J1 E4 R4 jo
            cases q5 : dcS s.length ga1 fk fe it1 (wipeE env1 us1) it1.most 0 st1 with
            | none => rw [q5] at h; cases h
            | some st2 =>
              rw [q5] at h
              exact dcS_run (stay (E.trans (E3.trans E4))) R4 (Ev3.mono E4 R3) jo q5 fun W5 H5 E5 R5 => ⟨W5, st2, E.trans (E3.trans (E4.trans E5)), R5, h⟩
section
variable {X : Cx} {Wx : WX} {kx vx tg iter tg1 iter1 : Expr} {scope : Scope} {own : List (Str × Nat)} {vs1 : List Nat} {pos : Pos} {ga ga1 : D → Env → Option Env} {fk fe : Env → Sto → Res D} {fit fit1 : Env → Sto → Res ItM}
theorem re_dc2 (hc : X.calm = true) (hN : X.N.Nodup) (hi : RI X Wx tg iter fit) (ok : BlkOk X.N X.env.scope scope own) (hv : ∀ i ∈ vs1, i ∈ own.map (·.2))
    (hg : ∀ (s : Shared) (H : Hp) (C : Addr) (cl : List (Str × Addr)) (fp : List Addr), RG (X.blk s H scope (compEnvC scope cl C X.env) fp) (own.map (·.2)) tg ga)
    (hi1 : ∀ (s : Shared) (H : Hp) (C : Addr) (cl : List (Str × Addr)) (fp : List Addr), RI (X.blk s H scope (compEnvC scope cl C X.env) fp) W0 tg1 iter1 fit1)
    (hg1 : ∀ (s : Shared) (H : Hp) (C : Addr) (cl : List (Str × Addr)) (fp : List Addr), RG (X.blk s H scope (compEnvC scope cl C X.env) fp) vs1 tg1 ga1)
    (hk : ∀ (s : Shared) (H : Hp) (C : Addr) (cl : List (Str × Addr)) (fp : List Addr), RE (X.blk s H scope (compEnvC scope cl C X.env) fp) W0 kx fk)
    (he : ∀ (s : Shared) (H : Hp) (C : Addr) (cl : List (Str × Addr)) (fp : List Addr), RE (X.blk s H scope (compEnvC scope cl C X.env) fp) W0 vx fe) (hs : ∀ x, foldedSetIterable iter X.env x = pure x := by intro _; rfl) (hs1 : ∀ env x, foldedSetIterable iter1 env x = pure x := by intro _ _; rfl) :
    RE X Wx (.DictComp kx vx [⟨tg, iter, [], 0⟩, ⟨tg1, iter1, [], 0⟩] scope pos) (dcN2 (own.map (·.2)) vs1 fit ga fit1 ga1 fk fe) := by
  refine PE.conv (Md.pe_two (g := tG X.K (own.map (·.2)) ga) (wi1 := tI X.K W0 fit1) (g1 := tG X.K vs1 ga1) (tk := tE X.K W0 fk) (tv := tE X.K W0 fe) hc hN hi ok hv hg hi1 hg1 hk he hs hs1) fun σ H Q ⟨W, env, st, R, Ev, h⟩ => ⟨W, env, st, R, Ev, split h (fun it s h1 W1 H1 J E1 R1 j => ?_) fun C fs st' hx => hx⟩
  split at h1
  · rename_i s2 hr
    refine dcO_run R1 (Ev.mono E1 R) j hr fun L W2 H2 E2 R2 at_ => ?_
    exact h1 W2 H2 _ (E1.trans E2) R2 ⟨L, at_, rfl⟩
  · exact h1.elim
end
end Mi
/-! Mv11 -/
namespace Mi
open L2 PySem PySem.Spec PyProof.Rows
/-! ### x in a list of data of any depth -/
section
variable {X : Cx}
def deepIn (d e : D) (st : Sto) : Option Bool := (pyD st d).bind fun p => (pyD st e).bind fun q => match q with
  | .list ds => if (SeqAt.shaped p && SeqAt.shaped (.list ds)) = true then some (ds.any fun z => PyData.eqv z p) else none
  | _ => none
def inG (d e : D) (st : Sto) : Option Bool := match inB d e st with
  | some b => some b
  | none => deepIn d e st
def inDM (d e : D) (st : Sto) : Option D := (inG d e st).map bD
theorem o_inDM (hu : X.A.units + 65 < cLine) : OpR X (compareOp .In) (rM X.K inDM) := by
  have ho : OpR X (compareOp .In) _ := OpR.or (OpR.or op_in_str op_in_seq) (op_inD hu)
  refine op_of ho fun W st d e x y H Q z R r1 r2 h q => ?_
  unfold inDM inG at h
  cases e1 : inB d e st with
  | some b =>
    rw [e1] at h
    cases h
    rcases inB_rel R e1 r1 r2 with ⟨p, k, rfl, rfl, h2⟩ | ⟨p, xs, rfl, h1, h2, h3, h4⟩
    · exact .inl (.inl ⟨p, k, rfl, rfl, by rw [h2]; exact q W H _ .refl R rfl⟩)
    · exact .inl (.inr ⟨p, xs, rfl, h1, h2, h3, by rw [h4]; exact q W H _ .refl R rfl⟩)
  | none =>
    rw [e1] at h
    cases e2 : deepIn d e st with
    | none => simp only [e2] at h; cases h
    | some b =>
      simp only [e2] at h
      cases h
      unfold deepIn at e2
      cases e3 : pyD st d with
      | none => rw [e3] at e2; cases e2
      | some p =>
        cases e4 : pyD st e with
        | none => rw [e3, e4] at e2; cases e2
        | some l =>
          rw [e3, e4] at e2
          cases l with
          | list ds =>
            have e2 : (if (SeqAt.shaped p && SeqAt.shaped (.list ds)) = true then some (ds.any fun z => PyData.eqv z p) else none) = some b := e2
            split at e2
            · rename_i c
              rw [Bool.and_eq_true] at c
              exact .inr ⟨p, ds, dpD_of R e3 r1, dpD_of R e4 r2, c.1, c.2, by rw [Option.some.inj e2]; exact q W H _ .refl R rfl⟩
            · cases e2
          | _ => cases e2
end
end Mi
/-! Mv12 -/
namespace Mi
open L2 PySem PySem.Spec PyProof.Rows
theorem csl_nil {P : Addr → Prop} : ∀ C, csL [] C = true → P C := fun C h => by cases h
theorem csl_cons {P : Addr → Prop} {a : Addr} {l : List Addr} (h : P a) (r : ∀ C, csL l C = true → P C) : ∀ C, csL (a :: l) C = true → P C := fun C e => by
  have e : (decide (C = a) || csL l C) = true := e
  rcases Bool.or_eq_true _ _ |>.mp e with e | e
  · rw [of_decide_eq_true e]; exact h
  · exact r C e
end Mi
/-! Mv13 -/
namespace Mi
open L2 PySem PySem.Spec PyProof.Rows
/-! ### list(x): a list that will be changed -/
section
variable {X : Cx} {Wx : WX} {e : Expr} {es : List Expr} {f : Env → Sto → Res D} {p pos : Pos}
def newLM (fs : List (Env → Sto → Res D)) (env : Env) (st : Sto) : Res D := (argsM fs env st).bind fun ds st1 => match ds with
  | [d] => match items st1 d with
    | some is => .ok (.r st1.length) (st1 ++ [.lst is])
    | none => .bad
  | _ => .bad
theorem re_newL {x : Str} {fs : List (Env → Sto → Res D)} (hg : Gl X x) (hm : X.mg x = none) (hv : bootBuiltins x = some (.type "list")) (ha : RA X Wx (e :: es) (argsM fs)) (hn : x ≠ "__name__" := by decide) (hdb : (x == ("__debug__" : Str)) = false := by decide)
    (he : starEach (e :: es) X.env = (false, eval e X.env) :: starEach es X.env := by rfl) (hpl : (backTo pos (starEach es X.env)).any (·.1) = false := by rfl) : RE X Wx (.Call (.Name x p) (e :: es) [] pos) (newLM fs) := by
  refine PE.conv (pe_callTy call_list_of hg hm hv ha hn hdb he hpl) fun σ H Q ⟨W, env, st, R, Ev, h⟩ => ⟨W, env, st, R, Ev, split h (fun ds st1 h1 W1 H1 vs E1 R1 r1 => ?_) fun C fs st' hx => hx⟩
  split at h1
  · rename_i d
    obtain ⟨v, ev, r2⟩ := rel1 r1
    subst ev
    cases e1 : items st1 d with
    | none => rw [e1] at h1; exact h1.elim
    | some is =>
      rw [e1] at h1
      obtain ⟨a, vs, rfl, sq, rr⟩ := items_seq R1 e1 r2
      exact ⟨a, vs, rfl, sq, fun p hp => h1 (W1.add p) _ _ (E1.trans (Ext.add W1 hp)) (R1.add hp rr) ⟨p, by
        show (W1.ρ ++ [p])[st1.length]? = some p
        rw [← R1.len, List.getElem?_append_right (Nat.le_refl _), Nat.sub_self]; rfl, rfl⟩⟩
  · exact h1.elim
end
end Mi
/-! Zm -/
/-! zip of two walked things, each a list or a tuple; zip(list, tuple) in a loop -/
namespace Md
open L2 PySem PySem.Spec PyProof.Rows RZ
/-- an iterator of a list (false) or of a tuple (true) -/
def It2 (k : Bool) (h : Heap) (j l : Addr) (i : Nat) : Prop := match k with
  | false => h.IsListIter j l i
  | true => h.IsTupleIter j l i
def Sq2 (k : Bool) (h : Heap) (l : Addr) (xs : Array Value) : Prop := match k with
  | false => h.IsList l xs
  | true => h.IsTuple l xs
theorem It2.ext {k : Bool} {h h' : Heap} {j b l : Addr} {i : Nat} (x : It2 k h j l i) (e : Heap.ExtBut b h h') (n : j ≠ b) : It2 k h' j l i := by
  cases k
  · exact Heap.IsListIter.extBut x e n
  · exact Heap.IsTupleIter.extBut x e n
theorem Sq2.ext {k : Bool} {h h' : Heap} {b l : Addr} {xs : Array Value} (x : Sq2 k h l xs) (e : Heap.ExtBut b h h') (n : l ≠ b) : Sq2 k h' l xs := by
  cases k
  · exact Heap.IsList.extBut x e n
  · exact Heap.IsTuple.extBut x e n
theorem It2.stay {k : Bool} {h h' : Heap} {j l : Addr} {i : Nat} (x : It2 k h j l i) (e : ∀ o, h.get? j = some o → h'.get? j = some o) : It2 k h' j l i := by
  cases k
  · exact Heap.IsListIter.at x e
  · exact Heap.IsTupleIter.at x e
theorem It2.obj {k : Bool} {h : Heap} {j l : Addr} {i : Nat} (x : It2 k h j l i) : ∃ o, h.get? j = some o ∧ ∀ v, o.data ≠ .cell v := by
  cases k
  · obtain ⟨o, e, _, d⟩ := x
    exact ⟨o, e, fun v q => by rw [d] at q; cases q⟩
  · obtain ⟨o, e, _, d⟩ := x
    exact ⟨o, e, fun v q => by rw [d] at q; cases q⟩
section
variable {P : Program} {w : World} {A : Around} {E : Value → Shared → Prop} {s : Shared} {k k2 : Bool} {z TI TO j1 j2 l1 l2 : Addr} {n m : Nat} {xs ys : Array Value} {x y a b : Value}
theorem next2 {j l : Addr} {Q : Value → Shared → Prop} (c : It2 k s.heap j l n) (d : Sq2 k s.heap l xs) (hx : xs[n]? = some x) (hQ : ∀ h', It2 k h' j l (n + 1) → Heap.SameBut j s.heap h' → Q x { s with heap := h' }) :
    wpAny (model P w) A (Builtin.SmallTypes.nextOf (.ref j)) Q E s := by
  cases k
  · exact wpAny_nextOf_list_item c d hx hQ
  · exact nextOf_tuple_item c d hx hQ
theorem stop2 {j l : Addr} {Q : Value → Shared → Prop} (hh : A.handled = none) (c : It2 k s.heap j l n) (d : Sq2 k s.heap l xs) (hx : xs[n]? = none)
    (hE : ∀ h' e, Heap.ExtBut j s.heap h' → (∃ o, h'.get? e = some o ∧ o.cls = .type "StopIteration") → E (.ref e) { s with heap := h' }) : wpAny (model P w) A (Builtin.SmallTypes.nextOf (.ref j)) Q E s := by
  cases k
  · exact wpAny_nextOf_list_end hh c d hx hE
  · exact nextOf_tuple_end hh c d hx hE
/-- what stays: all but the zip, its pair and its two iterators -/
abbrev Rest (h h' : Heap) (z TO j1 j2 : Addr) : Prop := ∀ c o, c ≠ z → c ≠ TO → c ≠ j1 → c ≠ j2 → h.get? c = some o → h'.get? c = some o
theorem zip2_item {Q : Value → Shared → Prop} (D : ZipApart z TI TO j1 j2 l1 l2) (q0 : IsZip s.heap z TI TO .none) (q1 : IsPair s.heap TI (.ref j1) (.ref j2)) (q2 : IsPair s.heap TO a b) (c1 : It2 k s.heap j1 l1 n) (c2 : It2 k2 s.heap j2 l2 m)
    (d1 : Sq2 k s.heap l1 xs) (d2 : Sq2 k2 s.heap l2 ys) (hx : xs[n]? = some x) (hy : ys[m]? = some y)
    (hQ : ∀ h', IsZip h' z TI TO (rawInt s.heap.objs.size) → IsPair h' TO x y → It2 k h' j1 l1 (n + 1) → It2 k2 h' j2 l2 (m + 1) → IsPair h' s.heap.objs.size x y → Rest s.heap h' z TO j1 j2 → Q (.ref s.heap.objs.size) { s with heap := h' }) :
    wpAny (model P w) A (Builtin.«zip.__next__» ⟨[.ref z], []⟩) (fun r s' => ∃ v, r = .done (.ret v) ∧ Q v s') E s := by
  (show wpAny _ _ (field (.ref z) 2 >>= _) _ _ _)
  (refine wpAny_bind (wpAny_field q0 rfl (x := .bool false) rfl ?_))
  (show wpAny _ _ (field (.ref z) 3 >>= _) _ _ _)
  (refine wpAny_bind (wpAny_field q0 rfl (x := .ref TI) rfl (wpAny_bind (wpAny_seqItems q1 rfl ?_))))
  (show wpAny _ _ (Builtin.SmallTypes.ownedTupleIsFree (.ref z) >>= _) _ _ _)
  (refine wpAny_bind ?_)
  (unfold Builtin.SmallTypes.ownedTupleIsFree)
  (refine wpAny_bind (wpAny_field q0 rfl (x := .none) rfl (wpAny_pure ?_)))
  (simp only [if_true])
  (refine wpAny_bind (wpAny_rule (wpAny_bind (wpAny_field q0 rfl (x := .ref TO) rfl (wpAny_bind (wpAny_setField_rec q0 (by simp) fun g1 q01 b1 => ?_))))))
  replace q01 : IsZip g1 z TI TO .ellipsis := q01
  have e1 := b1.extBut
  (refine wpAny_bind ?_)
  (simp only [List.zipIdx_cons, List.zipIdx_nil, List.forIn_cons, List.forIn_nil])
  (refine wpAny_bind (wpAny_bind (wpAny_onRaise ?_)))
  (show wpAny _ _ (Builtin.SmallTypes.nextOf (.ref j1) >>= _) _ _ _)
  (refine wpAny_bind (next2 (c1.ext e1 D.i1z) (d1.ext e1 D.l1z) hx fun g2 c12 b2 => wpAny_pure ?_))
  have e2 := b2.extBut
  have q22 : IsPair g2 TO a b := e2 _ _ D.TOi1 (e1 _ _ D.TOz q2)
  (refine wpAny_bind (wpAny_seqItems q22 rfl (wpAny_bind (wpAny_updateSeq_pair q22 fun g3 q23 b3 => ?_))))
  replace q23 : IsPair g3 TO x b := q23
  have e3 := b3.extBut
  (refine wpAny_bind (wpAny_letGo (wpAny_pure (wpAny_bind (wpAny_bind (wpAny_onRaise ?_))))))
  (show wpAny _ _ (Builtin.SmallTypes.nextOf (.ref j2) >>= _) _ _ _)
  (refine wpAny_bind (next2 (((c2.ext e1 D.i2z).ext e2 D.i12.symm).ext e3 D.TOi2.symm) (((d2.ext e1 D.l2z).ext e2 D.l2i1).ext e3 D.l2TO) hy fun g4 c24 b4 => wpAny_pure ?_))
  have e4 := b4.extBut
  have q24 : IsPair g4 TO x b := e4 _ _ D.TOi2 q23
  (refine wpAny_bind (wpAny_seqItems q24 rfl (wpAny_bind (wpAny_updateSeq_pair q24 fun g5 q25 b5 => ?_))))
  replace q25 : IsPair g5 TO x y := q25
  have e5 := b5.extBut
  (refine wpAny_bind (wpAny_letGo (wpAny_pure (wpAny_pure (wpAny_bind (wpAny_seqItems q25 rfl (wpAny_bind (wpAny_newTuple ?_))))))))
  have sz : g5.objs.size = s.heap.objs.size := by rw [b5.1, b4.1, b3.1, b2.1, b1.1]
  have q05 : IsZip g5 z TI TO .ellipsis := e5 _ _ D.TOz.symm (e4 _ _ D.i2z.symm (e3 _ _ D.TOz.symm (e2 _ _ D.i1z.symm q01)))
  have r5 : Rest s.heap g5 z TO j1 j2 := fun c o n1 n2 n3 n4 e => e5 _ _ n2 (e4 _ _ n4 (e3 _ _ n2 (e2 _ _ n3 (e1 _ _ n1 e))))
  have c15 : It2 k g5 j1 l1 (n + 1) := ((c12.ext e3 D.TOi1.symm).ext e4 D.i12).ext e5 D.TOi1.symm
  have c25 : It2 k2 g5 j2 l2 (m + 1) := c24.ext e5 D.TOi2.symm
  have zl : z < g5.objs.size := Heap.lt_size q05
  (show wpAny _ _ (Builtin.SmallTypes.ownedTupleHandOut (.ref z) (.ref g5.objs.size) >>= _) _ _ _)
  (refine wpAny_bind ?_)
  (unfold Builtin.SmallTypes.ownedTupleHandOut)
  have q06 : IsZip (g5.push { cls := .type "tuple", data := .seq #[x, y] }) z TI TO .ellipsis := Heap.get?_push_of_some _ q05
  (refine wpAny_bind (wpAny_setField_rec q06 (by simp) fun g7 q07 b7 => ?_))
  replace q07 : IsZip g7 z TI TO (rawInt g5.objs.size) := q07
  (refine wpAny_setField_rec q07 (by simp) fun g8 q08 b8 => ?_)
  replace q08 : IsZip g8 z TI TO (rawInt g5.objs.size) := q08
  have up : ∀ c o, c ≠ z → g5.get? c = some o → g8.get? c = some o := fun c o n1 e => b8.extBut _ _ n1 (b7.extBut _ _ n1 (Heap.get?_push_of_some _ e))
  have t8 : IsPair g8 g5.objs.size x y := b8.extBut _ _ (Nat.ne_of_gt zl) (b7.extBut _ _ (Nat.ne_of_gt zl) (Heap.get?_push_size _ rfl))
  rw [sz] at q08 t8
  (refine wpAny_pure ⟨_, rfl, ?_⟩)
  show Q (.ref g5.objs.size) _
  rw [sz]
  exact hQ g8 q08 (up _ _ D.TOz q25) (c15.stay fun o e => up _ o D.i1z e) (c25.stay fun o e => up _ o D.i2z e) t8 fun c o n1 n2 n3 n4 e => up c o n1 (r5 c o n1 n2 n3 n4 e)
theorem zip2_stop {Q : Fin → Shared → Prop} (hh : A.handled = none) (D : ZipApart z TI TO j1 j2 l1 l2) (q0 : IsZip s.heap z TI TO .none) (q1 : IsPair s.heap TI (.ref j1) (.ref j2)) (q2 : IsPair s.heap TO a b) (c1 : It2 k s.heap j1 l1 n) (c2 : It2 k2 s.heap j2 l2 m)
    (d1 : Sq2 k s.heap l1 xs) (d2 : Sq2 k2 s.heap l2 ys) (he : xs[n]? = none ∨ ys[m]? = none) (hE : ∀ h' e, Rest s.heap h' z TO j1 j2 → (∃ o, h'.get? e = some o ∧ o.cls = .type "StopIteration") → E (.ref e) { s with heap := h' }) :
    wpAny (model P w) A (Builtin.«zip.__next__» ⟨[.ref z], []⟩) Q E s := by
  (show wpAny _ _ (field (.ref z) 2 >>= _) _ _ _)
  (refine wpAny_bind (wpAny_field q0 rfl (x := .bool false) rfl ?_))
  (show wpAny _ _ (field (.ref z) 3 >>= _) _ _ _)
  (refine wpAny_bind (wpAny_field q0 rfl (x := .ref TI) rfl (wpAny_bind (wpAny_seqItems q1 rfl ?_))))
  (show wpAny _ _ (Builtin.SmallTypes.ownedTupleIsFree (.ref z) >>= _) _ _ _)
  (refine wpAny_bind ?_)
  (unfold Builtin.SmallTypes.ownedTupleIsFree)
  (refine wpAny_bind (wpAny_field q0 rfl (x := .none) rfl (wpAny_pure ?_)))
  (simp only [if_true])
  (refine wpAny_bind (wpAny_rule (wpAny_bind (wpAny_field q0 rfl (x := .ref TO) rfl (wpAny_bind (wpAny_setField_rec q0 (by simp) fun g1 q01 b1 => ?_))))))
  replace q01 : IsZip g1 z TI TO .ellipsis := q01
  have e1 := b1.extBut
  (refine wpAny_bind ?_)
  (simp only [List.zipIdx_cons, List.zipIdx_nil, List.forIn_cons, List.forIn_nil])
  (refine wpAny_bind (wpAny_bind (wpAny_onRaise ?_)))
  (show wpAny _ _ (Builtin.SmallTypes.nextOf (.ref j1) >>= _) _ _ _)
  have out : ∀ (g : Heap) (e : Addr), IsZip g z TI TO .ellipsis → Rest s.heap g z TO j1 j2 → (∃ o, g.get? e = some o ∧ o.cls = .type "StopIteration") → wpAny (model P w) A (setField (.ref z) 0 .none) (fun _ s' => E (.ref e) s') E { s with heap := g } := by
    intro g e qg rg ⟨o, ho, hc⟩
    have ez : e ≠ z := fun h => by subst h; rw [qg] at ho; cases ho; simp at hc
    exact wpAny_setField_rec qg (by simp) fun g' _ b' => hE g' e (fun c o n1 n2 n3 n4 x => b'.extBut _ _ n1 (rg c o n1 n2 n3 n4 x)) ⟨o, b'.extBut _ _ ez ho, hc⟩
  cases hx : xs[n]? with
  | none =>
    (refine wpAny_bind (stop2 hh (c1.ext e1 D.i1z) (d1.ext e1 D.l1z) hx fun g2 e e2 h => ?_))
    exact out g2 e (e2 _ _ D.i1z.symm q01) (fun c o n1 _ n3 _ x => e2 _ _ n3 (e1 _ _ n1 x)) h
  | some x =>
    have hy : ys[m]? = none := by
      rcases he with h | h
      · (rw [hx] at h; cases h)
      · exact h
    (refine wpAny_bind (next2 (c1.ext e1 D.i1z) (d1.ext e1 D.l1z) hx fun g2 c12 b2 => wpAny_pure ?_))
    have e2 := b2.extBut
    have q22 : IsPair g2 TO a b := e2 _ _ D.TOi1 (e1 _ _ D.TOz q2)
    (refine wpAny_bind (wpAny_seqItems q22 rfl (wpAny_bind (wpAny_updateSeq_pair q22 fun g3 q23 b3 => ?_))))
    have e3 := b3.extBut
    (refine wpAny_bind (wpAny_letGo (wpAny_pure (wpAny_bind (wpAny_bind (wpAny_onRaise ?_))))))
    (show wpAny _ _ (Builtin.SmallTypes.nextOf (.ref j2) >>= _) _ _ _)
    (refine wpAny_bind (stop2 hh (((c2.ext e1 D.i2z).ext e2 D.i12.symm).ext e3 D.TOi2.symm) (((d2.ext e1 D.l2z).ext e2 D.l2i1).ext e3 D.l2TO) hy fun g4 e e4 h => ?_))
    exact out g4 e (e4 _ _ D.i2z.symm (e3 _ _ D.TOz.symm (e2 _ _ D.i1z.symm q01))) (fun c o n1 n2 n3 n4 x => e4 _ _ n4 (e3 _ _ n2 (e2 _ _ n3 (e1 _ _ n1 x)))) h
theorem pyNext2_item {Q : Option Value → Shared → Prop} (D : ZipApart z TI TO j1 j2 l1 l2) (q0 : IsZip s.heap z TI TO .none) (q1 : IsPair s.heap TI (.ref j1) (.ref j2)) (q2 : IsPair s.heap TO a b) (c1 : It2 k s.heap j1 l1 n) (c2 : It2 k2 s.heap j2 l2 m)
    (d1 : Sq2 k s.heap l1 xs) (d2 : Sq2 k2 s.heap l2 ys) (hx : xs[n]? = some x) (hy : ys[m]? = some y)
    (hQ : ∀ h', IsZip h' z TI TO (rawInt s.heap.objs.size) → IsPair h' TO x y → It2 k h' j1 l1 (n + 1) → It2 k2 h' j2 l2 (m + 1) → IsPair h' s.heap.objs.size x y → Rest s.heap h' z TO j1 j2 → Q (some (.ref s.heap.objs.size)) { s with heap := h' }) :
    wpAny (model P w) A (pyNext (.ref z)) Q E s := by
  have t : s.TypeIs (.ref z) "zip" := ⟨_, q0, rfl⟩
  unfold pyNext
  exact wpAny_bind (wpAny_attempt (wpAny_callSpecial?_slot (name := Str.ofString "__next__") t F.slot_zip_next (wpAny_call_entry F.slot_zip_next t F.entry_zip_next
    (zip2_item D q0 q1 q2 c1 c2 d1 d2 hx hy fun h' a1 a2 a3 a4 a5 a6 => wpAny_pure (hQ h' a1 a2 a3 a4 a5 a6)) (F.args_zip_next_1 _))))
theorem pyNext2_stop {Q : Option Value → Shared → Prop} (hh : A.handled = none) (D : ZipApart z TI TO j1 j2 l1 l2) (q0 : IsZip s.heap z TI TO .none) (q1 : IsPair s.heap TI (.ref j1) (.ref j2)) (q2 : IsPair s.heap TO a b) (c1 : It2 k s.heap j1 l1 n) (c2 : It2 k2 s.heap j2 l2 m)
    (d1 : Sq2 k s.heap l1 xs) (d2 : Sq2 k2 s.heap l2 ys) (he : xs[n]? = none ∨ ys[m]? = none) (hQ : ∀ h', Rest s.heap h' z TO j1 j2 → Q none { s with heap := h' }) : wpAny (model P w) A (pyNext (.ref z)) Q E s := by
  have t : s.TypeIs (.ref z) "zip" := ⟨_, q0, rfl⟩
  unfold pyNext
  refine wpAny_bind (wpAny_attempt (wpAny_callSpecial?_slot (name := Str.ofString "__next__") t F.slot_zip_next (wpAny_call_entry F.slot_zip_next t F.entry_zip_next (zip2_stop hh D q0 q1 q2 c1 c2 d1 d2 he fun h' e r ho => ?_) (F.args_zip_next_1 _))))
  obtain ⟨o, ho, hc⟩ := ho
  exact wpAny_bind (wpAny_isInstance (T := "StopIteration") (b := true) ⟨o, ho, hc⟩ isSubtype_stop (wpAny_pure (hQ _ r)))
end
/-! zip(list, tuple) -/
abbrev zh1 (h : Heap) (l1 : Addr) : Heap := h.push { cls := .type "list_iterator", data := .fields #[.ref l1, .int 0 0] }
abbrev zh2 (h : Heap) (l1 l2 : Addr) : Heap := (zh1 h l1).push { cls := .type "tuple_iterator", data := .fields #[.ref l2, .int 0 0] }
abbrev zh3 (h : Heap) (l1 l2 : Addr) : Heap := (zh2 h l1 l2).push { cls := .type "tuple", data := .seq #[.ref h.objs.size, .ref (zh1 h l1).objs.size] }
abbrev zh4 (h : Heap) (l1 l2 : Addr) : Heap := (zh3 h l1 l2).push { cls := .type "tuple", data := .seq #[.none, .none] }
abbrev zh5 (h : Heap) (l1 l2 : Addr) : Heap := (zh4 h l1 l2).push { cls := .type "zip", data := .fields #[.none, .bool false, .bool false, .ref (zh2 h l1 l2).objs.size, .ref (zh3 h l1 l2).objs.size] }
theorem meets_zlt (l1 l2 : Addr) (xs ys : Array Value) : Meets (Builtin.«zip.__new__» ⟨[.type "zip", .ref l1, .ref l2], []⟩) (fun _ R s => s.heap.IsList l1 xs ∧ s.heap.IsTuple l2 ys ∧ R (.ok (.ret (.ref (zh4 s.heap l1 l2).objs.size))) { s with heap := zh5 s.heap l1 l2 }) :=
  .of_wp fun P w A R s h => by
    obtain  ⟨hp, g, d, tk, os⟩ := s
    obtain ⟨i1, i2, h⟩ := h
    have hsub := sub_zip
    have j1 : Heap.IsList (Shared.heap ⟨hp, g, d, tk, os⟩) l1 xs := i1
    have j2 : Heap.IsTuple (Shared.heap ⟨hp.push { cls := .type "list_iterator", data := .fields #[.ref l1, .int 0 0] }, g, d, tk, os⟩) l2 ys := Heap.IsTuple.push i2 _
    wp_walk using wpAny_pyIter_list j1, wpAny_pyIter_tuple j2
    exact ⟨_, rfl, h⟩
theorem call_zlt {P : Program} {w : World} {A : Around} {E : Value → Shared → Prop} {s : Shared} {l1 l2 : Addr} {xs ys : Array Value} {Q : Value → Shared → Prop} (i1 : s.heap.IsList l1 xs) (i2 : s.heap.IsTuple l2 ys)
    (h : ∀ h', IsZip h' (s.heap.objs.size + 4) (s.heap.objs.size + 2) (s.heap.objs.size + 3) .none → IsPair h' (s.heap.objs.size + 2) (.ref s.heap.objs.size) (.ref (s.heap.objs.size + 1)) → IsPair h' (s.heap.objs.size + 3) .none .none →
      It2 false h' s.heap.objs.size l1 0 → It2 true h' (s.heap.objs.size + 1) l2 0 → (∀ c o, s.heap.get? c = some o → h'.get? c = some o) → Q (.ref (s.heap.objs.size + 4)) { s with heap := h' }) : wpAny (model P w) A (call (.type "zip") [.ref l1, .ref l2]) Q E s := by
  refine callType_new F.called_zip (by decide) (F.typeCall_zip_2 _ _) (F.newCall_zip_2 _ _) (fun o => F.args_object_init_3 o _ _) F.entry_zip_new (meets_zlt l1 l2 xs ys) ⟨i1, i2, ?_⟩
  have n1 : (zh1 s.heap l1).objs.size = s.heap.objs.size + 1 := Heap.size_push ..
  have n2 : (zh2 s.heap l1 l2).objs.size = s.heap.objs.size + 2 := by rw [Heap.size_push, n1]
  have n3 : (zh3 s.heap l1 l2).objs.size = s.heap.objs.size + 3 := by rw [Heap.size_push, n2]
  have n4 : (zh4 s.heap l1 l2).objs.size = s.heap.objs.size + 4 := by rw [Heap.size_push, n3]
  have p0 : ∀ c o, s.heap.get? c = some o → (zh1 s.heap l1).get? c = some o := fun c o x => Heap.get?_push_of_some _ x
  have p1 : ∀ c o, (zh1 s.heap l1).get? c = some o → (zh2 s.heap l1 l2).get? c = some o := fun c o x => Heap.get?_push_of_some _ x
  have p2 : ∀ c o, (zh2 s.heap l1 l2).get? c = some o → (zh3 s.heap l1 l2).get? c = some o := fun c o x => Heap.get?_push_of_some _ x
  have p3 : ∀ c o, (zh3 s.heap l1 l2).get? c = some o → (zh4 s.heap l1 l2).get? c = some o := fun c o x => Heap.get?_push_of_some _ x
  have p4 : ∀ c o, (zh4 s.heap l1 l2).get? c = some o → (zh5 s.heap l1 l2).get? c = some o := fun c o x => Heap.get?_push_of_some _ x
  have g5 : (zh5 s.heap l1 l2).get? (zh4 s.heap l1 l2).objs.size = some _ := Heap.get?_push_size _ rfl
  have g4 : (zh5 s.heap l1 l2).get? (zh3 s.heap l1 l2).objs.size = some _ := p4 _ _ (Heap.get?_push_size _ rfl)
  have g3 : (zh5 s.heap l1 l2).get? (zh2 s.heap l1 l2).objs.size = some _ := p4 _ _ (p3 _ _ (Heap.get?_push_size _ rfl))
  have g2 : (zh5 s.heap l1 l2).get? (zh1 s.heap l1).objs.size = some _ := p4 _ _ (p3 _ _ (p2 _ _ (Heap.get?_push_size _ rfl)))
  have g1 : (zh5 s.heap l1 l2).get? s.heap.objs.size = some _ := p4 _ _ (p3 _ _ (p2 _ _ (p1 _ _ (Heap.get?_push_size _ rfl))))
  show _ ∧ _
  rw [n2, n3, n4] at g5
  rw [n1, n2] at g3
  rw [n3] at g4
  rw [n1] at g2
  rw [n4]
  exact ⟨⟨_, g5, rfl⟩, h _ g5 g3 g4 ⟨_, g1, rfl, rfl⟩ ⟨_, g2, rfl, rfl⟩ fun c o x => p4 _ _ (p3 _ _ (p2 _ _ (p1 _ _ (p0 _ _ x))))⟩
/-- the list at a and the tuple at b as they stand at each turn -/
def ItzM (K : PySem.W.Frag) (a b : Addr) : It :=
  ⟨fun i H => ∃ (xs ys : List V) (x y : V), SqL K H a xs ∧ SqT K H b ys ∧ xs[i]? = some x ∧ ys[i]? = some y,
    fun i H v H' => ∃ p x y, v = .ref p ∧ H p = none ∧ H' = upd H p (.tup [x, y]) ∧ (∀ xs, SqL K H a xs → xs[i]? = some x) ∧ ∀ ys, SqT K H b ys → ys[i]? = some y,
    fun i H => ∃ xs ys : List V, SqL K H a xs ∧ SqT K H b ys ∧ (xs.length ≤ i ∨ ys.length ≤ i)⟩
theorem turn_zipM {P : Program} {w : World} {K : PySem.W.Frag} {elts : List Expr} {kk : Nat} {tpos : Pos} {a b z TI TO j1 j2 : Addr} (D : ZipApart z TI TO j1 j2 a b) :
    Turn P w K (.Tuple elts kk tpos) (ItzM K a b) [z, TI, TO, j1, j2] z (fun i h => IsZip h z TI TO .none ∧ IsPair h TI (.ref j1) (.ref j2) ∧ (∃ x y, IsPair h TO x y) ∧ It2 false h j1 a i ∧ It2 true h j2 b i) where
  mem := List.mem_cons_self
  obj := fun i h st c hc => by
    obtain ⟨q0, q1, ⟨x, y, q2⟩, c1, c2⟩ := st
    obtain ⟨o1, u1, v1⟩ := c1.obj
    obtain ⟨o2, u2, v2⟩ := c2.obj
    simp only [List.mem_cons, List.not_mem_nil, or_false] at hc
    rcases hc with q | q | q | q | q <;> subst q
    · exact ⟨_, q0, fun v q => nomatch q⟩
    · exact ⟨_, q1, fun v q => nomatch q⟩
    · exact ⟨_, q2, fun v q => nomatch q⟩
    · exact ⟨o1, u1, v1⟩
    · exact ⟨o2, u2, v2⟩
  keep := fun i h h' st r => by
    obtain ⟨q0, q1, ⟨x, y, q2⟩, c1, c2⟩ := st
    exact ⟨r z (by simp) _ q0, r TI (by simp) _ q1, ⟨x, y, r TO (by simp) _ q2⟩, c1.stay fun o q => r j1 (by simp) o q, c2.stay fun o q => r j2 (by simp) o q⟩
  item := by
    intro  X hP hw hK hc i pins s σ H E I hf st hg
    subst hP hw hK
    obtain ⟨q0, q1, ⟨x0, y0, q2⟩, c1, c2⟩ := st
    obtain ⟨xs, ys, x, y, sx, sy, hx, hy⟩ := hg
    obtain ⟨us, rv, p, _⟩ := I.list sx
    obtain ⟨ws, rv2, p2, _⟩ := I.tuple sy
    obtain  ⟨u, hu, ru⟩ := rv.get hx
    obtain  ⟨u2, hu2, ru2⟩ := rv2.get hy
    have zl : z < s.heap.objs.size := Heap.lt_size q0
    have fresh := I.hok.fresh (Nat.le_refl s.heap.objs.size)
    refine pyNext2_item (xs := us.toArray) (ys := ws.toArray) D q0 q1 q2 c1 c2 p.isList p2 (x := u) (y := u2) (by simpa using hu) (by simpa using hu2) fun h' z' TO' c1' c2' hT hk => ?_
    refine ⟨_, rfl, wpAny_letOwnedTupleGo_zip (s := { s with heap := h' }) z' fun h2 z2 sb => ?_⟩
    have old : ∀ c o, c ∉ [z, TI, TO, j1, j2] → s.heap.get? c = some o → h2.get? c = some o := fun c o hb q => by
      simp only [List.mem_cons, List.not_mem_nil, or_false, not_or] at hb
      exact (sb.2 c hb.1).trans (hk c o hb.1 hb.2.2.1 hb.2.2.2.1 hb.2.2.2.2 q)
    have hT2 : h2.get? s.heap.objs.size = some { cls := .type "tuple", data := .seq #[u, u2] } := (sb.2 _ (Nat.ne_of_gt zl)).trans hT
    have new : ObjOk X.prog X.w (upd H s.heap.objs.size (.tup [x, y])) h2 s.heap.objs.size (.tup [x, y]) := ⟨by show 2 ≤ sizeLine; decide, [u, u2], .cons ru (.cons ru2 .nil), ⟨_, hT2, rfl, _, rfl⟩⟩
    have I1 : Inv X pins σ (upd H s.heap.objs.size (.tup [x, y])) { s with heap := h2 } := I.turnedNew (t' := s.toks) (ch := [z, TI, TO, j1, j2]) old hf (Nat.le_refl _) new
    refine ⟨.ref s.heap.objs.size, _, I1, rfl, ⟨_, x, y, rfl, fresh, rfl, fun l hl => by rw [I.list_inj hl sx]; exact hx, fun l hl => by rw [I.tuple_inj hl sy]; exact hy⟩, ⟨z2, ?_, ⟨u, u2, ?_⟩, ?_, ?_⟩, fun c hcm => ?_⟩
    · exact (sb.2 _ D.TIz).trans (hk _ _ D.TIz D.TITO D.TIi1 D.TIi2 q1)
    · exact  (sb.2 _ D.TOz).trans TO'
    · exact c1'.stay fun o q => (sb.2 _ D.i1z).trans q
    · exact c2'.stay fun o q => (sb.2 _ D.i2z).trans q
    · have lt : c < s.heap.objs.size := by
        obtain ⟨o1, u1, _⟩ := c1.obj
        obtain ⟨o2, u2, _⟩ := c2.obj
        have hcm2 := hcm
        simp only [List.mem_cons, List.not_mem_nil, or_false] at hcm2
        rcases hcm2 with q | q | q | q | q <;> rw [q]
        · exact zl
        · exact Heap.lt_size q1
        · exact Heap.lt_size q2
        · exact Heap.lt_size u1
        · exact Heap.lt_size u2
      rw [upd_ne (Nat.ne_of_lt lt)]
      exact (hf c hcm).1
  done := by
    intro  X hP hw hK hc i pins s σ H E I hf st hg
    subst hP hw hK
    obtain ⟨q0, q1, ⟨x0, y0, q2⟩, c1, c2⟩ := st
    obtain ⟨xs, ys, sx, sy, he⟩ := hg
    obtain ⟨us, rv, p, _⟩ := I.list sx
    obtain ⟨ws, rv2, p2, _⟩ := I.tuple sy
    have n1 := rv.length
    have n2 := rv2.length
    have he2 : us.toArray[i]? = none ∨ ws.toArray[i]? = none := he.imp (fun q => by simp; omega) fun q => by simp; omega
    refine pyNext2_stop (I.ok.hd hc) D q0 q1 q2 c1 c2 p.isList p2 he2 fun h' hk => ⟨rfl, I.turnedL (t' := s.toks) (ch := [z, TI, TO, j1, j2]) (fun c o hb q => ?_) hf⟩
    simp only [List.mem_cons, List.not_mem_nil, or_false, not_or] at hb
    exact hk c o hb.1 hb.2.2.1 hb.2.2.2.1 hb.2.2.2.2 q
  self  := fun A i s Q E st h => wpAny_pyIter_zip st.1 h
def iZipM (K : PySem.W.Frag) (ta : TA) : TI := fun σ H R => ta σ H fun vs H1 => ∃ a b xs ys, vs = [.ref a, .ref b] ∧ SqL K H1 a xs ∧ SqT K H1 b ys ∧ R (ItzM K a b) H1
theorem pi_zipM {X : Cx} {e e2 : Expr} {ta : TA} {p pos tpos : Pos} {elts : List Expr} {kk : Nat} (hg : Gl X "zip") (hm : X.mg "zip" = none) (ha : PA X [e, e2] ta)
    (hs : starEach [e, e2] X.env = (false, eval e X.env) :: starEach [e2] X.env := by rfl) (hpl : (backTo pos (starEach [e2] X.env)).any (·.1) = false := by rfl) : PI X (.Tuple elts kk tpos) (.Call (.Name "zip" p) [e, e2] [] pos) (iZipM X.K ta) := by
  refine ⟨fun pins s σ H R I h => Call_ (ld_blt I hg hm PyProof.Rows.boot_zip (PyProof.Rows.callWith_type1 (thn (ha.run pos pins s σ H _ I h) fun us s1 ⟨vs, H1, I1, r1, q1⟩ => ?_) hs hpl))⟩
  obtain ⟨a, b, xs, ys, rfl, sx, sy, q⟩ := q1
  cases r1 with
  | cons r rr =>
    cases rr with
    | cons r' rr =>
      cases rr
      cases r
      cases r'
      obtain ⟨us, rv, p1, _⟩ := I1.list sx
      obtain ⟨ws, rv2, p2, _⟩ := I1.tuple sy
      obtain ⟨o2, ho2, _⟩ := id p2
      refine call_zlt p1.isList (show s1.heap.IsTuple b ws.toArray from p2) fun h' q0 q1 q2 c1 c2 hk => wpAny_pyIter_zip q0 ?_
      have  I2 : Inv X pins σ H1 { s1 with heap := h' } := I1.kept (t' := s1.toks) hk
      refine ⟨s1.heap.objs.size + 4, [s1.heap.objs.size + 4, s1.heap.objs.size + 2, s1.heap.objs.size + 3, s1.heap.objs.size, s1.heap.objs.size + 1], _, _, H1, rfl, I2, turn_zipM (PySem.W.ktu_apart s1.heap.objs.size a b p1.lt (Heap.lt_size ho2)), ⟨q0, q1, ⟨_, _, q2⟩, c1, c2⟩, fun c hcm => ?_, q⟩
      have le : s1.heap.objs.size ≤ c := by
        simp only [List.mem_cons, List.not_mem_nil, or_false] at hcm
        rcases hcm with q | q | q | q | q <;> rw [q] <;> first | exact Nat.le_refl _ | exact Nat.le_add_right _ _
      exact I1.fpOk le (I1.hok.fresh le)
end Md
/-! Mv14 -/
namespace Mi
open L2 PySem PySem.Spec PyProof.Rows RZ Md
/-! ### zip of a list and a tuple -/
def zipItM (d : D) (us : List T) (n : Nat) : ItM := ⟨fun st i => (lsq st d).bind fun ds => zipAt ds (us.map .t) i, n⟩
theorem JOk.zipM {K : PySem.W.Frag} {W : Wd} {H : Hp} {st : Sto} {d : D} {us : List T} {a b : Addr} {n : Nat} (R : Rl K W st H) (r1 : RelD K W H d (.ref a)) (r2 : RelD K W H (.t (.tup us)) (.ref b)) : JOk K (ItzM K a b) (zipItM d us n) W H := by
  intro W' H' st' i E' R'
  obtain ⟨b2, ws, z2, q2, rr2⟩ := E'.relD R r2
  cases z2
  have rd2 := relDs_t (K := K) (W := W') rr2
  have get : ∀ o, (zipItM d us n).nth st' i = some o → ∃ ds vs, zipAt ds (us.map .t) i = some o ∧ SqL K H' a vs ∧ RelDs K W' H' ds vs := fun o h => by
    have h : (lsq st' d).bind (fun ds => zipAt ds (us.map .t) i) = some o := h
    cases q1 : lsq st' d with
    | none => (rw [q1] at h; cases h)
    | some ds =>
      rw [q1] at h
      obtain ⟨a', vs, e1, s1, rr1⟩ := lsq_rel R' q1 (E'.relD R r1)
      cases e1
      exact ⟨ds, vs, h, s1, rr1⟩
  refine ⟨fun h => ?_, fun dd h => ?_⟩
  · obtain ⟨ds, vs, h, s1, rr1⟩ := get _ h
    exact ⟨vs, ws, s1, q2.sq, by rw [relDs_len rr1, relDs_len rd2]; exact zipAt_none h⟩
  · obtain ⟨ds, vs, h, s1, rr1⟩ := get _ h
    obtain ⟨x, y, c1, c2, rfl⟩ := zipAt_some h
    obtain ⟨v, e3, rv⟩ := relDs_get rr1 c1
    obtain ⟨u, e4, ru⟩ := relDs_get rd2 c2
    refine ⟨⟨vs, ws, v, u, s1, q2.sq, e3, e4⟩, fun z H2 hy => ?_⟩
    obtain ⟨p, v', u', rfl, hp, rfl, k1, k2⟩ := hy
    obtain rfl : v = v' := Option.some.inj (e3.symm.trans (k1 vs s1))
    obtain rfl : u = u' := Option.some.inj (e4.symm.trans (k2 ws q2.sq))
    have E2 : Ext W' H' W' (upd H' p (.tup [v, u])) := R'.more hp
    exact ⟨W', E2, R'.rest hp, p, [v, u], rfl, Or.inl upd_same, v, [u], rfl, E2.relT R' _ _ rv, u, [], rfl, E2.relT R' _ _ ru, rfl⟩
def zipOfM (fs : List (Env → Sto → Res D)) (env : Env) (st : Sto) : Res ItM := (argsM fs env st).bind fun ds s => match ds with
  | [d, .t (.tup us)] => optR ((lsq s d).map fun xs => zipItM d us xs.length) s
  | _ => .bad
section
variable {X : Cx} {Wx : WX} {a b : Expr} {pos p tpos : Pos}
theorem ri_zipM {elts : List Expr} {kk : Nat} {fs : List (Env → Sto → Res D)} (hg : Gl X "zip") (hm : X.mg "zip" = none) (ha : RA X Wx [a, b] (argsM fs))
    (hs : starEach [a, b] X.env = (false, eval a X.env) :: starEach [b] X.env := by rfl) (hpl : (backTo pos (starEach [b] X.env)).any (·.1) = false := by rfl) : RI X Wx (.Tuple elts kk tpos) (.Call (.Name "zip" p) [a, b] [] pos) (zipOfM fs) := by
  refine PI.conv (pi_zipM hg hm ha hs hpl) fun σ H Q ⟨W, env, st, R, Ev, h⟩ => ⟨W, env, st, R, Ev, split h (fun ds s h1 W1 H1 vs E1 R1 r1 => ?_) fun C fs st' hx => hx⟩
  split at h1
  · rename_i d us
    obtain ⟨it, e1, q⟩ := optR_holds h1
    obtain ⟨v, w, rfl, rd, re⟩ := rel2 r1
    cases z1 : lsq s d with
    | none => (rw [z1] at e1; cases e1)
    | some xs =>
      rw [z1] at e1
      cases e1
      obtain ⟨b1, vs2, rfl, s2, rr2⟩ := id re
      obtain ⟨a1, vs1, rfl, s1, rr1⟩ := lsq_rel R1 z1 rd
      exact ⟨a1, b1, vs1, vs2, rfl, s1, s2.sq, q W1 H1 _ E1 R1 (.zipM R1 rd re)⟩
  · exact h1.elim
end
end Mi
/-! Tx -/
namespace Mi
open PySem PySem.Spec PyProof.Rows L2 RZ StrLaws Builtin.Str
/-! ### lists of codes, cut at a sign -/
def sp (c : Nat) : List Nat → List (List Nat)
  | [] => [[]]
  | x :: r => if x = c then [] :: sp c r else match sp c r with
    | [] => [[x]]
    | p :: ps => (x :: p) :: ps
theorem sp_ne (c : Nat) : ∀ l : List Nat, ∃ p ps, sp c l = p :: ps
  | [] => ⟨_, _, rfl⟩
  | x :: r => by
    unfold sp
    split
    · exact ⟨_, _, rfl⟩
    · obtain ⟨p, ps, e⟩ := sp_ne c r
      rw [e]
      exact ⟨_, _, rfl⟩
theorem sp_free {c : Nat} : ∀ {w : List Nat}, c ∉ w → sp c w = [w]
  | [], _ => rfl
  | x :: r, h => by
    have h1 : ¬ x = c := fun e => h (by rw [e]; exact List.mem_cons_self)
    have h2 := sp_free (w := r) fun e => h (List.mem_cons_of_mem _ e)
    unfold sp
    rw [if_neg h1, h2]
theorem sp_cut (c : Nat) : ∀ u r : List Nat, sp c (u ++ c :: r) = sp c u ++ sp c r
  | [], r => by
    show sp c (c :: r) = _
    simp [sp]
  | x :: u, r => by
    have ih := sp_cut c u r
    show sp c (x :: (u ++ c :: r)) = _
    obtain ⟨p, ps, e⟩ := sp_ne c u
    rw [sp, ih, sp, e]
    by_cases hx : x = c
    · rw [if_pos hx, if_pos hx]
      rfl
    · rw [if_neg hx, if_neg hx]
      rfl
theorem cat_l (a b : Str) : (a ++ b).cps.toList = a.cps.toList ++ b.cps.toList := by
  show (a.cps ++ b.cps).toList = _
  rw [Array.toList_append]
theorem sp_join (c : Nat) : ∀ ps : List Str, ps ≠ [] → (∀ p ∈ ps, c ∉ p.cps.toList) → sp c (Str.join ⟨#[c]⟩ ps).cps.toList = ps.map (·.cps.toList)
  | [], h, _ => absurd rfl h
  | [p], _, h => sp_free (h p List.mem_cons_self)
  | p :: q :: r, _, h => by
    show sp c (p ++ ⟨#[c]⟩ ++ Str.join ⟨#[c]⟩ (q :: r)).cps.toList = _
    rw [cat_l, cat_l, List.append_assoc]
    show sp c (p.cps.toList ++ c :: (Str.join ⟨#[c]⟩ (q :: r)).cps.toList) = _
    rw [sp_cut, sp_free (h p List.mem_cons_self), sp_join c (q :: r) (by simp) fun z hz => h z (List.mem_cons_of_mem _ hz)]
    rfl
theorem split_ne (x y : Str) : Txt.split x y ≠ [] := by
  unfold Txt.split
  split
  · simp
  · split
    · simp
    · intro e
      have l := length_partsBetween x (Builtin.Str.occurrences x y 0 x.length (x.length + 1)) y.length
      rw [e] at l
      simp at l
theorem split_sp (x : Str) (c : Nat) : (Txt.split x ⟨#[c]⟩).map (·.cps.toList) = sp c x.cps.toList := by
  rw [← sp_join c _ (split_ne x _) (split_free x c), join_split]
/-! ### words that stand between two quotes -/
inductive Hw (w : List Nat) : List Nat → Nat → Prop where
  | z (l : List Nat) : Hw w l 0
  | s (u r : List Nat) (k : Nat) (h : Hw w r k) : Hw w (u ++ 39 :: (w ++ 39 :: r)) (k + 1)
theorem Hw.pre {w : List Nat} (a : List Nat) {b : List Nat} {m : Nat} (h : Hw w b m) : Hw w (a ++ b) m := by
  cases h with
  | z => exact .z _
  | s u r k h =>
    rw [← List.append_assoc]
    exact .s _ _ _ h
theorem Hw.app {w : List Nat} {a b : List Nat} {k m : Nat} (h : Hw w a k) (g : Hw w b m) : Hw w (a ++ b) (k + m) := by
  induction h with
  | z l => rw [Nat.zero_add]; exact g.pre l
  | s u r k h ih =>
    have e : (u ++ 39 :: (w ++ 39 :: r)) ++ b = u ++ 39 :: (w ++ 39 :: (r ++ b)) := by simp
    rw [e, show k + 1 + m = (k + m) + 1 by omega]
    exact .s _ _ _ ih
theorem Hw.count {w : List Nat} (hw : 39 ∉ w) {l : List Nat} {k : Nat} (h : Hw w l k) : k ≤ (sp 39 l).countP (fun p => decide (p = w)) := by
  induction h with
  | z l => exact Nat.zero_le _
  | s u r k h ih =>
    rw [sp_cut, sp_cut, sp_free hw, List.countP_append, List.countP_append, List.countP_cons, List.countP_nil, decide_eq_true rfl, if_pos rfl]
    omega
theorem Hw.le {w l : List Nat} {k m : Nat} (h : Hw w l k) (e : m = k) : Hw w l m := e ▸ h
/-! ### brackets before a quote -/
inductive Hq : List Nat → Nat → Prop where
  | z (l : List Nat) : Hq l 0
  | s (u r : List Nat) (k : Nat) (h : Hq r k) : Hq (u ++ 40 :: 39 :: r) (k + 1)
theorem Hq.pre (a : List Nat) {b : List Nat} {m : Nat} (h : Hq b m) : Hq (a ++ b) m := by
  cases h with
  | z => exact .z _
  | s u r k h =>
    rw [← List.append_assoc]
    exact .s _ _ _ h
theorem Hq.app {a b : List Nat} {k m : Nat} (h : Hq a k) (g : Hq b m) : Hq (a ++ b) (k + m) := by
  induction h with
  | z l => rw [Nat.zero_add]; exact g.pre l
  | s u r k h ih =>
    have e : (u ++ 40 :: 39 :: r) ++ b = u ++ 40 :: 39 :: (r ++ b) := by simp
    rw [e, show k + 1 + m = (k + m) + 1 by omega]
    exact .s _ _ _ ih
def cq : List Nat → Nat
  | [] => 0
  | x :: r => (if x = 40 ∧ r.head? = some 39 then 1 else 0) + cq r
theorem cq_pre : ∀ u r : List Nat, cq r ≤ cq (u ++ r)
  | [], r => Nat.le_refl _
  | x :: u, r => by
    have := cq_pre u r
    show _ ≤ (if x = 40 ∧ (u ++ r).head? = some 39 then 1 else 0) + cq (u ++ r)
    omega
theorem Hq.count {l : List Nat} {k : Nat} (h : Hq l k) : k ≤ cq l := by
  induction h with
  | z l => exact Nat.zero_le _
  | s u r k h ih =>
    refine Nat.le_trans ?_ (cq_pre u _)
    show k + 1 ≤ (if (40 : Nat) = 40 ∧ (39 :: r).head? = some 39 then 1 else 0) + ((if (39 : Nat) = 40 ∧ r.head? = some 39 then 1 else 0) + cq r)
    rw [if_pos ⟨rfl, rfl⟩]
    omega
def yq : Str := ⟨#[40, 39]⟩
theorem at_q (x : Str) (k : Nat) : At x yq x.length k ↔ x.cps.toList[k]? = some 40 ∧ x.cps.toList[k + 1]? = some 39 := by
  unfold At
  rw [subAt_eq]
  have hl : x.cps.toList.length = x.length := by simp [Str.length]
  show k + 2 ≤ x.length ∧ ((x.cps.toList.drop k).take 2 == [40, 39]) = true ↔ _
  generalize x.cps.toList = L at hl
  rw [beq_iff_eq]
  constructor
  · rintro ⟨h1, h2⟩
    have e : ∀ i, i < 2 → L[k + i]? = ([40, 39] : List Nat)[i]? := fun i hi => by
      rw [← h2, List.getElem?_take_of_lt hi, List.getElem?_drop]
    exact ⟨e 0 (by decide), e 1 (by decide)⟩
  · rintro ⟨h1, h2⟩
    have l2 := (List.getElem?_eq_some_iff.mp h2).1
    refine ⟨by omega, List.ext_getElem? fun i => ?_⟩
    match i with
    | 0 => rw [List.getElem?_take_of_lt (by decide), List.getElem?_drop]; exact h1
    | 1 => rw [List.getElem?_take_of_lt (by decide), List.getElem?_drop]; exact h2
    | i + 2 => rw [List.getElem?_eq_none (by rw [List.length_take]; omega)]; rfl
theorem cq_no {L : List Nat} {a : Nat} (h : ¬ (L[a]? = some 40 ∧ L[a + 1]? = some 39)) : cq (L.drop a) = cq (L.drop (a + 1)) := by
  by_cases hl : a < L.length
  · rw [List.drop_eq_getElem_cons hl]
    show (if L[a] = 40 ∧ (L.drop (a + 1)).head? = some 39 then 1 else 0) + cq (L.drop (a + 1)) = _
    rw [if_neg, Nat.zero_add]
    rintro ⟨h1, h2⟩
    refine h ⟨by rw [List.getElem?_eq_getElem hl, h1], ?_⟩
    rw [List.head?_drop] at h2
    exact h2
  · rw [List.drop_eq_nil_of_le (by omega), List.drop_eq_nil_of_le (by omega)]
theorem cq_skip {x : Str} {a : Nat} : ∀ (n : Nat), (∀ k, a ≤ k → k < a + n → ¬ At x yq x.length k) → cq (x.cps.toList.drop a) = cq (x.cps.toList.drop (a + n))
  | 0, _ => rfl
  | n + 1, h => by
    rw [cq_skip n fun k h1 h2 => h k h1 (by omega)]
    exact cq_no (a := a + n) (fun z => h (a + n) (by omega) (by omega) ((at_q x _).mpr z))
theorem cq_at {x : Str} {c : Nat} (h : At x yq x.length c) : cq (x.cps.toList.drop c) = 1 + cq (x.cps.toList.drop (c + 2)) := by
  obtain ⟨h1, h2⟩ := (at_q x c).mp h
  obtain ⟨l1, e1⟩ := List.getElem?_eq_some_iff.mp h1
  rw [List.drop_eq_getElem_cons l1]
  show (if x.cps.toList[c] = 40 ∧ (x.cps.toList.drop (c + 1)).head? = some 39 then 1 else 0) + cq (x.cps.toList.drop (c + 1)) = _
  rw [if_pos ⟨e1, by rw [List.head?_drop]; exact h2⟩, cq_no (a := c + 1)]
  rintro ⟨z, _⟩
  rw [h2] at z
  cases z
theorem cq_none {x : Str} {a : Nat} (h : ∀ k, a ≤ k → ¬ At x yq x.length k) : cq (x.cps.toList.drop a) = 0 := by
  rw [cq_skip (a := a) x.length fun k h1 _ => h k h1, List.drop_eq_nil_of_le (by simp [Str.length])]
  rfl
theorem cq_chain {x : Str} : ∀ (cuts : List Nat) (a f : Nat), ChainG x yq x.length a cuts f → (∀ k, f ≤ k → ¬ At x yq x.length k) → cq (x.cps.toList.drop a) ≤ cuts.length
  | [], a, f, h, hn => by
    have e : f = a := h
    subst e
    rw [cq_none hn]
    exact Nat.le_refl _
  | c :: r, a, f, h, hn => by
    have e := cq_skip (x := x) (a := a) (c - a) fun k h1 h2 => h.2.2.1 k h1 (by have := h.1; omega)
    rw [show a + (c - a) = c by have := h.1; omega] at e
    rw [e, cq_at h.2.1, List.length_cons]
    have := cq_chain r _ f h.2.2.2 hn
    have l : yq.length = 2 := rfl
    rw [l] at this
    omega
theorem split_q {x : Str} {k : Nat} (h : Hq x.cps.toList k) : k + 1 ≤ (Txt.split x yq).length := by
  obtain ⟨f, hG, hn⟩ := occ_tight x yq (by decide)
  have b := cq_chain _ 0 f hG hn
  rw [List.drop_zero] at b
  have c := h.count
  unfold Txt.split
  split
  · rename_i hc
    (rw [Bool.or_eq_true, decide_eq_true_eq, decide_eq_true_eq] at hc)
    have hx : x.length < 2 := by
      rcases hc with h | h
      · exact h
      · exfalso
        have e : Builtin.Str.strKind yq = 1 := by decide +kernel
        rw [e] at h
        unfold Builtin.Str.strKind at h
        split at h
        · omega
        · split at h <;> omega
    cases e : Builtin.Str.occurrences x yq 0 x.length (x.length + 1) with
    | nil =>
      rw [e] at b
      show k + 1 ≤ 1
      simp at b
      omega
    | cons a r =>
      rw [e] at hG
      have := hG.2.1.1
      have l : yq.length = 2 := rfl
      omega
  · split
    · rename_i he
      rw [List.isEmpty_iff.mp he] at b
      show k + 1 ≤ 1
      simp at b
      omega
    · rw [length_partsBetween]
      omega
end Mi
/-! Tq -/
namespace Mi
open PySem PySem.Spec PyProof.Rows L2 RZ StrLaws
/-! ### trees of tuples, small numbers and words, and how they are shown -/
def okS (w : Str) : Bool := decide ((reprText w).cps.toList = 39 :: (w.cps.toList ++ [39])) && (w.cps.toList.all fun c => decide (c < 128) && !decide (c = 39))
mutual
def tq : Nat → T → Bool
  | _, .int i => decide (0 ≤ i) && decide (i < 100)
  | _, .str x => okS x
  | n + 1, .tup ts => tqs n ts
  | _, _ => false
def tqs : Nat → List T → Bool
  | _, [] => true
  | n, t :: r => tq n t && tqs n r
end
mutual
def wt : T → Nat
  | .str x => x.cps.size
  | .int _ => 7
  | .tup ts => wts ts
  | _ => 0
def wts : List T → Nat
  | [] => 0
  | t :: r => wt t + 1 + wts r
end
def hd1 : List T → Nat
  | .str _ :: _ => 1
  | _ => 0
def hdW (w : Str) : List T → Nat
  | .str u :: _ => if u = w then 1 else 0
  | _ => 0
mutual
/-- how many tuples begin with a word; with this word -/
def nS : T → Nat
  | .tup ts => hd1 ts + nSs ts
  | _ => 0
def nSs : List T → Nat
  | [] => 0
  | t :: r => nS t + nSs r
end
mutual
def nW (w : Str) : T → Nat
  | .tup ts => hdW w ts + nWs w ts
  | _ => 0
def nWs (w : Str) : List T → Nat
  | [] => 0
  | t :: r => nW w t + nWs w r
end
def cl (x : Str) : List Nat := x.cps.toList
theorem tqs_mem : ∀ {n : Nat} {ts : List T}, tqs n ts = true → ∀ t ∈ ts, tq n t = true
  | n, t :: r, h, x, hx => by
    unfold tqs at h
    rw [Bool.and_eq_true] at h
    rcases List.mem_cons.mp hx with e | e
    · rw [e]; exact h.1
    · exact tqs_mem h.2 x e
theorem tqs_of : ∀ {n : Nat} {ts : List T}, (∀ t ∈ ts, tq n t = true) → tqs n ts = true
  | n, [], _ => by unfold tqs; rfl
  | n, t :: r, h => by
    unfold tqs
    rw [h t List.mem_cons_self, tqs_of fun x hx => h x (List.mem_cons_of_mem _ hx)]
    rfl
theorem int_len : ∀ i : Fin 100, (PyData.shown (.int (i : Nat))).length ≤ 8 ∧ PyData.showable (.int (i : Nat)) = true ∧ PyData.weight (.int (i : Nat)) ≤ 7 := by decide +kernel
/-- what is known of a shown tree -/
structure TF (n : Nat) (t : T) (p : PyData) : Prop where
  py : pyT t = some p
  sh : p.showable = true
  nd : p.hasDict = false
  dp : p.depth ≤ n
  lf : p.leavesShort 8 = true
  w : p.weight ≤ wt t
  q : Hq (cl p.shown) (nS t)
  qw : ∀ w : Str, Hw (cl w) (cl p.shown) (nW w t)
  hs : ∀ u, t = .str u → cl p.shown = 39 :: (cl u ++ [39])
structure TFs (n : Nat) (ts : List T) (ps : List PyData) : Prop where
  py : pyTs ts = some ps
  sh : PyData.showableAll ps = true
  nd : PyData.hasDictAll ps = false
  dp : PyData.depthAll ps ≤ n
  lf : PyData.leavesShortAll 8 ps = true
  w : PyData.weightAll ps ≤ wts ts
  q : Hq (cl (Str.join ", " (PyData.shownAll ps))) (nSs ts)
  qw : ∀ w : Str, Hw (cl w) (cl (Str.join ", " (PyData.shownAll ps))) (nWs w ts)
  hs : ∀ u r, ts = .str u :: r → ∃ z, cl (Str.join ", " (PyData.shownAll ps)) = 39 :: (cl u ++ 39 :: z) ∧ Hq z (nSs r) ∧ ∀ w : Str, Hw (cl w) z (nWs w r)
theorem clcat (a b : Str) : cl (a ++ b) = cl a ++ cl b := cat_l a b
theorem tq_int {i : Int} {n : Nat} (h : tq n (.int i) = true) : ∃ k : Fin 100, i = ((k : Nat) : Int) := by
  unfold tq at h
  (rw [Bool.and_eq_true, decide_eq_true_eq, decide_eq_true_eq] at h)
  exact ⟨⟨i.toNat, by omega⟩, by show i = ((i.toNat : Nat) : Int); omega⟩
mutual
theorem tq_py : ∀ (n : Nat) (t : T), tq n t = true → ∃ p, TF n t p
  | n, .int i, h => by
    obtain ⟨k, rfl⟩ := tq_int h
    obtain ⟨h1, h2, h3⟩ := int_len k
    refine ⟨.int ((k : Nat) : Int), rfl, h2, by simp only [PyData.hasDict], Nat.zero_le _, ?_, h3, .z _, fun _ => .z _, fun u e => by cases e⟩
    simp only [PyData.leavesShort, decide_eq_true_eq]
    exact h1
  | n, .str x, h => by
    unfold tq okS at h
    (rw [Bool.and_eq_true, decide_eq_true_eq] at h)
    obtain ⟨h1, h2⟩ := h
    refine ⟨.str x, rfl, by simp only [PyData.showable], by simp only [PyData.hasDict], Nat.zero_le _, ?_, ?_, .z _, fun _ => .z _, fun u e => ?_⟩
    · simp only [PyData.leavesShort]
      rw [List.all_eq_true] at h2 ⊢
      intro c hc
      have := h2 c hc
      rw [Bool.and_eq_true, decide_eq_true_eq] at this
      exact (decide_eq_true (by omega))
    · simp only [PyData.weight]
      exact Nat.le_refl _
    · cases e
      show (PyData.shown (.str x)).cps.toList = _
      simp only [PyData.shown]
      exact h1
  | n + 1, .tup ts, h => by
    unfold tq at h
    obtain ⟨ps, F⟩ := tqs_py n ts h
    have sh : cl (PyData.shown (.tuple ps)) = 40 :: (cl (Str.join ", " (PyData.shownAll ps)) ++ cl (if (PyData.shownAll ps).length == 1 then ",)" else ")" : String)) := by
      simp only [PyData.shown, tupleText, clcat]
      rfl
    refine ⟨.tuple ps, ?_, ?_, ?_, ?_, ?_, ?_, ?_, fun w => ?_, fun u e => by cases e⟩
    · show (pyTs ts).map PyData.tuple = _
      rw [F.py]; rfl
    · simp only [PyData.showable]; exact F.sh
    · simp only [PyData.hasDict]; exact F.nd
    · exact Nat.succ_le_succ F.dp
    · simp only [PyData.leavesShort]; exact F.lf
    · simp only [PyData.weight]; exact F.w
    · rw [sh]
      generalize cl (if (PyData.shownAll ps).length == 1 then ",)" else ")" : String) = tl
      have g : Hq (40 :: (cl (Str.join ", " (PyData.shownAll ps)) ++ tl)) (nSs ts) := (F.q.app (.z tl)).pre [40]
      cases ts with
      | nil => exact g
      | cons a r =>
        cases a with
        | str u =>
          obtain ⟨z, e, hq, _⟩ := F.hs u r rfl
          rw [e]
          have e2 : 40 :: (39 :: (cl u ++ 39 :: z) ++ tl) = [] ++ 40 :: 39 :: ((cl u ++ [39]) ++ (z ++ tl)) := by simp
          rw [e2]
          show Hq _ (1 + (0 + nSs r))
          rw [Nat.zero_add, Nat.add_comm]
          exact .s _ _ _ (Hq.pre _ (hq.app (.z tl)))
        | _ => exact (by show Hq _ (0 + _); rw [Nat.zero_add]; exact g)
    · rw [sh]
      generalize cl (if (PyData.shownAll ps).length == 1 then ",)" else ")" : String) = tl
      have g : Hw (cl w) (40 :: (cl (Str.join ", " (PyData.shownAll ps)) ++ tl)) (nWs w ts) := ((F.qw w).app (.z tl)).pre [40]
      cases ts with
      | nil => exact g
      | cons a r =>
        cases a with
        | str u =>
          by_cases hu : u = w
          · subst hu
            obtain ⟨z, e, _, hw⟩ := F.hs u r rfl
            rw [e]
            have e2 : 40 :: (39 :: (cl u ++ 39 :: z) ++ tl) = [40] ++ 39 :: (cl u ++ 39 :: (z ++ tl)) := by simp
            rw [e2]
            show Hw _ _ ((if u = u then 1 else 0) + (0 + nWs u r))
            rw [if_pos rfl, Nat.zero_add, Nat.add_comm]
            exact .s _ _ _ ((hw u).app (.z tl))
          · show Hw _ _ ((if u = w then 1 else 0) + _)
            rw [if_neg hu, Nat.zero_add]
            exact g
        | _ => exact (by show Hw _ _ (0 + _); rw [Nat.zero_add]; exact g)
  | 0, .tup ts, h => by simp [tq] at h
  | n, .non, h => by cases n <;> simp [tq] at h
  | n, .bl _, h => by cases n <;> simp [tq] at h
  | n, .lst _, h => by cases n <;> simp [tq] at h
  | n, .scr _, h => by cases n <;> simp [tq] at h
  | n, .glb _, h => by cases n <;> simp [tq] at h
  | n, .ty _, h => by cases n <;> simp [tq] at h
theorem tqs_py : ∀ (n : Nat) (ts : List T), tqs n ts = true → ∃ ps, TFs n ts ps
  | n, [], _ => ⟨[], rfl, by simp only [PyData.showableAll], by simp only [PyData.hasDictAll], Nat.zero_le _, by simp only [PyData.leavesShortAll], by simp only [PyData.weightAll]; exact Nat.zero_le _, .z _, fun _ => .z _, fun u r e => by cases e⟩
  | n, t :: r, h => by
    unfold tqs at h
    rw [Bool.and_eq_true] at h
    obtain ⟨p, F⟩ := tq_py n t h.1
    obtain ⟨ps, G⟩ := tqs_py n r h.2
    have jn : ∃ s, cl (Str.join ", " (PyData.shownAll (p :: ps))) = cl p.shown ++ (s ++ (if ps.length = 0 then [] else cl (Str.join ", " (PyData.shownAll ps)))) ∧ (ps.length = 0 → r = []) := by
      cases ps with
      | nil =>
        refine ⟨[], ?_, fun _ => ?_⟩
        · simp only [PyData.shownAll, Str.join, List.length_nil, if_true, List.append_nil]
        · cases r with
          | nil => rfl
          | cons a b =>
            exfalso
            have e := G.py
            simp only [pyTs] at e
            cases q : pyT a with
            | none => (rw [q] at e; cases e)
            | some x =>
              rw [q] at e
              cases q2 : pyTs b with
              | none => rw [q2] at e; cases e
              | some y => rw [q2] at e; cases e
      | cons a b =>
        refine ⟨cl ", ", ?_, fun e => by simp at e⟩
        simp only [PyData.shownAll, Str.join, List.length_cons]
        rw [clcat, clcat, List.append_assoc]
        rfl
    obtain ⟨s, ej, hnil⟩ := jn
    have gq : Hq (s ++ (if ps.length = 0 then [] else cl (Str.join ", " (PyData.shownAll ps)))) (nSs r) := by
      by_cases c : ps.length = 0
      · rw [hnil c]; exact .z _
      · rw [if_neg c]; exact G.q.pre s
    have gw : ∀ w : Str, Hw (cl w) (s ++ (if ps.length = 0 then [] else cl (Str.join ", " (PyData.shownAll ps)))) (nWs w r) := fun w => by
      by_cases c : ps.length = 0
      · rw [hnil c]; exact .z _
      · rw [if_neg c]; exact (G.qw w).pre s
    refine ⟨p :: ps, ?_, ?_, ?_, ?_, ?_, ?_, ?_, fun w => ?_, fun u r' e => ?_⟩
    · show (pyT t).bind (fun p => (pyTs r).map (p :: ·)) = _
      rw [F.py, G.py]; rfl
    · simp only [PyData.showableAll, F.sh, G.sh, Bool.and_self]
    · simp only [PyData.hasDictAll, F.nd, G.nd, Bool.or_self]
    · simp only [PyData.depthAll]
      exact Nat.max_le.mpr ⟨F.dp, G.dp⟩
    · simp only [PyData.leavesShortAll, F.lf, G.lf, Bool.and_self]
    · simp only [PyData.weightAll, wts]
      have := F.w
      have := G.w
      omega
    · rw [ej]
      exact F.q.app gq
    · rw [ej]
      exact (F.qw w).app (gw w)
    · cases e
      rw [ej, F.hs u rfl]
      exact ⟨_, by simp, gq, gw⟩
end
theorem str_tree {n : Nat} {ts : List T} (h : tq n (.tup ts) = true) (hn : n ≤ 60) (hw : 10 * wts ts + 8 ≤ LIM) (st : Sto) :
    ∃ s : Str, strB [.t (.tup ts)] st = some (.t (.str s)) ∧ s.length ≤ 10 * wts ts + 8 ∧ Hq (cl s) (nS (.tup ts)) ∧ ∀ w : Str, Hw (cl w) (cl s) (nW w (.tup ts)) := by
  obtain ⟨p, F⟩ := tq_py n _ h
  have l := PyData.shown_le 8 (Nat.le_refl _) p F.lf
  have w := F.w
  have w2 : p.weight ≤ wts ts := by unfold wt at w; exact w
  have hl : p.shown.length ≤ 10 * wts ts + 8 := by omega
  refine ⟨p.shown, ?_, hl, F.q, F.qw⟩
  show (pyT (.tup ts)).bind showB = _
  rw [F.py]
  show (if p.showable = true ∧ p.hasDict = false ∧ p.depth ≤ 60 ∧ p.shown.length ≤ LIM then some (sD p.shown) else none) = _
  rw [if_pos ⟨F.sh, F.nd, Nat.le_trans F.dp hn, Nat.le_trans hl hw⟩]
  rfl
/-- the words of a shown tree -/
theorem words_len {s : Str} {k : Nat} (h : Hq (cl s) k) : k + 1 ≤ (Txt.split s "('").length := by
  have e : (Str.ofString "('") = yq := by decide +kernel
  rw [e]
  exact split_q h
theorem words_cnt {s w : Str} {k : Nat} (hw : 39 ∉ cl w) (h : Hw (cl w) (cl s) k) : k ≤ (Txt.split s "'").countP (fun p => decide (p = w)) := by
  have e : (Str.ofString "'") = ⟨#[39]⟩ := by decide +kernel
  rw [e]
  have c := h.count hw
  unfold cl at c
  rw [← split_sp, List.countP_map] at c
  refine Nat.le_trans c (Nat.le_of_eq ?_)
  congr 1
  funext p
  show decide (p.cps.toList = w.cps.toList) = decide (p = w)
  by_cases q : p = w
  · rw [decide_eq_true q, q, decide_eq_true rfl]
  · rw [decide_eq_false q, decide_eq_false]
    intro z
    exact q (by
      cases p; cases w
      simp only [Str.mk.injEq]
      exact Array.toList_inj.mp z)
end Mi
/-! Okc -/
namespace Mi
open PySem PySem.Spec PyProof.Rows L2 RZ
/-! ### what is known of a result -/
def Res.Is {α : Type} (r : Res α) (A : α → Sto → Prop) : Prop := match r with
  | .ok a s => A a s
  | _ => False
def Out.Is (o : Out) (N : Env → Sto → Prop) (B : D → Sto → Prop) : Prop := match o with
  | .nx e s => N e s
  | .rt d s => B d s
  | _ => False
theorem Res.Is.imp {α : Type} {r : Res α} {A B : α → Sto → Prop} (h : r.Is A) (f : ∀ a s, A a s → B a s) : r.Is B := by
  cases r with
  | ok a s => exact f a s h
  | exc C fs s => exact h
  | bad => exact h
theorem Res.Is.get {α : Type} {r : Res α} {A : α → Sto → Prop} (h : r.Is A) : ∃ a s, r = .ok a s ∧ A a s := by
  cases r with
  | ok a s => exact ⟨a, s, rfl, h⟩
  | exc C fs s => exact h.elim
  | bad => exact h.elim
theorem Res.is_of {α : Type} {r : Res α} {A : α → Sto → Prop} {a : α} {s : Sto} (e : r = .ok a s) (h : A a s) : r.Is A := by
  rw [e]; exact h
theorem Out.Is.imp {o : Out} {N N' : Env → Sto → Prop} {B B' : D → Sto → Prop} (h : o.Is N B) (f : ∀ e s, N e s → N' e s) (g : ∀ d s, B d s → B' d s) : o.Is N' B' := by
  cases o with
  | nx e s => exact f e s h
  | rt d s => exact g d s h
  | _ => exact h
theorem Out.is_of {o o' : Out} {N : Env → Sto → Prop} {B : D → Sto → Prop} (e : o = o') (h : o'.Is N B) : o.Is N B := by
  rw [e]; exact h
section
variable {env : Env} {st : Sto} {fa fb f : Env → Sto → Res D} {fs : List (Env → Sto → Res D)} {B : D → Sto → Prop} {N : Env → Sto → Prop}
theorem is_bind {α β : Type} {r : Res α} {k : α → Sto → Res β} {B : β → Sto → Prop} (h : r.Is fun a s => (k a s).Is B) : (r.bind k).Is B := by
  cases r with
  | ok a s => exact h
  | exc C fs s => exact h
  | bad => exact h
theorem is_out {α : Type} {r : Res α} {k : α → Sto → Out} (h : r.Is fun a s => (k a s).Is N B) : (r.out env k).Is N B := by
  cases r with
  | ok a s => exact h
  | exc C fs s => exact h
  | bad => exact h
theorem is_opt {α : Type} {o : Option α} {A : α → Sto → Prop} (h : ∃ z, o = some z ∧ A z st) : (optR o st).Is A := by
  obtain ⟨z, e, q⟩ := h
  rw [e]; exact q
theorem is_optS {o : Option (D × Sto)} (h : ∃ z, o = some z ∧ B z.1 z.2) : (optS o).Is B := by
  obtain ⟨z, e, q⟩ := h
  rw [e]; exact q
theorem is_bin {g : D → D → Sto → Option D} (h : (fa env st).Is fun x s => (fb env s).Is fun y s2 => ∃ z, g x y s2 = some z ∧ B z s2) : (Mi.bin g fa fb env st).Is B :=
  is_bind (h.imp fun _ _ h => is_bind (h.imp fun _ _ h => is_opt h))
theorem is_un {g : D → Sto → Option D} (h : (fa env st).Is fun x s => ∃ z, g x s = some z ∧ B z s) : (Mi.un g fa env st).Is B :=
  is_bind (h.imp fun _ _ h => is_opt h)
theorem is_var {i : Nat} {d : D} (e : env[i]? = some (some d)) (h : B d st) : (eVar i env st).Is B := by
  unfold eVar; rw [e]; exact h
theorem is_C {t : T} (h : B (.t t) st) : (eC t env st).Is B := h
theorem is_nil {A : List D → Sto → Prop} (h : A [] st) : (argsM [] env st).Is A := h
theorem is_cons {A : List D → Sto → Prop} (h : (f env st).Is fun d s => (argsM fs env s).Is fun ds s2 => A (d :: ds) s2) : (argsM (f :: fs) env st).Is A :=
  is_bind (h.imp fun _ _ h => is_bind h)
theorem is_tup (h : (argsM fs env st).Is fun ds s => ∃ ts, plains ds = some ts ∧ B (.t (.tup ts)) s) : (tupM fs env st).Is B :=
  is_bind (h.imp fun _ _ ⟨ts, e, q⟩ => is_opt ⟨_, by rw [e]; rfl, q⟩)
theorem is_lst (h : (argsM fs env st).Is fun ds s => ∃ ts, plains ds = some ts ∧ B (.t (.lst ts)) s) : (lstM fs env st).Is B :=
  is_bind (h.imp fun _ _ ⟨ts, e, q⟩ => is_opt ⟨_, by rw [e]; rfl, q⟩)
theorem is_callB {g : List D → Sto → Option D} (h : (argsM fs env st).Is fun ds s => ∃ z, g ds s = some z ∧ B z s) : (callB g fs env st).Is B :=
  is_bind (h.imp fun _ _ h => is_opt h)
theorem is_callG {F : List D → Sto → Res D} (h : (argsM fs env st).Is fun ds s => (F ds s).Is B) : (callG F fs env st).Is B := is_bind h
theorem is_callP {F : List T → Rp} (h : (argsM fs env st).Is fun ds s => ∃ ts t, plains ds = some ts ∧ F ts = .ok t ∧ B (.t t) s) : (callP F fs env st).Is B :=
  is_bind (h.imp fun _ _ ⟨ts, t, e1, e2, q⟩ => by rw [e1]; dsimp only; rw [e2]; exact q)
theorem is_meth {n : String} {g : D → List D → Sto → Option (D × Sto)} (h : (fa env st).Is fun d s => tyOk n s d = true ∧ (argsM fs env s).Is fun ds s2 => ∃ z, g d ds s2 = some z ∧ B z.1 z.2) : (methM n g fa fs env st).Is B :=
  is_bind (h.imp fun _ _ ⟨e, h⟩ => by rw [if_pos e]; exact is_bind (h.imp fun _ _ h => is_optS h))
theorem is_bl {r : Res D} {A : Bool → Sto → Prop} (h : r.Is fun d s => ∃ b, d = .t (.bl b) ∧ A b s) : (blOf r).Is A :=
  is_bind (h.imp fun _ _ ⟨b, e, q⟩ => by rw [e]; exact q)
theorem is_tru {A : Bool → Sto → Prop} (h : (fa env st).Is fun d s => ∃ b, tru s d = some b ∧ A b s) : (truM fa env st).Is A :=
  is_bind (h.imp fun _ _ h => is_opt h)
theorem is_and {ga gb : Env → Sto → Res Bool} {A : Bool → Sto → Prop} (h : (ga env st).Is fun k s => if k = true then (gb env s).Is A else A false s) : (andM ga gb env st).Is A :=
  is_bind (h.imp fun k _ h => by
    cases k with
    | true => rw [if_pos rfl] at h ⊢; exact h
    | false => exact h)
theorem is_or {ga gb : Env → Sto → Res Bool} {A : Bool → Sto → Prop} (h : (ga env st).Is fun k s => if k = true then A true s else (gb env s).Is A) : (orM ga gb env st).Is A :=
  is_bind (h.imp fun k _ h => by
    cases k with
    | true => exact h
    | false => exact h)
theorem is_not {ga : Env → Sto → Res Bool} {A : Bool → Sto → Prop} (h : (ga env st).Is fun k s => A (!k) s) : (Mi.notM ga env st).Is A := is_bind h
theorem o_nx (h : N env st) : (nxM env st).Is N B := h
theorem o_seq {g1 g2 : Env → Sto → Out} (h : (g1 env st).Is (fun e s => (g2 e s).Is N B) B) : (seqM g1 g2 env st).Is N B := by
  unfold seqM
  cases q : g1 env st with
  | nx e s => rw [q] at h; exact h
  | rt d s => rw [q] at h; exact h
  | _ => rw [q] at h; exact h.elim
theorem o_set {i : Nat} (h : (f env st).Is fun d s => N (env.set i (some d)) s) : (setM i f env st).Is N B := is_out h
theorem o_ret (h : (f env st).Is B) : (retM f env st).Is N B := is_out h
theorem o_drop (h : (f env st).Is fun _ s => N env s) : (dropM f env st).Is N B := is_out h
theorem o_if {c : Env → Sto → Res Bool} {a b : Env → Sto → Out} (h : (c env st).Is fun k s => if k = true then (a env s).Is N B else (b env s).Is N B) : (ifM c a b env st).Is N B :=
  is_out (h.imp fun k _ h => by
    cases k with
    | true => exact h
    | false => exact h)
theorem o_par {i j : Nat} (h : (argsM fs env st).Is fun ds s => ∃ d d2, ds = [d, d2] ∧ N ((env.set i (some d)).set j (some d2)) s) : (parM i j fs env st).Is N B :=
  is_out (h.imp fun _ _ ⟨d, d2, e, q⟩ => by rw [e]; exact q)
/-- a loop over a list, by what holds behind each item -/
theorem o_forL {ga : D → Env → Option Env} {body : Env → Sto → Out} (tot : Nat) (P : List D → Env → Sto → Prop) : ∀ (ds pre : List D) (env : Env) (st : Sto), pre.length + ds.length ≤ tot → P pre env st →
    (∀ p d e s, P p e s → d ∈ ds → p.length < tot → ∃ e1, ga d e = some e1 ∧ (body e1 s).Is (fun e2 s2 => P (p ++ [d]) e2 s2) B) → (∀ e s, P (pre ++ ds) e s → N e s) → (forL ga body ds env st).Is N B
  | [], pre, env, st, _, h0, _, hN => hN env st (by rw [List.append_nil]; exact h0)
  | d :: r, pre, env, st, hl, h0, ht, hN => by
    rw [List.length_cons] at hl
    obtain ⟨e1, q, hb⟩ := ht pre d env st h0 List.mem_cons_self (by omega)
    unfold forL
    rw [q]
    dsimp only
    cases z : body e1 st with
    | nx e s =>
      rw [z] at hb
      exact o_forL tot P r (pre ++ [d]) e s (by rw [List.length_append]; simp; omega) hb (fun p d e s h hm => ht p d e s h (List.mem_cons_of_mem _ hm)) fun e s h => hN e s (by rw [List.append_assoc] at h; exact h)
    | rt d s => rw [z] at hb; exact hb
    | _ => rw [z] at hb; exact hb.elim
theorem o_for {fi : Env → Sto → Res ItM} {ga : D → Env → Option Env} {body : Env → Sto → Out} {it : ItM} {s : Sto} {ds : List D} (P : List D → Env → Sto → Prop) (hi : fi env st = .ok it s) (hn : ∀ st i, it.nth st i = some ds[i]?) (hm : ds.length ≤ it.most)
    (h0 : P [] env s) (ht : ∀ p d e s, P p e s → d ∈ ds → p.length < ds.length → ∃ e1, ga d e = some e1 ∧ (body e1 s).Is (fun e2 s2 => P (p ++ [d]) e2 s2) B) (hN : ∀ e s, P ds e s → N e s) : (forM' fi ga body env st).Is N B := by
  rw [forM_eq hi hn hm]
  exact o_forL ds.length P ds [] env s (by simp) h0 ht hN
def upto (lo : Int) (n : Nat) : List D := (List.range n).map fun i => .t (.int (lo + (i : Nat)))
theorem nth_rng (lo : Int) (n : Nat) : ∀ st i, (rngIt lo n).nth st i = some (upto lo n)[i]? := fun st i => by
  show some (if i < n then some (D.t (.int (lo + i))) else none) = _
  unfold upto
  rw [List.getElem?_map]
  by_cases h : i < n
  · rw [if_pos h, List.getElem?_range h]; rfl
  · rw [if_neg h, List.getElem?_eq_none (by rw [List.length_range]; omega)]; rfl
theorem upto_len (lo : Int) (n : Nat) : (upto lo n).length = n := by unfold upto; rw [List.length_map, List.length_range]
theorem upto_mem {lo : Int} {n : Nat} {d : D} (h : d ∈ upto lo n) : ∃ i : Nat, i < n ∧ d = .t (.int (lo + i)) := by
  obtain ⟨i, hi, e⟩ := List.mem_map.mp h
  exact ⟨i, List.mem_range.mp hi, e.symm⟩
theorem is_defG {n : Nat} {g : Env → Sto → Out} {ds : List D} (h : (g (startE n ds) st).Is (fun _ s => B (.t .non) s) B) : (defG n g ds st).Is B := by
  unfold defG
  cases q : g (startE n ds) st with
  | nx e s => rw [q] at h; exact h
  | rt d s => rw [q] at h; exact h
  | _ => rw [q] at h; exact h.elim
theorem is_defT {n : Nat} {g : Env → Sto → Out} {ds : List D} (h : (g (startE n ds) st).Is (fun _ s => (trim st.length (.t .non) s).Is B) (fun d s => (trim st.length d s).Is B)) : (defT n g ds st).Is B := by
  unfold defT
  cases q : g (startE n ds) st with
  | nx e s => rw [q] at h; exact h
  | rt d s => rw [q] at h; exact h
  | _ => rw [q] at h; exact h.elim
/-- objects that hold plain values only -/
def Pl (st : Sto) : Prop := st.all (SO.below 0) = true
theorem belowD_up {n : Nat} {d : D} (h : D.below 0 d = true) : D.below n d = true := by
  cases d with
  | t x => rfl
  | x => rfl
  | r m => unfold D.below at h; simp at h
theorem belowK_up {n : Nat} {κ : Type} {fs : List (κ × D)} (h : (fs.all fun p => p.2.below 0) = true) : (fs.all fun p => p.2.below n) = true := by
  rw [List.all_eq_true] at h ⊢
  exact fun p hp => belowD_up (h p hp)
theorem below_up {n : Nat} {o : SO} (h : SO.below 0 o = true) : SO.below n o = true := by
  cases o with
  | lst ds =>
    unfold SO.below at h ⊢
    rw [List.all_eq_true] at h ⊢
    exact fun d hd => belowD_up (h d hd)
  | ins C fs => exact belowK_up (fs := fs) h
  | dk lk fs => exact belowK_up (fs := fs) h
  | dt fs => exact belowK_up (fs := fs) h
theorem Pl.take {st : Sto} (h : Pl st) (n : Nat) : (st.take n).all (SO.below n) = true := by
  unfold Pl at h
  rw [List.all_eq_true] at h ⊢
  intro o ho
  exact below_up (h o (List.mem_of_mem_take ho))
theorem Pl.cut {st : Sto} (h : Pl st) (n : Nat) : Pl (st.take n) := by
  unfold Pl at h ⊢
  rw [List.all_eq_true] at h ⊢
  intro o ho
  exact h o (List.mem_of_mem_take ho)
theorem is_trim {n : Nat} {t : T} (h : Pl st) (hB : B (.t t) (st.take n)) : (trim n (.t t) st).Is B := by
  unfold trim
  rw [if_pos (h.take n)]
  exact hB
theorem Pl.set {st : Sto} (h : Pl st) (k : Nat) (ts : List T) : Pl (st.set k (.lst (ts.map .t))) := by
  unfold Pl at h ⊢
  rw [List.all_eq_true] at h ⊢
  intro o ho
  rcases List.mem_or_eq_of_mem_set ho with e | e
  · exact h o e
  · rw [e]
    show (ts.map D.t).all (D.below 0) = true
    rw [List.all_map, List.all_eq_true]
    exact fun _ _ => rfl
theorem Pl.app {st : Sto} (h : Pl st) (ts : List T) : Pl (st ++ [.lst (ts.map .t)]) := by
  unfold Pl at h ⊢
  rw [List.all_append, h, Bool.true_and, List.all_cons, List.all_nil, Bool.and_true]
  show (ts.map D.t).all (D.below 0) = true
  rw [List.all_map, List.all_eq_true]
  exact fun _ _ => rfl
end
end Mi
/-! Eqk -/
namespace Mi
open PySem PySem.Spec PyProof.Rows L2 RZ StrLaws
/-! ### equations and rules that every law can use -/
section
variable {env : Env} {st : Sto} {fa fb f fo fi : Env → Sto → Res D} {fs : List (Env → Sto → Res D)} {N : Env → Sto → Prop} {B : D → Sto → Prop}
theorem var_ok {i : Nat} {d : D} (e : env[i]? = some (some d)) : eVar i env st = .ok d st := by unfold eVar; rw [e]
theorem bin_ok {g : D → D → Sto → Option D} {x y z : D} (ha : fa env st = .ok x st) (hb : fb env st = .ok y st) (h : g x y st = some z) : Mi.bin g fa fb env st = .ok z st := by
  unfold Mi.bin
  rw [ha, Res.bind_ok, hb, Res.bind_ok, h]
  rfl
theorem andV_ok {p q : Bool} (ha : fa env st = .ok (.t (.bl p)) st) (hb : fb env st = .ok (.t (.bl q)) st) : andV fa fb env st = .ok (.t (.bl (p && q))) st := by
  unfold andV
  rw [ha, Res.bind_ok]
  cases p with
  | true => exact hb
  | false => rfl
theorem orV_ok {p q : Bool} (ha : fa env st = .ok (.t (.bl p)) st) (hb : fb env st = .ok (.t (.bl q)) st) : orV fa fb env st = .ok (.t (.bl (p || q))) st := by
  unfold orV
  rw [ha, Res.bind_ok]
  cases p with
  | true => rfl
  | false => exact hb
theorem repr_bl (b : Bool) (s : Sto) : reprB [.t (.bl b)] s = some (.t (.str (if b then "True" else "False"))) := rfl
theorem ne_same (x : Str) (s : Sto) : neM (.t (.str x)) (.t (.str x)) s = some (.t (.bl false)) := by
  show some (D.t (.bl (!decide (x = x)))) = _
  rw [decide_eq_true rfl]; rfl
theorem callP_ok {F : List T → Rp} {ts : List T} {t : T} (ha : argsM fs env st = .ok (ts.map .t) st) (h : F ts = .ok t) : callP F fs env st = .ok (.t t) st := by
  unfold callP
  rw [ha, Res.bind_ok, plains_map]
  simp only [h]
theorem callB_ok {g : List D → Sto → Option D} {ds : List D} {z : D} (ha : argsM fs env st = .ok ds st) (h : g ds st = some z) : callB g fs env st = .ok z st := by
  unfold callB
  rw [ha, Res.bind_ok, h]; rfl
theorem args0 : argsM [] env st = .ok [] st := rfl
theorem argsC {d : D} {ds : List D} (ha : f env st = .ok d st) (hb : argsM fs env st = .ok ds st) : argsM (f :: fs) env st = .ok (d :: ds) st := by
  unfold argsM
  rw [ha, Res.bind_ok, hb]; rfl
theorem args1 {d : D} (ha : fa env st = .ok d st) : argsM [fa] env st = .ok [d] st := argsC ha args0
theorem args2 {d e : D} (ha : fa env st = .ok d st) (hb : fb env st = .ok e st) : argsM [fa, fb] env st = .ok [d, e] st := argsC ha (args1 hb)
theorem tupM_ok {ts : List T} (ha : argsM fs env st = .ok (ts.map .t) st) : tupM fs env st = .ok (.t (.tup ts)) st := by
  unfold tupM
  rw [ha, Res.bind_ok, plains_map]; rfl
theorem lstM_ok {ts : List T} (ha : argsM fs env st = .ok (ts.map .t) st) : lstM fs env st = .ok (.t (.lst ts)) st := by
  unfold lstM
  rw [ha, Res.bind_ok, plains_map]; rfl
theorem oSome_C (i : Int) : oSome (eC (.int i)) env st = .ok (some i) st := rfl
theorem o_par3 {i j l : Nat} (h : (argsM fs env st).Is fun ds s => ∃ d d2 d3, ds = [d, d2, d3] ∧ N (((env.set i (some d)).set j (some d2)).set l (some d3)) s) : (parM3 i j l fs env st).Is N B :=
  is_out (h.imp fun _ _ ⟨d, d2, d3, e, q⟩ => by rw [e]; exact q)
theorem o_pass {c : Env → Sto → Res Bool} {a : Env → Sto → Out} (h : (c env st).Is fun k s => k = false ∧ N env s) : (ifM c a nxM env st).Is N B :=
  o_if (h.imp fun k s ⟨e, q⟩ => by rw [e, if_neg (by decide)]; exact o_nx q)
theorem o_asg {ga : D → Env → Option Env} (h : (f env st).Is fun d s => ∃ e1, ga d env = some e1 ∧ N e1 s) : (asgM f ga env st).Is N B := by
  unfold asgM
  refine is_out (h.imp ?_)
  rintro d s ⟨e1, q, hn⟩
  rw [q]; exact hn
/-! ### objects of the store -/
theorem items_at {q : Nat} {ds : List D} (h : st[q]? = some (.lst ds)) : items st (.r q) = some ds := by
  show (match st[q]? with
    | some (.lst ds) => some ds
    | _ => none) = _
  rw [h]
theorem at_nat {α : Type} (xs : List α) (k : Nat) : L2.atI xs (k : Int) = xs[k]? := by
  unfold L2.atI L2.ixN
  rw [if_pos (by omega)]
  by_cases h : (k : Int) < xs.length
  · rw [if_pos h]
    show xs[(k : Int).toNat]? = _
    rw [Int.toNat_natCast]
  · rw [if_neg h, List.getElem?_eq_none (by omega)]; rfl
theorem ix_at {q : Nat} {ds : List D} (h : st[q]? = some (.lst ds)) (i : Nat) : ixM (.r q) (.t (.int i)) st = ds[i]? := by
  show ((items st (.r q)).bind fun ds => L2.atI ds (i : Int)) = _
  rw [items_at h]
  exact at_nat ds i
theorem len_at {q : Nat} {ds : List D} (h : st[q]? = some (.lst ds)) : lenB [.r q] st = some (.t (.int ds.length)) := by
  show ((items st (.r q)).map fun is => iD is.length) = _
  rw [items_at h]
  rfl
theorem ix_l (ts : List T) (k : Nat) (s : Sto) : ixM (.t (.lst ts)) (.t (.int k)) s = ts[k]?.map D.t := by
  show L2.atI (ts.map D.t) k = _
  rw [at_nat, List.getElem?_map]
theorem ix_t (ts : List T) (k : Nat) (s : Sto) : ixM (.t (.tup ts)) (.t (.int k)) s = ts[k]?.map D.t := by
  show L2.atI (ts.map D.t) k = _
  rw [at_nat, List.getElem?_map]
theorem o_setIt {f : Env → Sto → Res D} {n k : Nat} {x : D} {xs : List D} {s : Sto} (hf : f env st = .ok x s) (ho : fo env s = .ok (.r n) s) (hi : fi env s = .ok (.t (.int k)) s) (h : s[n]? = some (.lst xs)) (hk : k < xs.length) (hN : N env (s.set n (.lst (xs.set k x)))) : (setItM fo fi f env st).Is N B := by
  have e : L2.ixN xs.length (k : Int) = some k := by
    unfold L2.ixN
    rw [if_pos (by omega), if_pos (by omega), Int.toNat_natCast]
  simp only [setItM, hf, ho, hi, Res.out_ok, h, e]
  exact hN
theorem ty_at {k : Nat} {ds : List D} (h : st[k]? = some (.lst ds)) : tyOk "list" st (.r k) = true := by
  show (decide ("list" = "list") && (items st (.r k)).isSome) = true
  rw [items_at h]
  rfl
theorem app_at {k : Nat} {ds : List D} {x : D} (h : st[k]? = some (.lst ds)) (hl : ds.length < LIM) : appG (.r k) [x] st = some (.t .non, st.set k (.lst (ds ++ [x]))) := by
  show (match st[k]? with
    | some (SO.lst xs) => if xs.length < LIM then some (D.t .non, st.set k (SO.lst (xs ++ [x]))) else none
    | _ => none) = _
  rw [h]
  exact if_pos hl
/-! ### numbers -/
theorem int_int (i : Int) (s : Sto) : intB [.t (.int i)] s = some (.t (.int i)) := rfl
theorem mod_int (i j : Int) (h : 0 < j) (s : Sto) : modM (.t (.int i)) (.t (.int j)) s = some (.t (.int (i % j))) := by
  show (if 0 < j then some (iD (i % j)) else none) = _
  rw [if_pos h]
  rfl
theorem div_int (i j : Int) (h : 0 < j) (h2 : j < 1073741824) (s : Sto) : fdivM (.t (.int i)) (.t (.int j)) s = some (.t (.int (i / j))) := by
  show (if 0 < j ∧ j < 1073741824 then some (iD (i / j)) else none) = _
  rw [if_pos ⟨h, h2⟩]
  rfl
theorem mul_intR (i j : Int) (h0 : 0 ≤ j) (h : j < 18446744073709551616) (s : Sto) : mulA (.t (.int i)) (.t (.int j)) s = some (.t (.int (i * j))) := by
  unfold mulA mulM
  dsimp only
  rw [if_pos (.inr (by unfold B64; omega))]
  rfl
theorem lt_int (a b : Int) (s : Sto) : ltM (.t (.int a)) (.t (.int b)) s = some (.t (.bl (decide (a < b)))) := rfl
theorem gt_int (a b : Int) (s : Sto) : gtM (.t (.int a)) (.t (.int b)) s = some (.t (.bl (decide (b < a)))) := rfl
theorem ge_int (a b : Int) (s : Sto) : geM (.t (.int a)) (.t (.int b)) s = some (.t (.bl (decide (b ≤ a)))) := rfl
theorem ne_int (a b : Int) (s : Sto) : neM (.t (.int a)) (.t (.int b)) s = some (.t (.bl (!decide (a = b)))) := rfl
theorem eq_int (a b : Int) (s : Sto) : eqM (.t (.int a)) (.t (.int b)) s = some (.t (.bl (decide (a = b)))) := rfl
theorem add_int (a b : Int) (s : Sto) : addM (.t (.int a)) (.t (.int b)) s = some (.t (.int (a + b))) := rfl
theorem pow18 (s : Sto) : powM (.t (.int 10)) (.t (.int 18)) s = some (.t (.int 1000000000000000000)) := by
  unfold powM
  dsimp only
  rw [if_pos ⟨by decide, by decide, by decide⟩]
  have e : (10 : Int) ^ (18 : Int).toNat = 1000000000000000000 := by decide
  rw [e]
  rfl
theorem eq_str (a b : Str) (s : Sto) : eqM (.t (.str a)) (.t (.str b)) s = some (.t (.bl (decide (a = b)))) := rfl
theorem ne_str (a b : Str) (s : Sto) : neM (.t (.str a)) (.t (.str b)) s = some (.t (.bl (!decide (a = b)))) := rfl
theorem limB : 1000000 ≤ LIM := Nat.le_refl _
theorem add_str {a b : Str} (h : a.length + b.length ≤ 1000) (s : Sto) : addM (.t (.str a)) (.t (.str b)) s = some (.t (.str (a ++ b))) := by
  show (if a.length + b.length ≤ LIM then some (sD (a ++ b)) else none) = _
  rw [if_pos (by have := limB; omega)]
  rfl
theorem len_tup (r : List T) (s : Sto) : lenB [.t (.tup r)] s = some (.t (.int r.length)) := by
  show some (iD (r.map D.t).length) = _
  rw [List.length_map]
  rfl
theorem len_lst (r : List T) (s : Sto) : lenB [.t (.lst r)] s = some (.t (.int r.length)) := by
  show some (iD (r.map D.t).length) = _
  rw [List.length_map]
  rfl
/-! ### words joined and split -/
theorem split_join {c : Nat} {ps : List Str} (h : ps ≠ []) (hf : ∀ p ∈ ps, c ∉ p.cps.toList) : Txt.split (Str.join ⟨#[c]⟩ ps) ⟨#[c]⟩ = ps := by
  have e := split_sp (Str.join ⟨#[c]⟩ ps) c
  rw [sp_join c ps h hf] at e
  refine List.map_inj_right (f := fun p : Str => p.cps.toList) (fun x y z => ?_) |>.mp e
  cases x; cases y
  simp only [Str.mk.injEq]
  exact Array.toList_inj.mp z
end
end Mi
/-! Pk -/
namespace Mi
open PySem PySem.Spec PyProof.Rows L2 RZ StrLaws
/-! ### plain data that can be shown and compared -/
mutual
def pk : Nat → T → Bool
  | _, .non => true
  | _, .bl _ => true
  | _, .int i => decide (0 ≤ i) && decide (i < 100)
  | _, .str x => x.cps.toList.all fun c => decide (c < 1000)
  | n + 1, .tup ts => pks n ts
  | n + 1, .lst ts => pks n ts
  | _, _ => false
def pks : Nat → List T → Bool
  | _, [] => true
  | n, t :: r => pk n t && pks n r
end
mutual
def wk : T → Nat
  | .str x => x.cps.size
  | .int _ => 7
  | .tup ts => wks ts
  | .lst ts => wks ts
  | _ => 0
def wks : List T → Nat
  | [] => 0
  | t :: r => wk t + 1 + wks r
end
theorem pks_of : ∀ {n : Nat} {ts : List T}, (∀ t ∈ ts, pk n t = true) → pks n ts = true
  | n, [], _ => by unfold pks; rfl
  | n, t :: r, h => by
    unfold pks
    rw [h t List.mem_cons_self, pks_of fun x hx => h x (List.mem_cons_of_mem _ hx)]
    rfl
theorem pks_mem : ∀ {n : Nat} {ts : List T}, pks n ts = true → ∀ t ∈ ts, pk n t = true
  | n, [], _, t, ht => by cases ht
  | n, t :: r, h, x, hx => by
    unfold pks at h
    rw [Bool.and_eq_true] at h
    rcases List.mem_cons.mp hx with e | e
    · rw [e]; exact h.1
    · exact pks_mem h.2 x e
structure PF (n : Nat) (t : T) (p : PyData) : Prop where
  py : pyT t = some p
  sh : p.showable = true
  nd : p.hasDict = false
  dp : p.depth ≤ n
  ly : p.canLay0 = true
  lf : p.leavesShort 8 = true
  w : p.weight ≤ wk t
structure PFs (n : Nat) (ts : List T) (ps : List PyData) : Prop where
  py : pyTs ts = some ps
  sh : PyData.showableAll ps = true
  nd : PyData.hasDictAll ps = false
  dp : PyData.depthAll ps ≤ n
  ly : PyData.canLayAll0 ps = true
  lf : PyData.leavesShortAll 8 ps = true
  w : PyData.weightAll ps ≤ wks ts
  l : ps.length = ts.length
theorem PFs.tup {n : Nat} {ts : List T} {ps : List PyData} (F : PFs n ts ps) : PF (n + 1) (.tup ts) (.tuple ps) :=
  ⟨by show (pyTs ts).map PyData.tuple = _; rw [F.py]; rfl, by simp only [PyData.showable]; exact F.sh, by simp only [PyData.hasDict]; exact F.nd, Nat.succ_le_succ F.dp, by simp only [PyData.canLay0]; exact F.ly, by simp only [PyData.leavesShort]; exact F.lf, by simp only [PyData.weight]; exact F.w⟩
theorem PFs.lst {n : Nat} {ts : List T} {ps : List PyData} (F : PFs n ts ps) : PF (n + 1) (.lst ts) (.list ps) :=
  ⟨by show (pyTs ts).map PyData.list = _; rw [F.py]; rfl, by simp only [PyData.showable]; exact F.sh, by simp only [PyData.hasDict]; exact F.nd, Nat.succ_le_succ F.dp, by simp only [PyData.canLay0]; exact F.ly, by simp only [PyData.leavesShort]; exact F.lf, by simp only [PyData.weight]; exact F.w⟩
mutual
theorem pk_py : ∀ (n : Nat) (t : T), pk n t = true → ∃ p, PF n t p
  | n, .non, _ => ⟨.none, rfl, by simp only [PyData.showable], by simp only [PyData.hasDict], Nat.zero_le _, by simp only [PyData.canLay0], by simp only [PyData.leavesShort], Nat.zero_le _⟩
  | n, .bl b, _ => ⟨.bool b, rfl, by simp only [PyData.showable], by simp only [PyData.hasDict], Nat.zero_le _, by simp only [PyData.canLay0], by simp only [PyData.leavesShort], Nat.zero_le _⟩
  | n, .int i, h => by
    unfold pk at h
    (rw [Bool.and_eq_true, decide_eq_true_eq, decide_eq_true_eq] at h)
    obtain ⟨k, rfl⟩ : ∃ k : Fin 100, i = ((k : Nat) : Int) := ⟨⟨i.toNat, by omega⟩, by show i = ((i.toNat : Nat) : Int); omega⟩
    obtain ⟨h1, h2, h3⟩ := int_len k
    refine ⟨.int ((k : Nat) : Int), rfl, h2, by simp only [PyData.hasDict], Nat.zero_le _, by simp only [PyData.canLay0], ?_, h3⟩
    simp only [PyData.leavesShort, decide_eq_true_eq]
    exact h1
  | n, .str x, h => by
    unfold pk at h
    have hl : ∀ c ∈ x.cps.toList, c < 1000 := fun c hc => of_decide_eq_true (List.all_eq_true.mp h c hc)
    refine ⟨.str x, rfl, by simp only [PyData.showable], by simp only [PyData.hasDict], Nat.zero_le _, ?_, ?_, Nat.le_refl _⟩
    · simp only [PyData.canLay0, PyData.strOk]
      rw  [← Array.all_toList, List.all_eq_true]
      exact fun c hc => decide_eq_true (by have := hl c hc; omega)
    · simp only [PyData.leavesShort]
      rw [List.all_eq_true]
      exact fun c hc => decide_eq_true (by have := hl c hc; omega)
  | n + 1, .tup ts, h => by
    unfold pk at h
    obtain ⟨ps, F⟩ := pks_py n ts h
    exact ⟨_, F.tup⟩
  | n + 1, .lst ts, h => by
    unfold pk at h
    obtain ⟨ps, F⟩ := pks_py n ts h
    exact ⟨_, F.lst⟩
  | 0, .tup ts, h => by simp [pk] at h
  | 0, .lst ts, h => by simp [pk] at h
  | n, .scr _, h => by cases n <;> simp [pk] at h
  | n, .glb _, h => by cases n <;> simp [pk] at h
  | n, .ty _, h => by cases n <;> simp [pk] at h
  | n, .ins .., h => by cases n <;> simp [pk] at h
  | n, .dk .., h => by cases n <;> simp [pk] at h
  | n, .dt .., h => by cases n <;> simp [pk] at h
theorem pks_py : ∀ (n : Nat) (ts : List T), pks n ts = true → ∃ ps, PFs n ts ps
  | n, [], _ => ⟨[], rfl, by simp only [PyData.showableAll], by simp only [PyData.hasDictAll], Nat.zero_le _, by simp only [PyData.canLayAll0], by simp only [PyData.leavesShortAll], Nat.zero_le _, rfl⟩
  | n, t :: r, h => by
    unfold pks at h
    rw [Bool.and_eq_true] at h
    obtain ⟨p, F⟩ := pk_py n t h.1
    obtain ⟨ps, G⟩ := pks_py n r h.2
    refine ⟨p :: ps, ?_, ?_, ?_, ?_, ?_, ?_, ?_, by rw [List.length_cons, List.length_cons, G.l]⟩
    · show (pyT t).bind (fun p => (pyTs r).map (p :: ·)) = _
      rw [F.py, G.py]; rfl
    · simp only [PyData.showableAll, F.sh, G.sh, Bool.and_self]
    · simp only [PyData.hasDictAll, F.nd, G.nd, Bool.or_self]
    · simp only [PyData.depthAll]
      exact Nat.max_le.mpr ⟨F.dp, G.dp⟩
    · simp only [PyData.canLayAll0, F.ly, G.ly, Bool.and_self]
    · simp only [PyData.leavesShortAll, F.lf, G.lf, Bool.and_self]
    · simp only [PyData.weightAll, wks]
      have := F.w
      have := G.w
      omega
end
theorem showB_ok {n : Nat} {t : T} {p : PyData} (F : PF n t p) (hn : n ≤ 60) (hw : wk t ≤ 10000) : ∃ x, showB p = some (.t (.str x)) := by
  have l := PyData.shown_le 8 (Nat.le_refl _) p F.lf
  have w := F.w
  refine ⟨p.shown, ?_⟩
  unfold showB
  rw [if_pos ⟨F.sh, F.nd, Nat.le_trans F.dp hn, by have := limB; omega⟩]
  rfl
theorem repr_ok {n : Nat} {t : T} (h : pk n t = true) (hn : n ≤ 60) (hw : wk t ≤ 10000) (s : Sto) : ∃ x, reprB [.t t] s = some (.t (.str x)) := by
  obtain ⟨p, F⟩ := pk_py n t h
  obtain ⟨x, e⟩ := showB_ok F hn hw
  cases t with
  | non => exact ⟨_, rfl⟩
  | bl b => exact ⟨_, rfl⟩
  | int i =>
    unfold pk at h
    (rw [Bool.and_eq_true, decide_eq_true_eq, decide_eq_true_eq] at h)
    obtain ⟨k, rfl⟩ : ∃ k : Fin 100, i = ((k : Nat) : Int) := ⟨⟨i.toNat, by omega⟩, by show i = ((i.toNat : Nat) : Int); omega⟩
    obtain ⟨h1, h2, h3⟩ := int_len k
    simp only [PyData.showable, decide_eq_true_eq] at h2
    exact ⟨_, if_pos h2⟩
  | str y =>
    have hp : p = .str y := by
      have z := F.py
      cases z; rfl
    subst hp
    have l := PyData.shown_le 8 (Nat.le_refl _) _ F.lf
    have w := F.w
    have e2 : PyData.shown (.str y) = reprText y := by simp only [PyData.shown]
    rw [e2] at l
    exact ⟨_, if_pos (by have := limB; omega)⟩
  | tup ts => exact ⟨x, by show (pyT (.tup ts)).bind showB = _; rw [F.py]; exact e⟩
  | lst ts => exact ⟨x, by show (pyT (.lst ts)).bind showB = _; rw [F.py]; exact e⟩
  | scr _ => cases n <;> simp [pk] at h
  | glb _ => cases n <;> simp [pk] at h
  | ty _ => cases n <;> simp [pk] at h
  | ins _ _ _ => cases n <;> simp [pk] at h
  | dk _ _ => cases n <;> simp [pk] at h
  | dt _ _ => cases n <;> simp [pk] at h
theorem pyD_at {st : Sto} {q : Nat} {ts : List T} (h : st[q]? = some (.lst (ts.map .t))) : pyD st (.r q) = pyT (.lst ts) := by
  show ((items st (.r q)).bind fun ds => (plains ds).bind fun ts => (pyTs ts).map PyData.list) = _
  rw [items_at h]
  show ((plains (ts.map D.t)).bind fun ts => (pyTs ts).map PyData.list) = _
  rw [plains_map]
  rfl
/-- a list of the store and the empty list -/
theorem eq_nil_at {st : Sto} {q n : Nat} {ts : List T} (h : st[q]? = some (.lst (ts.map .t))) (hn : n ≤ 60) (hk : pks n ts = true) : eqM (.r q) (.t (.lst [])) st = some (.t (.bl ts.isEmpty)) := by
  obtain ⟨ps, F⟩ := pks_py n ts hk
  have G := F.lst
  have hs : SeqAt.shaped (.list ps) = true := by
    unfold SeqAt.shaped
    rw [Bool.and_eq_true, decide_eq_true_eq]
    exact ⟨G.ly, by have := G.dp; omega⟩
  show (((pyD st (.r q)).bind fun p => (some (PyData.list [])).bind fun q => if (SeqAt.shaped p && SeqAt.shaped q) = true then some (PyData.eqv p q) else none).map bD) = _
  rw [pyD_at h, G.py]
  show ((if (SeqAt.shaped (.list ps) && SeqAt.shaped (.list [])) = true then some (PyData.eqv (.list ps) (.list [])) else none).map bD) = _
  rw [hs, show SeqAt.shaped (.list []) = true from rfl]
  have l := F.l
  cases ts with
  | nil => cases ps with
    | nil => rfl
    | cons _ _ => cases l
  | cons t r => cases ps with
    | nil => cases l
    | cons _ _ => rfl
end Mi
/-! Rg -/
namespace Mi
open PySem PySem.Spec PyProof.Rows L2 RZ StrLaws
section
variable {N : Env → Sto → Prop} {B : D → Sto → Prop} {env : Env} {st : Sto}
/-- a loop over range(..), by what holds behind i turns -/
theorem o_rng {fs : List (Env → Sto → Res D)} {ga : D → Env → Option Env} {body : Env → Sto → Out} (P : Nat → Env → Sto → Prop) (a b : Nat) (hb : b ≤ 1000)
    (h : (argsM fs env st).Is fun ds s => ∃ r : Int, ds = [.t (.int r)] ∧ (a : Int) ≤ r ∧ r ≤ b ∧ P 0 env s)
    (ht : ∀ (i x : Nat) e s, P i e s → i < b → x < b → ∃ e1, ga (.t (.int x)) e = some e1 ∧ (body e1 s).Is (fun e2 s2 => P (i + 1) e2 s2) B) (hN : ∀ i e s, a ≤ i → i ≤ b → P i e s → N e s) : (forM' (rng1 fs) ga body env st).Is N B := by
  obtain ⟨ds, s, e, r, rfl, r0, r1, h0⟩ := h.get
  refine o_for (it := rngIt 0 r.toNat) (s := s) (ds := upto 0 r.toNat) (fun pre e s => P pre.length e s) ?_ (nth_rng 0 _) (Nat.le_of_eq (upto_len _ _)) h0 (fun p d e s h hd hl => ?_) (fun e s h => ?_)
  · unfold rng1
    rw [e, Res.bind_ok]
    dsimp only
    rw [if_pos ⟨by unfold B62; omega, by unfold B62; omega⟩]
  · rw [upto_len] at hl
    obtain ⟨i, hi, rfl⟩ := upto_mem hd
    rw [Int.zero_add]
    obtain ⟨e1, q, w⟩ := ht p.length i e s h (by omega) (by omega)
    refine ⟨e1, q, w.imp (fun e s h => ?_) fun _ _ h => h⟩
    rw [List.length_append]; exact h
  · rw [upto_len] at h
    exact hN _ e s (by omega) (by omega) h
theorem o_forI {ga : D → Env → Option Env} {body : Env → Sto → Out} {it : ItM} {ds : List D} (P : Nat → Env → Sto → Prop) (hn : ∀ i e s, P i e s → it.nth s i = some ds[i]?)
    (ht : ∀ i d e s, P i e s → ds[i]? = some d → ∃ e1, ga d e = some e1 ∧ (body e1 s).Is (fun e2 s2 => P (i + 1) e2 s2) B) (hN : ∀ e s, P ds.length e s → N e s) :
    ∀ (m i : Nat) (e : Env) (s : Sto), ds.length ≤ m + i → i ≤ ds.length → P i e s → (forI ga body it m i e s).Is N B
  | m, i, e, s, hm, hi, h => by
    have q := hn i e s h
    cases c : ds[i]? with
    | none =>
      have z : i = ds.length := Nat.le_antisymm hi (List.getElem?_eq_none_iff.mp c)
      rw [c] at q
      have w : forI ga body it m i e s = .nx e s := by cases m <;> (unfold forI; rw [q])
      rw [w]
      exact hN e s (z ▸ h)
    | some d =>
      rw [c] at q
      have lt : i < ds.length := (List.getElem?_eq_some_iff.mp c).1
      cases m with
      | zero => omega
      | succ m =>
        obtain ⟨e1, g, b⟩ := ht i d e s h c
        unfold forI
        simp only [q, g]
        cases r : body e1 s with
        | nx e2 s2 => rw [r] at b; exact o_forI P hn ht hN m (i + 1) e2 s2 (by omega) lt b
        | rt d s2 => rw [r] at b; exact b
        | bk _ _ => rw [r] at b; exact b.elim
        | ct _ _ => rw [r] at b; exact b.elim
        | exc _ _ _ _ => rw [r] at b; exact b.elim
        | bad => rw [r] at b; exact b.elim
/-- over an object of the store that stays as it is -/
theorem o_forA {q : Nat} {ds : List D} {ga : D → Env → Option Env} {body : Env → Sto → Out} {j : Nat} (P : Nat → Env → Sto → Prop) (hv : env[j]? = some (some (.r q))) (hq : st[q]? = some (.lst ds)) (h0 : P 0 env st) (hn : ∀ i e s, P i e s → s[q]? = some (.lst ds))
    (ht : ∀ i d e s, P i e s → ds[i]? = some d → ∃ e1, ga d e = some e1 ∧ (body e1 s).Is (fun e2 s2 => P (i + 1) e2 s2) B) (hN : ∀ e s, P ds.length e s → N e s) : (forM' (anyOf (eVar j)) ga body env st).Is N B := by
  have hi : anyOf (eVar j) env st = .ok (seqIt (.r q) ds.length) st := by
    unfold anyOf
    rw [var_ok hv, Res.bind_ok]
    show optR ((lsq st (.r q)).map fun ds => seqIt (.r q) ds.length) st = _
    have e : lsq st (.r q) = some ds := items_at hq
    rw [e]
    rfl
  unfold forM'
  rw [hi]
  refine o_forI (ds := ds) P (fun i e s h => ?_) ht hN _ 0 env st (by show ds.length ≤ ds.length + 0; omega) (Nat.zero_le _) h0
  show (items s (.r q)).map (fun ds => ds[i]?) = _
  rw [items_at (hn i e s h)]
  rfl
theorem strs_of : ∀ ws : List Str, strsOf ((ws.map T.str).map D.t) = some ws
  | [] => rfl
  | w :: r => by
    show (strsOf ((r.map T.str).map D.t)).map (w :: ·) = _
    rw [strs_of r]; rfl
theorem join_of {y : D} {st : Sto} {sep : Str} {ws : List Str} (h : items st y = some ((ws.map T.str).map D.t)) (hl : (ws.map (·.length)).sum + ws.length * sep.length ≤ 1000000) : joinG (.t (.str sep)) [y] st = some (.t (.str (Str.join sep ws)), st) := by
  show ((items st y).bind fun is => (strsOf is).bind fun ys => if (ys.map (·.length)).sum + ys.length * sep.length ≤ LIM then some (sD (Txt.join sep ys), st) else none) = _
  rw [h]
  show ((strsOf ((ws.map T.str).map D.t)).bind fun ys => if (ys.map (·.length)).sum + ys.length * sep.length ≤ LIM then some (sD (Txt.join sep ys), st) else none) = _
  rw [strs_of]
  show (if (ws.map (·.length)).sum + ws.length * sep.length ≤ LIM then some (sD (Txt.join sep ws), st) else none) = _
  have e : Txt.join sep ws = Str.join sep ws := glued_eq_join sep ws
  rw [if_pos (Nat.le_trans hl limB), e]
  rfl
theorem split_of {a b : Str} (hb : (b.length == 0) = false) (hl : a.length ≤ 100000) (s : Sto) : splitG (.t (.str a)) [.t (.str b)] s = some (.t (.lst ((Txt.split a b).map .str)), s) := by
  show (if (b.length == 0) = false ∧ a.length + 2 ≤ LIM then some (D.t (.lst ((Txt.split a b).map .str)), s) else none) = _
  rw [if_pos ⟨hb, by have := limB; omega⟩]
theorem tup_of {q : Nat} {ts : List T} (h : st[q]? = some (.lst (ts.map .t))) : tupB [.r q] st = some (.t (.tup ts)) := by
  show ((lsq st (.r q)).bind fun is => (plains is).map fun ts => D.t (.tup ts)) = _
  have e : lsq st (.r q) = some (ts.map .t) := items_at h
  rw [e]
  show (plains (ts.map D.t)).map _ = _
  rw [plains_map]
  rfl
theorem meth_ok {n : String} {fa : Env → Sto → Res D} {fs : List (Env → Sto → Res D)} {g : D → List D → Sto → Option (D × Sto)} {d z : D} {ds : List D} (ha : fa env st = .ok d st) (ht : tyOk n st d = true) (hs : argsM fs env st = .ok ds st) (hg : g d ds st = some (z, st)) : methM n g fa fs env st = .ok z st := by
  unfold methM
  rw [ha, Res.bind_ok, if_pos ht, hs, Res.bind_ok, hg]
  rfl
end
end Mi
/-! Rg2 -/
namespace Mi
open PySem PySem.Spec PyProof.Rows L2 RZ StrLaws
section
variable {N : Env → Sto → Prop} {B : D → Sto → Prop} {env : Env} {st : Sto} {fa fb f : Env → Sto → Res D}
/-- a def that leaves no objects gives a plain value, or a list that it made -/
theorem is_defP {n : Nat} {g : Env → Sto → Out} {ts : List T} {t : T} (h : (g (startE n (ts.map .t)) []).Is (fun _ _ => t = .non) fun d _ => d = .t t) : defP n g ts = .ok t := by
  unfold defP
  cases e : g (startE n (ts.map .t)) [] with
  | nx e1 s => rw [e] at h; have h : t = .non := h; rw [h]; rfl
  | rt d s => rw [e] at h; have h : d = .t t := h; rw [h]; rfl
  | bk _ _ => rw [e] at h; exact h.elim
  | ct _ _ => rw [e] at h; exact h.elim
  | exc _ _ _ _ => rw [e] at h; exact h.elim
  | bad => rw [e] at h; exact h.elim
theorem is_defPr {n : Nat} {g : Env → Sto → Out} {ts us : List T} (h : (g (startE n (ts.map .t)) []).Is (fun _ _ => False) fun d s => ∃ q, d = .r q ∧ s[q]? = some (.lst (us.map .t))) : defP n g ts = .ok (.lst us) := by
  unfold defP
  cases e : g (startE n (ts.map .t)) [] with
  | nx e1 s => rw [e] at h; exact h.elim
  | rt d s =>
    rw [e] at h
    obtain ⟨q, rfl, hq⟩ : ∃ q, d = .r q ∧ s[q]? = some (.lst (us.map .t)) := h
    unfold exitP
    simp only [hq, plains_map]
  | bk _ _ => rw [e] at h; exact h.elim
  | ct _ _ => rw [e] at h; exact h.elim
  | exc _ _ _ _ => rw [e] at h; exact h.elim
  | bad => rw [e] at h; exact h.elim
/-- a loop over things that stay, by what holds behind i of them -/
theorem o_forN {fi : Env → Sto → Res ItM} {ga : D → Env → Option Env} {body : Env → Sto → Out} {it : ItM} {ds : List D} {s : Sto} (P : Nat → Env → Sto → Prop) (hi : fi env st = .ok it s) (hn : ∀ st i, it.nth st i = some ds[i]?) (hm : ds.length ≤ it.most) (h0 : P 0 env s)
    (ht : ∀ i d e s, P i e s → ds[i]? = some d → ∃ e1, ga d e = some e1 ∧ (body e1 s).Is (fun e2 s2 => P (i + 1) e2 s2) B) (hN : ∀ e s, P ds.length e s → N e s) : (forM' fi ga body env st).Is N B := by
  unfold forM'
  rw [hi]
  exact o_forI P (fun i _ s _ => hn s i) ht hN _ 0 env s (by omega) (Nat.zero_le _) h0
theorem ifE_ok {g : Env → Sto → Res Bool} {k : Bool} {d : D} (hg : g env st = .ok k st) (h : (if k = true then fa env st else fb env st) = .ok d st) : ifE g fa fb env st = .ok d st := by
  unfold ifE
  rw [hg, Res.bind_ok]
  exact h
theorem bl_ok {r : Res D} {b : Bool} (h : r = .ok (.t (.bl b)) st) : blOf r = .ok b st := by rw [h]; rfl
theorem orS_ok {x y : Str} (ha : fa env st = .ok (.t (.str x)) st) (hl : x.length ≤ 100000) (hb : fb env st = .ok (.t (.str y)) st) : orV fa fb env st = .ok (.t (.str (if x.length = 0 then y else x))) st := by
  unfold orV
  rw [ha, Res.bind_ok]
  show Res.bind (optR (if x.length ≤ LIM then some ((x.length : Int) != 0) else none) st) _ = _
  rw [if_pos (by have := limB; omega)]
  by_cases c : x.length = 0
  · rw [c, if_pos rfl]
    exact hb
  · rw [if_neg c]
    have e : ((x.length : Int) != 0) = true := by
      rw [bne_iff_ne]; omega
    rw [e]
    rfl
theorem tVs_str : ∀ l : List Str, tVs ((l.map T.str).map D.t) = some (l.map L2.V.str)
  | [] => rfl
  | a :: r => by
    show ((some (L2.V.str a)).bind fun v => (tVs ((r.map T.str).map D.t)).map (v :: ·)) = _
    rw [tVs_str r]; rfl
theorem inV_str (n : Str) : ∀ l : List Str, L2.inV (.str n) (l.map L2.V.str) = decide (n ∈ l)
  | [] => by simp [L2.inV]
  | a :: r => by
    have ih := inV_str n r
    unfold L2.inV at ih ⊢
    rw [List.map_cons, List.any_cons, ih]
    by_cases h : a = n
    · subst h; simp [L2.eqV]
    · have h' : ¬ n = a := fun e => h e.symm
      simp [L2.eqV, h, h']
theorem in_lstS (n : Str) (l : List Str) (s : Sto) : inM (.t (.str n)) (.t (.lst (l.map .str))) s = some (.t (.bl (decide (n ∈ l)))) := by
  show (((tVs ((l.map T.str).map D.t)).map fun vs => L2.inV (.str n) vs).map bD) = _
  rw [tVs_str]
  show some (D.t (.bl (L2.inV (.str n) (l.map L2.V.str)))) = _
  rw [inV_str]
theorem in_tupS (n : Str) (l : List Str) (s : Sto) : inM (.t (.str n)) (.t (.tup (l.map .str))) s = some (.t (.bl (decide (n ∈ l)))) := in_lstS n l s
theorem bls_map {α : Type} {f : α → Bool} : ∀ ts : List α, blsOf (ts.map fun t => .t (.bl (f t))) = some (ts.map f)
  | [] => rfl
  | t :: r => by
    show (blsOf (r.map fun t => .t (.bl (f t)))).map (f t :: ·) = _
    rw [bls_map r]; rfl
theorem all_map {α : Type} (f : α → Bool) (ts : List α) (s : Sto) : allB [.t (.lst (ts.map fun t => .bl (f t)))] s = some (.t (.bl (ts.all f))) := by
  show (blsOf ((ts.map fun t => T.bl (f t)).map D.t)).map _ = _
  rw [List.map_map]
  have e := bls_map (f := f) ts
  have z : (ts.map (D.t ∘ fun t => T.bl (f t))) = ts.map fun t => D.t (.bl (f t)) := rfl
  rw [z, e]
  show some (D.t (.bl ((ts.map f).all id))) = _
  rw [List.all_map]
  rfl
theorem str_ext {a b : Str} (h : a.cps.toList = b.cps.toList) : a = b := by
  cases a; cases b
  simp only [Str.mk.injEq]
  exact Array.toList_inj.mp h
theorem cat_cps (a b : Str) : (a ++ b).cps.toList = a.cps.toList ++ b.cps.toList := by
  show (a.cps ++ b.cps).toList = _
  rw [Array.toList_append]
theorem cat_len (a b : Str) : (a ++ b).length = a.length + b.length := by
  show  (a.cps ++ b.cps).size = _
  rw [Array.size_append]
  rfl
theorem join_cps (sep : Str) (a b : Str) (r : List Str) : (Str.join sep (a :: b :: r)).cps.toList = a.cps.toList ++ sep.cps.toList ++ (Str.join sep (b :: r)).cps.toList := by
  show (a ++ sep ++ Str.join sep (b :: r)).cps.toList = _
  rw [cat_cps, cat_cps]
theorem mem_join {sep : Str} {x : Nat} : ∀ {ps : List Str}, x ∈ (Str.join sep ps).cps.toList → x ∈ sep.cps.toList ∨ ∃ p ∈ ps, x ∈ p.cps.toList
  | [], h => by cases h
  | [a], h => .inr ⟨a, List.mem_cons_self, h⟩
  | a :: b :: r, h => by
    rw [join_cps] at h
    rcases  List.mem_append.mp h with h | h
    · rcases  List.mem_append.mp h with h | h
      · exact .inr ⟨a, List.mem_cons_self, h⟩
      · exact .inl h
    · rcases mem_join h with h | ⟨p, hp, h⟩
      · exact .inl h
      · exact .inr ⟨p, List.mem_cons_of_mem _ hp, h⟩
theorem join_first {sep : Str} {x : Nat} {a : Str} {r : List Str} (h : x ∈ a.cps.toList) : x ∈ (Str.join sep (a :: r)).cps.toList := by
  cases r with
  | nil => exact h
  | cons b r =>
    rw [join_cps]
    exact List.mem_append_left _ (List.mem_append_left _ h)
theorem len_cps (x : Str) : x.length = x.cps.toList.length := rfl
theorem sum_len {n : Nat} : ∀ {ps : List Str}, (∀ p ∈ ps, p.length ≤ n) → (ps.map (·.length)).sum ≤ n * ps.length
  | [], _ => Nat.zero_le _
  | a :: r, h => by
    have h1 := h a List.mem_cons_self
    have h2 := sum_len (ps := r) fun p hp => h p (List.mem_cons_of_mem _ hp)
    rw [List.map_cons, List.sum_cons, List.length_cons, Nat.mul_add]
    omega
end
end Mi
/-! K87 -/
namespace K87
open L2 RZ Mi PySem PySem.Spec PyProof.Rows
noncomputable section
def topS (i : Nat) : Stmt := PySem.Challenge.pw_interruptruns_k87_choice_texts_refused.main.body.getD i (.Pass ⟨0, 0, 0, 0⟩)
abbrev s_is_numeral : Stmt := topS 6
theorem sc_is_numeral : FnScope ["word", "digit"] ["word"] (defScope s_is_numeral) := ⟨rfl, rfl, rfl, by decide +kernel, rfl, by decide +kernel, by decide +kernel⟩
abbrev s_read_words : Stmt := topS 7
theorem sc_read_words : FnScope ["words", "form", "found", "word", "part"] ["words", "form"] (defScope s_read_words) := ⟨rfl, rfl, rfl, by decide +kernel, rfl, by decide +kernel, by decide +kernel⟩
abbrev s_is_written : Stmt := topS 8
theorem sc_is_written : FnScope ["word", "part"] ["word", "part"] (defScope s_is_written) := ⟨rfl, rfl, rfl, by decide +kernel, rfl, by decide +kernel, by decide +kernel⟩
abbrev s_read_choice : Stmt := topS 13
theorem sc_read_choice : FnScope ["words", "requests", "taken", "names", "over", "ways", "way"] ["words"] (defScope s_read_choice) := ⟨rfl, rfl, rfl, by decide +kernel, rfl, by decide +kernel, by decide +kernel⟩
abbrev s_parse_choice : Stmt := topS 15
theorem sc_parse_choice : FnScope ["text", "words", "choice"] ["text"] (defScope s_parse_choice) := ⟨rfl, rfl, rfl, by decide +kernel, rfl, by decide +kernel, by decide +kernel⟩
abbrev s_law_pull : Stmt := topS 17
theorem sc_law_pull : FnScope ["_law_pool", "_law_many", "_law_cells", "_law_at", "_law_cell", "_law_seed"] ["_law_pool", "_law_many"] (defScope s_law_pull) := ⟨rfl, rfl, rfl, by decide +kernel, rfl, by decide +kernel, by decide +kernel⟩
abbrev s_law_expected : Stmt := topS 18
theorem sc_law_expected : FnScope ["_law_text_here", "_law_words", "_law_names", "_law_ways", "_law_sign"] ["_law_text_here"] (defScope s_law_expected) := ⟨rfl, rfl, rfl, by decide +kernel, rfl, by decide +kernel, by decide +kernel⟩
abbrev s_law_text : Stmt := topS 19
theorem sc_law_text : FnScope ["_law_pool", "_law_firsts", "_law_seconds", "_law_thirds", "_law_words", "_law_kind", "_law_text_here"] ["_law_pool"] (defScope s_law_text) := ⟨rfl, rfl, rfl, by decide +kernel, rfl, by decide +kernel, by decide +kernel⟩
abbrev s_law : Stmt := topS 20
theorem sc_law : FnScope ["_law_script", "_law_pool", "_law_turn", "_law_text_here", "_law_expected_here", "_law_got", "_law_refused", "e"] ["_law_script"] (defScope s_law) := ⟨rfl, rfl, rfl, by decide +kernel, rfl, by decide +kernel, by decide +kernel⟩
structure XC where
  ParseError : Addr
  RunError : Addr
abbrev s_init_ParseError : Stmt := (clsB (topS 2)).getD 0 (.Pass ⟨0, 0, 0, 0⟩)
theorem sc_init_ParseError : FnScope ["self", "line"] ["self", "line"] (defScope s_init_ParseError) := ⟨rfl, rfl, rfl, by decide +kernel, rfl, by decide +kernel, by decide +kernel⟩
def c_MOST_DIGITS : T := (.int 30)
def c_DIGITS : T := (.str "0123456789")
def c_NONE : T := (.str "-")
def c_CHOICE_LINE : T := (.tup [(.str "NAME"), (.str "NAME"), (.str "NAME")])
def t_WAYS : List (Str × T) := [("0", (.bl false)), ("1", (.bl true))]
def c_is_numeral_1 : Mi.Env → Sto → Res D :=
  lcM [1] (anyOf (eVar 0)) (gN 1) (yesM) (bin inM (eVar 1) (eC c_DIGITS))
def b_is_numeral : Mi.Env → Sto → Out :=
  seqM (ifM (notM (fun env st => blOf (chain leM leM (eC (.int 1)) (callB lenB [eVar 0]) (eC c_MOST_DIGITS) env st))) (retM (eC (.bl false))) (nxM))
    (seqM (ifM (andM (fun env st => blOf (bin eqM (bin ixM (eVar 0) (eC (.int 0))) (eC (.str "0")) env st)) (fun env st => blOf (bin neM (eVar 0) (eC (.str "0")) env st))) (retM (eC (.bl false))) (nxM))
    (retM (callB allB [c_is_numeral_1])))
def m_is_numeral : List T → Rp := defP 2 (b_is_numeral)
def b_is_written : Mi.Env → Sto → Out :=
  seqM (ifM (fun env st => blOf (bin eqM (eVar 1) (eC (.str "N")) env st)) (retM (callP m_is_numeral [eVar 0])) (nxM))
    (seqM (ifM (fun env st => blOf (bin eqM (eVar 1) (eC (.str "NAME")) env st)) (retM (bin neM (eVar 0) (eC (.str "")))) (nxM))
    (retM (bin eqM (eVar 0) (eVar 1))))
def m_is_written : List T → Rp := defP 2 (b_is_written)
def l_read_words_1 : Mi.Env → Sto → Out :=
  forM' (zipOfM [eVar 0, eVar 1]) (gT 2 (gsCons (gN 3) (gsCons (gN 4) (gsNil))))
    (seqM (ifM (notM (truM (callP m_is_written [eVar 3, eVar 4]))) (retM (eC .non)) (nxM))
    (ifM (fun env st => blOf (bin eqM (eVar 4) (eC (.str "N")) env st)) (dropM (methM "list" appG (eVar 2) [callB intB [eVar 3]])) (ifM (fun env st => blOf (bin eqM (eVar 4) (eC (.str "NAME")) env st)) (dropM (methM "list" appG (eVar 2) [eVar 3])) (nxM))))
def b_read_words : Mi.Env → Sto → Out :=
  seqM (ifM (fun env st => blOf (bin neM (callB lenB [eVar 0]) (callB lenB [eVar 1]) env st)) (retM (eC .non)) (nxM))
    (seqM (setM 2 (newM []))
    (seqM (l_read_words_1)
    (retM (eVar 2))))
def m_read_words : List T → Rp := defP 5 (b_read_words)
def c_read_choice_1 : Mi.Env → Sto → Res D :=
  lcM [6] (anyOf (eVar 2)) (gN 6) (yesM) (tabIn t_WAYS (eVar 6))
def c_read_choice_2 : Mi.Env → Sto → Res D :=
  lcM [6] (anyOf (eVar 2)) (gN 6) (yesM) (tabIx t_WAYS (eVar 6))
def b_read_choice : Mi.Env → Sto → Out :=
  seqM (asgM (eVar 0) (gL 3 (gsCons (gN 3) (gsCons (gN 4) (gsCons (gN 5) (gsNil))))))
    (seqM (setM 1 (ifE (fun env st => blOf (bin eqM (eVar 3) (eC c_NONE) env st)) (tupM []) (callB tupB [methM "str" splitG (eVar 3) [eC (.str ",")]])))
    (seqM (setM 2 (ifE (fun env st => blOf (bin eqM (eVar 5) (eC c_NONE) env st)) (eC (.str "")) (eVar 5)))
    (seqM (ifM (orM (fun env st => blOf (bin inM (eC (.str "")) (eVar 1) env st)) (orM (fun env st => blOf (tabNotIn t_WAYS (eVar 4) env st)) (notM (truM (callB allB [c_read_choice_1]))))) (retM (eC .non)) (nxM))
    (retM (tupM [eVar 1, tabIx t_WAYS (eVar 4), callB tupB [c_read_choice_2]])))))
def m_read_choice : List T → Rp := defP 7 (b_read_choice)
def b_parse_choice (xc : XC) : Mi.Env → Sto → Out :=
  seqM (setM 1 (ifE (truM (callB isiB [eVar 0, eC (.ty "str")])) (callP m_read_words [methM "str" splitG (eVar 0) [eC (.str " ")], eC c_CHOICE_LINE]) (eC .non)))
    (seqM (setM 2 (ifE (fun env st => blOf (bin isM (eVar 1) (eC .non) env st)) (eC .non) (callP m_read_choice [eVar 1])))
    (seqM (ifM (fun env st => blOf (bin isM (eVar 2) (eC .non) env st)) (raiseM xc.ParseError "line" (eVar 0)) (nxM))
    (retM (eVar 2))))
def m_parse_choice (xc : XC) : List T → Rp := defP 3 (b_parse_choice xc)
def b_law_pull : Mi.Env → Sto → Out :=
  seqM (setM 2 (bin ixM (eVar 0) (eC (.int 0))))
    (seqM (setM 3 (bin ixM (eVar 0) (eC (.int 1))))
    (seqM (ifM (andM (fun env st => blOf (bin ltM (eVar 3) (callB lenB [eVar 2]) env st)) (fun env st => blOf (bin geM (bin ixM (eVar 2) (eVar 3)) (bin powM (eC (.int 10)) (eC (.int 18))) env st))) (seqM (setM 4 (bin ixM (eVar 2) (eVar 3)))
    (seqM (setItM (eVar 2) (eVar 3) (bin fdivM (eVar 4) (eVar 1)))
    (retM (bin modM (callB intB [eVar 4]) (eVar 1))))) (nxM))
    (seqM (setItM (eVar 0) (eC (.int 1)) (bin addM (eVar 3) (eC (.int 1))))
    (seqM (setM 4 (eC (.int 0)))
    (seqM (ifM (fun env st => blOf (bin gtM (callB lenB [eVar 2]) (eC (.int 0)) env st)) (setM 4 (bin ixM (eVar 2) (bin modM (callB intB [eVar 3]) (callB lenB [eVar 2])))) (nxM))
    (seqM (setM 5 (bin modM (callB intB [bin addM (bin addM (bin addM (bin mulA (eVar 4) (eC (.int 48271))) (bin mulA (bin ixM (eVar 0) (eC (.int 2))) (eC (.int 69621)))) (bin mulA (eVar 3) (eC (.int 40692)))) (eC (.int 11))]) (eC (.int 2147483647))))
    (seqM (setM 5 (bin modM (callB intB [bin addM (bin addM (bin mulA (eVar 5) (eC (.int 16807))) (bin mulA (eVar 3) (eC (.int 7)))) (eC (.int 5))]) (eC (.int 2147483629))))
    (seqM (setItM (eVar 0) (eC (.int 2)) (eVar 5))
    (retM (bin modM (callB intB [bin fdivM (eVar 5) (eC (.int 3))]) (eVar 1)))))))))))
def m_law_pull : List D → Sto → Res D := defG 6 (b_law_pull)
def l_law_expected_1 : Mi.Env → Sto → Out :=
  forM' (anyOf (bin ixM (eVar 1) (eC (.int 2)))) (gN 4)
    (seqM (ifM (fun env st => blOf (bin notInM (eVar 4) (eC (.str "01")) env st)) (retM (eC .non)) (nxM))
    (dropM (methM "list" appG (eVar 3) [bin eqM (eVar 4) (eC (.str "1"))])))
def b_law_expected : Mi.Env → Sto → Out :=
  seqM (ifM (notM (truM (callB isiB [eVar 0, eC (.ty "str")]))) (retM (eC .non)) (nxM))
    (seqM (setM 1 (methM "str" splitG (eVar 0) [eC (.str " ")]))
    (seqM (ifM (orM (fun env st => blOf (bin neM (callB lenB [eVar 1]) (eC (.int 3)) env st)) (orM (fun env st => blOf (bin inM (eC (.str "")) (eVar 1) env st)) (fun env st => blOf (bin notInM (bin ixM (eVar 1) (eC (.int 1))) (lstM [eC (.str "0"), eC (.str "1")]) env st)))) (retM (eC .non)) (nxM))
    (seqM (setM 2 (methM "str" splitG (bin ixM (eVar 1) (eC (.int 0))) [eC (.str ",")]))
    (seqM (ifM (fun env st => blOf (bin eqM (bin ixM (eVar 1) (eC (.int 0))) (eC (.str "-")) env st)) (setM 2 (lstM [])) (nxM))
    (seqM (ifM (fun env st => blOf (bin inM (eC (.str "")) (eVar 2) env st)) (retM (eC .non)) (nxM))
    (seqM (setM 3 (newM []))
    (seqM (ifM (fun env st => blOf (bin neM (bin ixM (eVar 1) (eC (.int 2))) (eC (.str "-")) env st)) (l_law_expected_1) (nxM))
    (retM (tupM [callB tupB [eVar 2], bin eqM (bin ixM (eVar 1) (eC (.int 1))) (eC (.str "1")), callB tupB [eVar 3]])))))))))
def m_law_expected : List T → Rp := defP 5 (b_law_expected)
def b_law_text : Mi.Env → Sto → Out :=
  seqM (setM 1 (lstM [eC (.str "-"), eC (.str "a"), eC (.str "ab,c"), eC (.str "a,,b"), eC (.str ","), eC (.str "a,"), eC (.str ""), eC (.str "c,b,a"), eC (.str "z,z"), eC (.str ",a")]))
    (seqM (setM 2 (lstM [eC (.str "0"), eC (.str "1"), eC (.str "2"), eC (.str ""), eC (.str "01"), eC (.str "True"), eC (.str "-"), eC (.str "10")]))
    (seqM (setM 3 (lstM [eC (.str "-"), eC (.str "1"), eC (.str "0"), eC (.str "10"), eC (.str "0110"), eC (.str "2"), eC (.str ""), eC (.str "1-"), eC (.str "--"), eC (.str "01x")]))
    (seqM (setM 4 (newM [bin ixM (eVar 1) (callG m_law_pull [eVar 0, eC (.int 10)]), bin ixM (eVar 2) (callG m_law_pull [eVar 0, eC (.int 8)]), bin ixM (eVar 3) (callG m_law_pull [eVar 0, eC (.int 10)])]))
    (seqM (ifM (fun env st => blOf (bin eqM (callG m_law_pull [eVar 0, eC (.int 2)]) (eC (.int 1)) env st)) (setItM (eVar 4) (eC (.int 1)) (callB strB [callG m_law_pull [eVar 0, eC (.int 2)]])) (nxM))
    (seqM (setM 5 (callG m_law_pull [eVar 0, eC (.int 16)]))
    (seqM (ifM (fun env st => blOf (bin eqM (eVar 5) (eC (.int 0)) env st)) (setM 4 (sliceM (eVar 4) (oNone) (oSome (eC (.int 2))))) (nxM))
    (seqM (ifM (fun env st => blOf (bin eqM (eVar 5) (eC (.int 1)) env st)) (dropM (methM "list" appG (eVar 4) [eC (.str "1")])) (nxM))
    (seqM (setM 6 (methM "str" joinG (eC (.str " ")) [eVar 4]))
    (seqM (ifM (fun env st => blOf (bin eqM (eVar 5) (eC (.int 2)) env st)) (setM 6 (bin addM (eVar 6) (eC (.str " ")))) (nxM))
    (seqM (ifM (fun env st => blOf (bin eqM (eVar 5) (eC (.int 3)) env st)) (setM 6 (bin addM (eC (.str " ")) (eVar 6))) (nxM))
    (seqM (ifM (fun env st => blOf (bin eqM (eVar 5) (eC (.int 4)) env st)) (setM 6 (bin addM (eVar 6) (eC (.str "\n")))) (nxM))
    (retM (eVar 6)))))))))))))
def m_law_text : List D → Sto → Res D := defT 7 (b_law_text)
def l_law_1 (xc : XC) : Mi.Env → Sto → Out :=
  forM' (rng1 [eC (.int 6)]) (gN 2)
    (seqM (setM 3 (callG m_law_text [eVar 1]))
    (seqM (ifM (fun env st => blOf (bin eqM (callG m_law_pull [eVar 1, eC (.int 12)]) (eC (.int 0)) env st)) (setM 3 (bin ixM (lstM [eC .non, eC (.int 5), tupM [tupM [], eC (.bl false), tupM []], lstM [eC (.str "a"), eC (.str "0"), eC (.str "-")]]) (callG m_law_pull [eVar 1, eC (.int 4)]))) (nxM))
    (seqM (setM 4 (callP m_law_expected [eVar 3]))
    (seqM (setM 5 (eC .non))
    (seqM (setM 6 (eC (.bl false)))
    (seqM (tryAs 7 (fun C => lkB C [(xc.ParseError, true)]) (setM 5 (callP (m_parse_choice xc) [eVar 3]))
    (fun a0 o0 C0 => setM 6 (andV (bin eqM (callB reprB [xfM a0 o0 C0 "line" (eVar 7)]) (callB reprB [eVar 3])) (callB (isXB a0 o0 C0 (kt1 xc.RunError [(xc.ParseError, true)])) [eVar 7, eC (.glb xc.RunError)]))))
    (ifM (orM (fun env st => blOf (bin neM (eVar 6) (bin isM (eVar 4) (eC .non)) env st)) (fun env st => blOf (bin neM (callB reprB [eVar 5]) (callB reprB [eVar 4]) env st))) (retM (eC (.bl false))) (nxM))))))))
def b_law (xc : XC) : Mi.Env → Sto → Out :=
  seqM (setM 1 (newM [newLM [eVar 0], eC (.int 0), eC (.int 0)]))
    (seqM (l_law_1 xc)
    (retM (eC (.bl true))))
def m_law (xc : XC) : List D → Sto → Res D := defG 8 (b_law xc)
structure FA (w : World) (K : PySem.W.Frag) (mg : Str → Option Value) where
  f_is_numeral : Addr
  d_is_numeral : FuncData
  F_is_numeral : Fun K "is_numeral" "is_numeral" s_is_numeral f_is_numeral d_is_numeral
  a_is_numeral : mg "is_numeral" = some (.ref f_is_numeral)
  h_is_numeral : PySem.W.keepIn K (.ref f_is_numeral) = true
  b_is_numeral : Binds K d_is_numeral ["word"] []
  f_read_words : Addr
  d_read_words : FuncData
  F_read_words : Fun K "read_words" "read_words" s_read_words f_read_words d_read_words
  a_read_words : mg "read_words" = some (.ref f_read_words)
  h_read_words : PySem.W.keepIn K (.ref f_read_words) = true
  b_read_words : Binds K d_read_words ["words", "form"] []
  f_is_written : Addr
  d_is_written : FuncData
  F_is_written : Fun K "is_written" "is_written" s_is_written f_is_written d_is_written
  a_is_written : mg "is_written" = some (.ref f_is_written)
  h_is_written : PySem.W.keepIn K (.ref f_is_written) = true
  b_is_written : Binds K d_is_written ["word", "part"] []
  f_read_choice : Addr
  d_read_choice : FuncData
  F_read_choice : Fun K "read_choice" "read_choice" s_read_choice f_read_choice d_read_choice
  a_read_choice : mg "read_choice" = some (.ref f_read_choice)
  h_read_choice : PySem.W.keepIn K (.ref f_read_choice) = true
  b_read_choice : Binds K d_read_choice ["words"] []
  f_parse_choice : Addr
  d_parse_choice : FuncData
  F_parse_choice : Fun K "parse_choice" "parse_choice" s_parse_choice f_parse_choice d_parse_choice
  a_parse_choice : mg "parse_choice" = some (.ref f_parse_choice)
  h_parse_choice : PySem.W.keepIn K (.ref f_parse_choice) = true
  b_parse_choice : Binds K d_parse_choice ["text"] []
  f_law_pull : Addr
  d_law_pull : FuncData
  F_law_pull : Fun K "_law_pull" "_law_pull" s_law_pull f_law_pull d_law_pull
  a_law_pull : mg "_law_pull" = some (.ref f_law_pull)
  h_law_pull : PySem.W.keepIn K (.ref f_law_pull) = true
  b_law_pull : Binds K d_law_pull ["_law_pool", "_law_many"] []
  f_law_expected : Addr
  d_law_expected : FuncData
  F_law_expected : Fun K "_law_expected" "_law_expected" s_law_expected f_law_expected d_law_expected
  a_law_expected : mg "_law_expected" = some (.ref f_law_expected)
  h_law_expected : PySem.W.keepIn K (.ref f_law_expected) = true
  b_law_expected : Binds K d_law_expected ["_law_text_here"] []
  f_law_text : Addr
  d_law_text : FuncData
  F_law_text : Fun K "_law_text" "_law_text" s_law_text f_law_text d_law_text
  a_law_text : mg "_law_text" = some (.ref f_law_text)
  h_law_text : PySem.W.keepIn K (.ref f_law_text) = true
  b_law_text : Binds K d_law_text ["_law_pool"] []
  f_law : Addr
  d_law : FuncData
  F_law : Fun K "law" "law" s_law f_law d_law
  a_law : mg "law" = some (.ref f_law)
  h_law : PySem.W.keepIn K (.ref f_law) = true
  b_law : Binds K d_law ["_law_script"] []
  xc : XC
  xa_ParseError : mg "ParseError" = some (.ref xc.ParseError)
  xa_RunError : mg "RunError" = some (.ref xc.RunError)
  xs_ParseError : XCls K xc.ParseError "line"
  fi_ParseError : Addr
  di_ParseError : FuncData
  Fi_ParseError : Fun K "__init__" "ParseError.__init__" s_init_ParseError fi_ParseError di_ParseError
  xi_ParseError : PySem.W.findIn K (.ref xc.ParseError) "__init__" = some (some (.ref fi_ParseError))
  xt_ParseError : PySem.W.typeIn K (.ref fi_ParseError) = some (.type "function")
  xb_ParseError : Binds K di_ParseError ["self", "line"] []
  xe_ParseError_ParseError : PySem.W.exmOne K (.ref xc.ParseError) (.ref xc.ParseError) = some true
  xk_ParseError_RunError : PySem.W.kitOne K (.ref xc.ParseError) (.ref xc.RunError) = some true
  n_len : mg "len" = none
  n_all : mg "all" = none
  n_zip : mg "zip" = none
  n_int : mg "int" = none
  n_tuple : mg "tuple" = none
  n_str : mg "str" = none
  n_isinstance : mg "isinstance" = none
  n_list : mg "list" = none
  n_range : mg "range" = none
  n_repr : mg "repr" = none
  c_MOST_DIGITS : Con K mg "MOST_DIGITS" c_MOST_DIGITS
  c_DIGITS : Con K mg "DIGITS" c_DIGITS
  c_NONE : Con K mg "NONE" c_NONE
  c_CHOICE_LINE : Con K mg "CHOICE_LINE" c_CHOICE_LINE
  t_WAYS : Tab K w mg "WAYS" t_WAYS
theorem un1 {k : Nat} {A : Around} (room : Room k A) : A.units + 1 < cLine := by have := room.un; omega
theorem un65 {k : Nat} {A : Around} (room : Room k A) : A.units + 65 < cLine := by have := room.un; omega
theorem uns {k : Nat} {A : Around} (room : Room k A) : A.units + 64 < cLine := room.units
section
variable {P : Program} {w : World}  {K : PySem.W.Frag}  {mg : Str → Option Value}  {base : Heap}
theorem ok_init_ParseError (A : FA w K mg) : FnOk P w K mg base CX0 1 A.fi_ParseError A.di_ParseError ["self", "line"] (spI "line" A.xc.ParseError) :=
  init_ok A.Fi_ParseError sc_init_ParseError A.xs_ParseError rfl rfl rfl (by decide) (by decide) (by decide) (by decide) fun _ => rfl
theorem ok_is_numeral (A : FA w K mg) : FnG P w K mg base 1 A.f_is_numeral A.d_is_numeral ["word"] (spP K 1 (m_is_numeral)) :=
  okP (k := 0) A.F_is_numeral sc_is_numeral rfl rfl fun cd B outer s H E room gd => (rss_cons (rs_if (rt_not (rt_chain o_le o_le re_int (re_callB c_len (by rfl) A.n_len rfl (ra_cons (re_var 0) ra_nil)) (re_con A.c_MOST_DIGITS (by rfl)))) (rss_one (rs_ret re_bl)) rss_nil)
    (rss_cons (rs_if (PW.pt (rw_and (rt_cmp (o_eq (uns room)) (re_ix x_ix (re_var 0) re_int) re_str rfl) (rw_and1 (rt_cmp (o_ne (uns room)) (re_var 0) re_str rfl)))) (rss_one (rs_ret re_bl)) rss_nil)
    (rss_one (rs_ret (re_callB (c_all rfl) (by rfl) A.n_all rfl (ra_cons (re_lc (own := [("digit", 1)]) rfl sc_is_numeral.nd (ri_any (re_var 0)) (by exact blkOk_by (N := ["word", "digit"]) (sc := defScope s_is_numeral) (by decide +kernel)) (fun _ _ _ _ _ => (rg_name (i := 1) sc_is_numeral.nd rfl (by first | exact .inl rfl | exact .inr rfl))) (fun _ _ _ _ _ => rts_nil) (fun _ _ _ _ _ => (re_cmp o_in (re_var 1) (re_con A.c_DIGITS (by rfl)) rfl))) ra_nil))))))
theorem ok_is_written (A : FA w K mg) : FnG P w K mg base 2 A.f_is_written A.d_is_written ["word", "part"] (spP K 2 (m_is_written)) :=
  okP (k := 1) A.F_is_written sc_is_written rfl rfl fun cd B outer s H E room gd => (rss_cons (rs_if (rt_cmp (o_eq (uns room)) (re_var 1) re_str rfl) (rss_one (rs_ret (re_callP (ok_is_numeral A) (room.mono (by omega)) gd takes_def (by rfl) A.a_is_numeral A.h_is_numeral A.b_is_numeral (ra_cons (re_var 0) ra_nil)))) rss_nil)
    (rss_cons (rs_if (rt_cmp (o_eq (uns room)) (re_var 1) re_str rfl) (rss_one (rs_ret (re_cmp (o_ne (uns room)) (re_var 0) re_str rfl))) rss_nil)
    (rss_one (rs_ret (re_cmp (o_eq (uns room)) (re_var 0) (re_var 1) rfl)))))
theorem ok_read_words (A : FA w K mg) : FnG P w K mg base 3 A.f_read_words A.d_read_words ["words", "form"] (spP K 2 (m_read_words)) :=
  okP (k := 2) A.F_read_words sc_read_words rfl rfl fun cd B outer s H E room gd => (rss_cons (rs_if (rt_cmp (o_ne (uns room)) (re_callB c_len (by rfl) A.n_len rfl (ra_cons (re_var 0) ra_nil)) (re_callB c_len (by rfl) A.n_len rfl (ra_cons (re_var 1) ra_nil)) rfl) (rss_one (rs_ret re_non)) rss_nil)
    (rss_cons (rs_set (i := 2) sc_read_words.nd rfl (.inl rfl) (re_new ra_nil))
    (rss_cons (rs_for (us := [3, 4]) own_def rfl (ri_zipM (by rfl) A.n_zip (ra_cons (re_var 0) (ra_cons (re_var 1) ra_nil))) (rg_tup rfl (rgs_cons (rg_name (i := 3) sc_read_words.nd rfl (by first | exact .inl rfl | exact .inr rfl)) (rgs_cons (rg_name (i := 4) sc_read_words.nd rfl (by first | exact .inl rfl | exact .inr rfl)) rgs_nil)))
    (rss_cons (rs_if (rt_not (rt_val (re_callP (ok_is_written A) (room.mono (by omega)) gd takes_def (by rfl) A.a_is_written A.h_is_written A.b_is_written (ra_cons (re_var 3) (ra_cons (re_var 4) ra_nil))))) (rss_one (rs_ret re_non)) rss_nil)
    (rss_one (rs_if (rt_cmp (o_eq (uns room)) (re_var 4) re_str rfl) (rss_one (rs_expr (re_bm PySem.F.plainAttrs_list PySem.F.slot_list_append PySem.F.type_list_append m_append (re_var 2) (ra_cons (re_callTy c_int (by rfl) A.n_int rfl (ra_cons (re_var 3) ra_nil)) ra_nil)))) (rss_one (rs_if (rt_cmp (o_eq (uns room)) (re_var 4) re_str rfl) (rss_one (rs_expr (re_bm PySem.F.plainAttrs_list PySem.F.slot_list_append PySem.F.type_list_append m_append (re_var 2) (ra_cons (re_var 3) ra_nil)))) rss_nil))))))
    (rss_one (rs_ret (re_var 2))))))
theorem ok_read_choice (A : FA w K mg) : FnG P w K mg base 1 A.f_read_choice A.d_read_choice ["words"] (spP K 1 (m_read_choice)) :=
  okP (k := 0) A.F_read_choice sc_read_choice rfl rfl fun cd B outer s H E room gd => (rss_cons (rs_asg (us := [3, 4, 5]) (re_var 0) (rg_lst rfl (rgs_cons (rg_name (i := 3) sc_read_choice.nd rfl (by first | exact .inl rfl | exact .inr rfl)) (rgs_cons (rg_name (i := 4) sc_read_choice.nd rfl (by first | exact .inl rfl | exact .inr rfl)) (rgs_cons (rg_name (i := 5) sc_read_choice.nd rfl (by first | exact .inl rfl | exact .inr rfl)) rgs_nil)))))
    (rss_cons (rs_set (i := 1) sc_read_choice.nd rfl (.inl rfl) (re_if (rt_cmp (o_eq (uns room)) (re_var 3) (re_con A.c_NONE (by rfl)) rfl) (re_tup ra_nil) (re_callTy c_tup (by rfl) A.n_tuple rfl (ra_cons (re_bm PySem.F.plainAttrs_str PySem.F.slot_str_split PySem.F.type_str_split m_split (re_var 3) (ra_cons re_str ra_nil)) ra_nil))))
    (rss_cons (rs_set (i := 2) sc_read_choice.nd rfl (.inl rfl) (re_if (rt_cmp (o_eq (uns room)) (re_var 5) (re_con A.c_NONE (by rfl)) rfl) re_str (re_var 5)))
    (rss_cons (rs_if (PW.pt (rw_or (rt_cmp o_in re_str (re_var 1) rfl) (rw_or (rt_tabNotIn A.t_WAYS (by rfl) (re_var 4)) (rw_or1 (rt_not (rt_val (re_callB (c_all rfl) (by rfl) A.n_all rfl (ra_cons (re_lc (own := [("way", 6)]) rfl sc_read_choice.nd (ri_any (re_var 2)) (by exact blkOk_by (N := ["words", "requests", "taken", "names", "over", "ways", "way"]) (sc := defScope s_read_choice) (by decide +kernel)) (fun _ _ _ _ _ => (rg_name (i := 6) sc_read_choice.nd rfl (by first | exact .inl rfl | exact .inr rfl))) (fun _ _ _ _ _ => rts_nil) (fun _ _ _ _ _ => (re_tabIn A.t_WAYS (by rfl) (re_var 6)))) ra_nil)))))))) (rss_one (rs_ret re_non)) rss_nil)
    (rss_one (rs_ret (re_tup (ra_cons (re_var 1) (ra_cons (re_tabIx A.t_WAYS (by rfl) (re_var 4)) (ra_cons (re_callTy c_tup (by rfl) A.n_tuple rfl (ra_cons (re_lc (own := [("way", 6)]) rfl sc_read_choice.nd (ri_any (re_var 2)) (by exact blkOk_by (N := ["words", "requests", "taken", "names", "over", "ways", "way"]) (sc := defScope s_read_choice) (by decide +kernel)) (fun _ _ _ _ _ => (rg_name (i := 6) sc_read_choice.nd rfl (by first | exact .inl rfl | exact .inr rfl))) (fun _ _ _ _ _ => rts_nil) (fun _ _ _ _ _ => (re_tabIx A.t_WAYS (by rfl) (re_var 6)))) ra_nil)) ra_nil))))))))))
theorem ok_parse_choice (A : FA w K mg) : FnG P w K mg base 4 A.f_parse_choice A.d_parse_choice ["text"] (spP K 1 (m_parse_choice A.xc)) :=
  okP (k := 3) A.F_parse_choice sc_parse_choice rfl rfl fun cd B outer s H E room gd => (rss_cons (rs_set (i := 1) sc_parse_choice.nd rfl (.inl rfl) (re_if (rt_val (re_callB c_isi (by rfl) A.n_isinstance rfl (ra_cons (re_var 0) (ra_cons (re_bltn (by rfl) A.n_str rfl) ra_nil)))) (re_callP (ok_read_words A) (room.mono (by omega)) gd takes_def (by rfl) A.a_read_words A.h_read_words A.b_read_words (ra_cons (re_bm PySem.F.plainAttrs_str PySem.F.slot_str_split PySem.F.type_str_split m_split (re_var 0) (ra_cons re_str ra_nil)) (ra_cons (re_con A.c_CHOICE_LINE (by rfl)) ra_nil))) re_non))
    (rss_cons (rs_set (i := 2) sc_parse_choice.nd rfl (.inl rfl) (re_if (rt_cmp o_is (re_var 1) re_non rfl) re_non (re_callP (ok_read_choice A) (room.mono (by omega)) gd takes_def (by rfl) A.a_read_choice A.h_read_choice A.b_read_choice (ra_cons (re_var 1) ra_nil))))
    (rss_cons (rs_if (rt_cmp o_is (re_var 2) re_non rfl) (rss_one (rs_raise rfl takes_def A.xs_ParseError A.xi_ParseError A.xt_ParseError (ok_init_ParseError A) (room.mono (by omega)) A.xb_ParseError (by rfl) A.xa_ParseError (re_var 0))) rss_nil)
    (rss_one (rs_ret (re_var 2))))))
theorem ok_law_pull (A : FA w K mg) : FnG P w K mg base 1 A.f_law_pull A.d_law_pull ["_law_pool", "_law_many"] (spG K 2 (m_law_pull)) :=
  okG (k := 0) A.F_law_pull sc_law_pull rfl rfl fun cd B outer s H E room gd => (rss_cons (rs_set (i := 2) sc_law_pull.nd rfl (.inl rfl) (re_ix x_ix (re_var 0) re_int))
    (rss_cons (rs_set (i := 3) sc_law_pull.nd rfl (.inl rfl) (re_ix x_ix (re_var 0) re_int))
    (rss_cons (rs_if (PW.pt (rw_and (rt_cmp o_lt (re_var 3) (re_callB c_len (by rfl) A.n_len rfl (ra_cons (re_var 2) ra_nil)) rfl) (rw_and1 (rt_cmp o_ge (re_ix x_ix (re_var 2) (re_var 3)) (re_op o_pow re_int re_int) rfl)))) (rss_cons (rs_set (i := 4) sc_law_pull.nd rfl (.inl rfl) (re_ix x_ix (re_var 2) (re_var 3)))
    (rss_cons (rs_setItem (re_var 2) (re_var 3) (re_op o_fdiv (re_var 4) (re_var 1)))
    (rss_one (rs_ret (re_op o_mod (re_callTy c_int (by rfl) A.n_int rfl (ra_cons (re_var 4) ra_nil)) (re_var 1)))))) rss_nil)
    (rss_cons (rs_setItem (re_var 0) re_int (re_op o_add (re_var 3) re_int))
    (rss_cons (rs_set (i := 4) sc_law_pull.nd rfl (.inl rfl) re_int)
    (rss_cons (rs_if (rt_cmp o_gt (re_callB c_len (by rfl) A.n_len rfl (ra_cons (re_var 2) ra_nil)) re_int rfl) (rss_one (rs_set (i := 4) sc_law_pull.nd rfl (.inl rfl) (re_ix x_ix (re_var 2) (re_op o_mod (re_callTy c_int (by rfl) A.n_int rfl (ra_cons (re_var 3) ra_nil)) (re_callB c_len (by rfl) A.n_len rfl (ra_cons (re_var 2) ra_nil)))))) rss_nil)
    (rss_cons (rs_set (i := 5) sc_law_pull.nd rfl (.inl rfl) (re_op o_mod (re_callTy c_int (by rfl) A.n_int rfl (ra_cons (re_op o_add (re_op o_add (re_op o_add (re_op o_mulA (re_var 4) re_int) (re_op o_mulA (re_ix x_ix (re_var 0) re_int) re_int)) (re_op o_mulA (re_var 3) re_int)) re_int) ra_nil)) re_int))
    (rss_cons (rs_set (i := 5) sc_law_pull.nd rfl (.inl rfl) (re_op o_mod (re_callTy c_int (by rfl) A.n_int rfl (ra_cons (re_op o_add (re_op o_add (re_op o_mulA (re_var 5) re_int) (re_op o_mulA (re_var 3) re_int)) re_int) ra_nil)) re_int))
    (rss_cons (rs_setItem (re_var 0) re_int (re_var 5))
    (rss_one (rs_ret (re_op o_mod (re_callTy c_int (by rfl) A.n_int rfl (ra_cons (re_op o_fdiv (re_var 5) re_int) ra_nil)) (re_var 1)))))))))))))
theorem ok_law_expected (A : FA w K mg) : FnG P w K mg base 1 A.f_law_expected A.d_law_expected ["_law_text_here"] (spP K 1 (m_law_expected)) :=
  okP (k := 0) A.F_law_expected sc_law_expected rfl rfl fun cd B outer s H E room gd => (rss_cons (rs_if (rt_not (rt_val (re_callB c_isi (by rfl) A.n_isinstance rfl (ra_cons (re_var 0) (ra_cons (re_bltn (by rfl) A.n_str rfl) ra_nil))))) (rss_one (rs_ret re_non)) rss_nil)
    (rss_cons (rs_set (i := 1) sc_law_expected.nd rfl (.inl rfl) (re_bm PySem.F.plainAttrs_str PySem.F.slot_str_split PySem.F.type_str_split m_split (re_var 0) (ra_cons re_str ra_nil)))
    (rss_cons (rs_if (PW.pt (rw_or (rt_cmp (o_ne (uns room)) (re_callB c_len (by rfl) A.n_len rfl (ra_cons (re_var 1) ra_nil)) re_int rfl) (rw_or (rt_cmp o_in re_str (re_var 1) rfl) (rw_or1 (rt_cmp o_notIn (re_ix x_ix (re_var 1) re_int) (re_lst (ra_cons re_str (ra_cons re_str ra_nil))) rfl))))) (rss_one (rs_ret re_non)) rss_nil)
    (rss_cons (rs_set (i := 2) sc_law_expected.nd rfl (.inl rfl) (re_bm PySem.F.plainAttrs_str PySem.F.slot_str_split PySem.F.type_str_split m_split (re_ix x_ix (re_var 1) re_int) (ra_cons re_str ra_nil)))
    (rss_cons (rs_if (rt_cmp (o_eq (uns room)) (re_ix x_ix (re_var 1) re_int) re_str rfl) (rss_one (rs_set (i := 2) sc_law_expected.nd rfl (.inl rfl) (re_lst ra_nil))) rss_nil)
    (rss_cons (rs_if (rt_cmp o_in re_str (re_var 2) rfl) (rss_one (rs_ret re_non)) rss_nil)
    (rss_cons (rs_set (i := 3) sc_law_expected.nd rfl (.inl rfl) (re_new ra_nil))
    (rss_cons (rs_if (rt_cmp (o_ne (uns room)) (re_ix x_ix (re_var 1) re_int) re_str rfl) (rss_one (rs_for (us := [4]) own_def rfl (ri_any (re_ix x_ix (re_var 1) re_int)) (rg_name (i := 4) sc_law_expected.nd rfl (by first | exact .inl rfl | exact .inr rfl))
    (rss_cons (rs_if (rt_cmp o_notIn (re_var 4) re_str rfl) (rss_one (rs_ret re_non)) rss_nil)
    (rss_one (rs_expr (re_bm PySem.F.plainAttrs_list PySem.F.slot_list_append PySem.F.type_list_append m_append (re_var 3) (ra_cons (re_cmp (o_eq (uns room)) (re_var 4) re_str rfl) ra_nil))))))) rss_nil)
    (rss_one (rs_ret (re_tup (ra_cons (re_callTy c_tup (by rfl) A.n_tuple rfl (ra_cons (re_var 2) ra_nil)) (ra_cons (re_cmp (o_eq (uns room)) (re_ix x_ix (re_var 1) re_int) re_str rfl) (ra_cons (re_callTy c_tup (by rfl) A.n_tuple rfl (ra_cons (re_var 3) ra_nil)) ra_nil))))))))))))))
theorem ok_law_text (A : FA w K mg) : FnG P w K mg base 2 A.f_law_text A.d_law_text ["_law_pool"] (spG K 1 (m_law_text)) :=
  okT (k := 1) A.F_law_text sc_law_text rfl rfl fun cd B outer s H E room gd => (rss_cons (rs_set (i := 1) sc_law_text.nd rfl (.inl rfl) (re_lst (ra_cons re_str (ra_cons re_str (ra_cons re_str (ra_cons re_str (ra_cons re_str (ra_cons re_str (ra_cons re_str (ra_cons re_str (ra_cons re_str (ra_cons re_str ra_nil))))))))))))
    (rss_cons (rs_set (i := 2) sc_law_text.nd rfl (.inl rfl) (re_lst (ra_cons re_str (ra_cons re_str (ra_cons re_str (ra_cons re_str (ra_cons re_str (ra_cons re_str (ra_cons re_str (ra_cons re_str ra_nil))))))))))
    (rss_cons (rs_set (i := 3) sc_law_text.nd rfl (.inl rfl) (re_lst (ra_cons re_str (ra_cons re_str (ra_cons re_str (ra_cons re_str (ra_cons re_str (ra_cons re_str (ra_cons re_str (ra_cons re_str (ra_cons re_str (ra_cons re_str ra_nil))))))))))))
    (rss_cons (rs_set (i := 4) sc_law_text.nd rfl (.inl rfl) (re_new (ra_cons (re_ix x_ix (re_var 1) (re_callG (ok_law_pull A) (room.mono (by omega)) gd takes_def (by rfl) A.a_law_pull A.h_law_pull A.b_law_pull (ra_cons (re_var 0) (ra_cons re_int ra_nil)))) (ra_cons (re_ix x_ix (re_var 2) (re_callG (ok_law_pull A) (room.mono (by omega)) gd takes_def (by rfl) A.a_law_pull A.h_law_pull A.b_law_pull (ra_cons (re_var 0) (ra_cons re_int ra_nil)))) (ra_cons (re_ix x_ix (re_var 3) (re_callG (ok_law_pull A) (room.mono (by omega)) gd takes_def (by rfl) A.a_law_pull A.h_law_pull A.b_law_pull (ra_cons (re_var 0) (ra_cons re_int ra_nil)))) ra_nil)))))
    (rss_cons (rs_if (rt_cmp (o_eq (uns room)) (re_callG (ok_law_pull A) (room.mono (by omega)) gd takes_def (by rfl) A.a_law_pull A.h_law_pull A.b_law_pull (ra_cons (re_var 0) (ra_cons re_int ra_nil))) re_int rfl) (rss_one (rs_setItem (re_var 4) re_int (re_callTy (c_str room gd) (by rfl) A.n_str rfl (ra_cons (re_callG (ok_law_pull A) (room.mono (by omega)) gd takes_def (by rfl) A.a_law_pull A.h_law_pull A.b_law_pull (ra_cons (re_var 0) (ra_cons re_int ra_nil))) ra_nil)))) rss_nil)
    (rss_cons (rs_set (i := 5) sc_law_text.nd rfl (.inl rfl) (re_callG (ok_law_pull A) (room.mono (by omega)) gd takes_def (by rfl) A.a_law_pull A.h_law_pull A.b_law_pull (ra_cons (re_var 0) (ra_cons re_int ra_nil))))
    (rss_cons (rs_if (rt_cmp (o_eq (uns room)) (re_var 5) re_int rfl) (rss_one (rs_set (i := 4) sc_law_text.nd rfl (.inl rfl) (re_slice (re_var 4) ro_none (ro_some re_int)))) rss_nil)
    (rss_cons (rs_if (rt_cmp (o_eq (uns room)) (re_var 5) re_int rfl) (rss_one (rs_expr (re_bm PySem.F.plainAttrs_list PySem.F.slot_list_append PySem.F.type_list_append m_append (re_var 4) (ra_cons re_str ra_nil)))) rss_nil)
    (rss_cons (rs_set (i := 6) sc_law_text.nd rfl (.inl rfl) (re_bm PySem.F.plainAttrs_str PySem.F.slot_str_join PySem.F.type_str_join m_join re_str (ra_cons (re_var 4) ra_nil)))
    (rss_cons (rs_if (rt_cmp (o_eq (uns room)) (re_var 5) re_int rfl) (rss_one (rs_set (i := 6) sc_law_text.nd rfl (.inl rfl) (re_op o_add (re_var 6) re_str))) rss_nil)
    (rss_cons (rs_if (rt_cmp (o_eq (uns room)) (re_var 5) re_int rfl) (rss_one (rs_set (i := 6) sc_law_text.nd rfl (.inl rfl) (re_op o_add re_str (re_var 6)))) rss_nil)
    (rss_cons (rs_if (rt_cmp (o_eq (uns room)) (re_var 5) re_int rfl) (rss_one (rs_set (i := 6) sc_law_text.nd rfl (.inl rfl) (re_op o_add (re_var 6) re_str))) rss_nil)
    (rss_one (rs_ret (re_var 6)))))))))))))))
theorem ok_law (A : FA w K mg) : FnG P w K mg base 5 A.f_law A.d_law ["_law_script"] (spG K 1 (m_law A.xc)) :=
  okG (k := 4) A.F_law sc_law rfl rfl fun cd B outer s H E room gd => (rss_cons (rs_set (i := 1) sc_law.nd rfl (.inl rfl) (re_new (ra_cons (re_newL (by rfl) A.n_list rfl (ra_cons (re_var 0) ra_nil)) (ra_cons re_int (ra_cons re_int ra_nil))) (by exact Nat.le_of_ble_eq_true rfl)))
    (rss_cons (rs_for (us := [2]) own_def rfl (ri_range1 (by rfl) A.n_range (ra_cons re_int ra_nil)) (rg_name (i := 2) sc_law.nd rfl (by first | exact .inl rfl | exact .inr rfl))
    (rss_cons (rs_set (i := 3) sc_law.nd rfl (.inl rfl) (re_callG (ok_law_text A) (room.mono (by omega)) gd takes_def (by rfl) A.a_law_text A.h_law_text A.b_law_text (ra_cons (re_var 1) ra_nil)))
    (rss_cons (rs_if (rt_cmp (o_eq (uns room)) (re_callG (ok_law_pull A) (room.mono (by omega)) gd takes_def (by rfl) A.a_law_pull A.h_law_pull A.b_law_pull (ra_cons (re_var 1) (ra_cons re_int ra_nil))) re_int rfl) (rss_one (rs_set (i := 3) sc_law.nd rfl (.inl rfl) (re_ix x_ix (re_lst (ra_cons re_non (ra_cons re_int (ra_cons (re_tup (ra_cons (re_tup ra_nil (by exact Nat.le_of_ble_eq_true rfl)) (ra_cons re_bl (ra_cons (re_tup ra_nil (by exact Nat.le_of_ble_eq_true rfl)) ra_nil))) (by exact Nat.le_of_ble_eq_true rfl)) (ra_cons (re_lst (ra_cons re_str (ra_cons re_str (ra_cons re_str ra_nil))) (by exact Nat.le_of_ble_eq_true rfl)) ra_nil)))) (by exact Nat.le_of_ble_eq_true rfl)) (re_callG (ok_law_pull A) (room.mono (by omega)) gd takes_def (by rfl) A.a_law_pull A.h_law_pull A.b_law_pull (ra_cons (re_var 1) (ra_cons re_int ra_nil)))))) rss_nil)
    (rss_cons (rs_set (i := 4) sc_law.nd rfl (.inl rfl) (re_callP (ok_law_expected A) (room.mono (by omega)) gd takes_def (by rfl) A.a_law_expected A.h_law_expected A.b_law_expected (ra_cons (re_var 3) ra_nil)))
    (rss_cons (rs_set (i := 5) sc_law.nd rfl (.inl rfl) re_non)
    (rss_cons (rs_set (i := 6) sc_law.nd rfl (.inl rfl) re_bl)
    (rss_cons (have kn0 : ∀ C, lkB C [(A.xc.ParseError, true)] = some true → XCls K C "line" := fun C h => lkB_all (P := fun C b => b = true → XCls K C "line") (l := [(A.xc.ParseError, true)]) ⟨(fun _ => A.xs_ParseError), trivial⟩ h rfl; rs_tryAs (i := 7) rfl rfl sc_law.nd rfl rfl (by rfl) A.xa_ParseError takes_def (fun C b h => lkB_all (P := fun C b => PySem.W.exmOne K (.ref C) (.ref A.xc.ParseError) = some b) (l := [(A.xc.ParseError, true)]) ⟨A.xe_ParseError_ParseError, trivial⟩ h) (fun W1 pn1 xe1 tk1 hp1 => (rss_one (rs_set (i := 5) sc_law.nd rfl (.inl rfl) (re_callP (ok_parse_choice A) (room.mono (by omega)) gd tk1 (by rfl) A.a_parse_choice A.h_parse_choice A.b_parse_choice (ra_cons (re_var 3) ra_nil)))))
    (fun a0 oe0 C0 o0 pn0 hC0 hz0 hf0 => (rss_one (rs_set (i := 6) sc_law.nd rfl (.inl rfl) (re_and (re_cmp (o_eq (uns3 room)) (re_callB (c_reprU (un3 room) gd) (by rfl) A.n_repr rfl (ra_cons (re_xf (kn0 C0 hC0) hz0 hf0 (re_var 7)) ra_nil)) (re_callB (c_reprU (un3 room) gd) (by rfl) A.n_repr rfl (ra_cons (re_var 3) ra_nil)) rfl) (re_one (re_callB (c_isX (kn0 C0 hC0) hz0 hf0 (kt1_ok (B0 := A.xc.RunError) (l := [(A.xc.ParseError, true)]) ⟨A.xk_ParseError_RunError, trivial⟩)) (by rfl) A.n_isinstance rfl (ra_cons (re_var 7) (ra_cons (re_cls (by rfl) A.xa_RunError) ra_nil)))))))))
    (rss_one (rs_if (PW.pt (rw_or (rt_cmp (o_ne (uns room)) (re_var 6) (re_cmp o_is (re_var 4) re_non rfl) rfl) (rw_or1 (rt_cmp (o_ne (uns room)) (re_callB (c_reprU (un2 room) gd) (by rfl) A.n_repr rfl (ra_cons (re_var 5) ra_nil)) (re_callB (c_reprU (un2 room) gd) (by rfl) A.n_repr rfl (ra_cons (re_var 4) ra_nil)) rfl)))) (rss_one (rs_ret re_bl)) rss_nil)))))))))
    (rss_one (rs_ret re_bl))))
end
end
end K87
/-! K87m -/
namespace K87
open Mi L2 PySem PySem.Spec PyProof.Rows
theorem all_mk {l : PySem.W.OpenLaw} {w : World} {K : PySem.W.Frag} {h : Heap} {mg : Str → Option Value} {fa cx0 cx1 f0 f1 f2 f3 f4 f5 f6 f7 f8 d0 fi0 : Addr} {od0 an0 od1 an1 od2 an2 od3 an3 od4 an4 od5 an5 od6 an6 od7 an7 od8 an8 oi0 ai0 : Option Addr} {sl0 sl1 sl2 sl3 sl4 sl5 sl6 sl7 sl8 si0 : Array (Option Value)} {oc0 kV0 dc0 pm0 cd0 ct0 oc1 kV1 dc1 pm1 cd1 ct1 oc2 kV2 dc2 pm2 cd2 ct2 oc3 kV3 dc3 pm3 cd3 ct3 oc4 kV4 dc4 pm4 cd4 ct4 oc5 kV5 dc5 pm5 cd5 ct5 oc6 kV6 dc6 pm6 cd6 ct6 oc7 kV7 dc7 pm7 cd7 ct7 oc8 kV8 dc8 pm8 cd8 ct8 u0 u1 u2 u3 ic0 iV0 id0 ip0 ie0 it0 : Value} (X : K.In h) (G : h.Ns mainGlobals mg) (hfa : mg "law" = some (.ref fa))
    (xa0 : PySem.W.nsIn K mainGlobals "ParseError" = some (some (.ref cx0)))
    (xa1 : PySem.W.nsIn K mainGlobals "RunError" = some (some (.ref cx1)))
    (ysp : PySem.W.specialIn K (.builtin "object.__class__") "__get__" = some (some (.builtin "getset_descriptor.__get__"))) (ytk : PySem.W.takesIn K (.builtin "object.__class__") = some true)
    (a0 : PySem.W.nsIn K mainGlobals "is_numeral" = some (some (.ref f0)))
    (l0 : K.lookup f0 = some ⟨oc0, od0, .func (PySem.W.fnOf "is_numeral" "is_numeral" (defArgs s_is_numeral) (defBody s_is_numeral) (defScope s_is_numeral) .none kV0 dc0 pm0 an0 cd0 ct0), sl0⟩)
    (c0 : PySem.W.codeIn K cd0 "is_numeral" = true)
    (k0 : PySem.W.keepIn K (.ref f0) = true)
    (a1 : PySem.W.nsIn K mainGlobals "read_words" = some (some (.ref f1)))
    (l1 : K.lookup f1 = some ⟨oc1, od1, .func (PySem.W.fnOf "read_words" "read_words" (defArgs s_read_words) (defBody s_read_words) (defScope s_read_words) .none kV1 dc1 pm1 an1 cd1 ct1), sl1⟩)
    (c1 : PySem.W.codeIn K cd1 "read_words" = true)
    (k1 : PySem.W.keepIn K (.ref f1) = true)
    (a2 : PySem.W.nsIn K mainGlobals "is_written" = some (some (.ref f2)))
    (l2 : K.lookup f2 = some ⟨oc2, od2, .func (PySem.W.fnOf "is_written" "is_written" (defArgs s_is_written) (defBody s_is_written) (defScope s_is_written) .none kV2 dc2 pm2 an2 cd2 ct2), sl2⟩)
    (c2 : PySem.W.codeIn K cd2 "is_written" = true)
    (k2 : PySem.W.keepIn K (.ref f2) = true)
    (a3 : PySem.W.nsIn K mainGlobals "read_choice" = some (some (.ref f3)))
    (l3 : K.lookup f3 = some ⟨oc3, od3, .func (PySem.W.fnOf "read_choice" "read_choice" (defArgs s_read_choice) (defBody s_read_choice) (defScope s_read_choice) .none kV3 dc3 pm3 an3 cd3 ct3), sl3⟩)
    (c3 : PySem.W.codeIn K cd3 "read_choice" = true)
    (k3 : PySem.W.keepIn K (.ref f3) = true)
    (a4 : PySem.W.nsIn K mainGlobals "parse_choice" = some (some (.ref f4)))
    (l4 : K.lookup f4 = some ⟨oc4, od4, .func (PySem.W.fnOf "parse_choice" "parse_choice" (defArgs s_parse_choice) (defBody s_parse_choice) (defScope s_parse_choice) .none kV4 dc4 pm4 an4 cd4 ct4), sl4⟩)
    (c4 : PySem.W.codeIn K cd4 "parse_choice" = true)
    (k4 : PySem.W.keepIn K (.ref f4) = true)
    (a5 : PySem.W.nsIn K mainGlobals "_law_pull" = some (some (.ref f5)))
    (l5 : K.lookup f5 = some ⟨oc5, od5, .func (PySem.W.fnOf "_law_pull" "_law_pull" (defArgs s_law_pull) (defBody s_law_pull) (defScope s_law_pull) .none kV5 dc5 pm5 an5 cd5 ct5), sl5⟩)
    (c5 : PySem.W.codeIn K cd5 "_law_pull" = true)
    (k5 : PySem.W.keepIn K (.ref f5) = true)
    (a6 : PySem.W.nsIn K mainGlobals "_law_expected" = some (some (.ref f6)))
    (l6 : K.lookup f6 = some ⟨oc6, od6, .func (PySem.W.fnOf "_law_expected" "_law_expected" (defArgs s_law_expected) (defBody s_law_expected) (defScope s_law_expected) .none kV6 dc6 pm6 an6 cd6 ct6), sl6⟩)
    (c6 : PySem.W.codeIn K cd6 "_law_expected" = true)
    (k6 : PySem.W.keepIn K (.ref f6) = true)
    (a7 : PySem.W.nsIn K mainGlobals "_law_text" = some (some (.ref f7)))
    (l7 : K.lookup f7 = some ⟨oc7, od7, .func (PySem.W.fnOf "_law_text" "_law_text" (defArgs s_law_text) (defBody s_law_text) (defScope s_law_text) .none kV7 dc7 pm7 an7 cd7 ct7), sl7⟩)
    (c7 : PySem.W.codeIn K cd7 "_law_text" = true)
    (k7 : PySem.W.keepIn K (.ref f7) = true)
    (a8 : PySem.W.nsIn K mainGlobals "law" = some (some (.ref f8)))
    (l8 : K.lookup f8 = some ⟨oc8, od8, .func (PySem.W.fnOf "law" "law" (defArgs s_law) (defBody s_law) (defScope s_law) .none kV8 dc8 pm8 an8 cd8 ct8), sl8⟩)
    (c8 : PySem.W.codeIn K cd8 "law" = true)
    (k8 : PySem.W.keepIn K (.ref f8) = true)
    (z0 : PySem.W.nsIn K mainGlobals "len" = some none)
    (z1 : PySem.W.nsIn K mainGlobals "all" = some none)
    (z2 : PySem.W.nsIn K mainGlobals "zip" = some none)
    (z3 : PySem.W.nsIn K mainGlobals "int" = some none)
    (z4 : PySem.W.nsIn K mainGlobals "tuple" = some none)
    (z5 : PySem.W.nsIn K mainGlobals "str" = some none)
    (z6 : PySem.W.nsIn K mainGlobals "isinstance" = some none)
    (z7 : PySem.W.nsIn K mainGlobals "list" = some none)
    (z8 : PySem.W.nsIn K mainGlobals "range" = some none)
    (z9 : PySem.W.nsIn K mainGlobals "repr" = some none)
    (x0 : PySem.W.nsIn K mainGlobals "MOST_DIGITS" = some (some u0)) (r0 : repV K u0 c_MOST_DIGITS = true)
    (x1 : PySem.W.nsIn K mainGlobals "DIGITS" = some (some u1)) (r1 : repV K u1 c_DIGITS = true)
    (x2 : PySem.W.nsIn K mainGlobals "NONE" = some (some u2)) (r2 : repV K u2 c_NONE = true)
    (x3 : PySem.W.nsIn K mainGlobals "CHOICE_LINE" = some (some u3)) (r3 : repV K u3 c_CHOICE_LINE = true)
    {es0 : Array DictEntry} {en0 : Nat} (t0 : PySem.W.nsIn K mainGlobals "WAYS" = some (some (.ref d0))) (m0 : K.lookup d0 = some ⟨.type "dict", none, .dict es0 en0, #[]⟩) (q0 : PySem.W.KeysLit w.params es0.toList) (w0 : (d0 == sysModules) = false) (e0 : tabEs K es0.toList t_WAYS = true)
    (yo0 : ∃ nm q N bs bm sn sub ab col dd k0 k1 k2 k3 k5, K.lookup cx0 = some (excClassObj nm q cx0 N bs bm true sn sub ab col dd k0 k1 k2 k3 k5 "ValueError.__new__") ∧ PySem.HandSPX.refsVE bm = true)
    (ysa0 : PySem.W.findIn K (.ref cx0) "__setattr__" = some (some (.builtin "object.__setattr__")))
    (yex0 : PySem.W.subIn K (.ref cx0) (.type "BaseException") = some true)
    (yty0 : PySem.W.typeIn K (.ref cx0) = some (.type "type"))
    (ykc0 : PySem.W.keepIn K (.ref cx0) = true)
    (yga0 : PySem.W.findIn K (.ref cx0) "__getattribute__" = some (some (.builtin "BaseException.__getattribute__")))
    (ygg0 : PySem.W.findIn K (.ref cx0) "__getattr__" = some none)
    (yhd0 : PySem.W.hasDictIn K cx0 = true)
    (yno0 : PySem.W.findIn K (.ref cx0) "line" = some none)
    (ycl0 : PySem.W.findIn K (.ref cx0) "__class__" = some (some (.builtin "object.__class__")))
    (ymr0 : PySem.W.mroIn K cx0 (.type "object") = some true)
    (xi0 : PySem.W.findIn K (.ref cx0) "__init__" = some (some (.ref fi0))) (li0 : K.lookup fi0 = some ⟨ic0, oi0, .func (PySem.W.fnOf "__init__" "ParseError.__init__" (defArgs s_init_ParseError) (defBody s_init_ParseError) (defScope s_init_ParseError) .none iV0 id0 ip0 ai0 ie0 it0), si0⟩) (ci0 : PySem.W.codeIn K ie0 "ParseError.__init__" = true) (ki0 : PySem.W.keepIn K (.ref fi0) = true) (xt0 : PySem.W.typeIn K (.ref fi0) = some (.type "function"))
    (xe0_0 : PySem.W.exmOne K (.ref cx0) (.ref cx0) = some true)
    (xk0_1 : PySem.W.kitOne K (.ref cx0) (.ref cx1) = some true)
    : ∃ (xc : XC) (fd : FuncData), (∀ (s : Shared) (v : Value), BindsTo s fd ⟨[v], []⟩ [("_law_script", v)]) ∧ ∀ base : Heap, K.In base → base.Ns mainGlobals mg → FnG l.prog w K mg base 5 fa fd ["_law_script"] (spG K 1 (m_law xc)) := by
  have e := hfa.symm.trans (PySem.W.mg_of X G a8)
  cases e
  have F0 := fun_mk (st := s_is_numeral) l0 c0 k0
  have F1 := fun_mk (st := s_read_words) l1 c1 k1
  have F2 := fun_mk (st := s_is_written) l2 c2 k2
  have F3 := fun_mk (st := s_read_choice) l3 c3 k3
  have F4 := fun_mk (st := s_parse_choice) l4 c4 k4
  have F5 := fun_mk (st := s_law_pull) l5 c5 k5
  have F6 := fun_mk (st := s_law_expected) l6 c6 k6
  have F7 := fun_mk (st := s_law_text) l7 c7 k7
  have F8 := fun_mk (st := s_law) l8 c8 k8
  have Fi0 := fun_mk (st := s_init_ParseError) li0 ci0 ki0
  let A : FA w K mg := {
    f_is_numeral := _, d_is_numeral := _, F_is_numeral := F0, a_is_numeral := PySem.W.mg_of X G a0, h_is_numeral := k0, b_is_numeral := F0.binds (ps := ["word"]) (fun _ _ _ _ _ _ us hl => match us, hl with | [_], _ => rfl),
    f_read_words := _, d_read_words := _, F_read_words := F1, a_read_words := PySem.W.mg_of X G a1, h_read_words := k1, b_read_words := F1.binds (ps := ["words", "form"]) (fun _ _ _ _ _ _ us hl => match us, hl with | [_, _], _ => rfl),
    f_is_written := _, d_is_written := _, F_is_written := F2, a_is_written := PySem.W.mg_of X G a2, h_is_written := k2, b_is_written := F2.binds (ps := ["word", "part"]) (fun _ _ _ _ _ _ us hl => match us, hl with | [_, _], _ => rfl),
    f_read_choice := _, d_read_choice := _, F_read_choice := F3, a_read_choice := PySem.W.mg_of X G a3, h_read_choice := k3, b_read_choice := F3.binds (ps := ["words"]) (fun _ _ _ _ _ _ us hl => match us, hl with | [_], _ => rfl),
    f_parse_choice := _, d_parse_choice := _, F_parse_choice := F4, a_parse_choice := PySem.W.mg_of X G a4, h_parse_choice := k4, b_parse_choice := F4.binds (ps := ["text"]) (fun _ _ _ _ _ _ us hl => match us, hl with | [_], _ => rfl),
    f_law_pull := _, d_law_pull := _, F_law_pull := F5, a_law_pull := PySem.W.mg_of X G a5, h_law_pull := k5, b_law_pull := F5.binds (ps := ["_law_pool", "_law_many"]) (fun _ _ _ _ _ _ us hl => match us, hl with | [_, _], _ => rfl),
    f_law_expected := _, d_law_expected := _, F_law_expected := F6, a_law_expected := PySem.W.mg_of X G a6, h_law_expected := k6, b_law_expected := F6.binds (ps := ["_law_text_here"]) (fun _ _ _ _ _ _ us hl => match us, hl with | [_], _ => rfl),
    f_law_text := _, d_law_text := _, F_law_text := F7, a_law_text := PySem.W.mg_of X G a7, h_law_text := k7, b_law_text := F7.binds (ps := ["_law_pool"]) (fun _ _ _ _ _ _ us hl => match us, hl with | [_], _ => rfl),
    f_law := _, d_law := _, F_law := F8, a_law := PySem.W.mg_of X G a8, h_law := k8, b_law := F8.binds (ps := ["_law_script"]) (fun _ _ _ _ _ _ us hl => match us, hl with | [_], _ => rfl),
    xc := ⟨cx0, cx1⟩,
    xa_ParseError := PySem.W.mg_of X G xa0,
    xs_ParseError := ⟨⟨yo0, ysa0, yex0, yty0, ykc0⟩, ⟨yga0, ygg0, yex0, yhd0⟩, yno0, ycl0, ysp, ytk, ymr0⟩,
    xa_RunError := PySem.W.mg_of X G xa1,
    fi_ParseError := _, di_ParseError := _, Fi_ParseError := Fi0, xi_ParseError := xi0, xt_ParseError := xt0, xb_ParseError := Fi0.binds (ps := ["self", "line"]) (fun _ _ _ _ _ _ us hl => match us, hl with | [_, _], _ => rfl),
    xe_ParseError_ParseError := xe0_0,
    xk_ParseError_RunError := xk0_1,
    n_len := PySem.W.mg_none_of X G z0,
    n_all := PySem.W.mg_none_of X G z1,
    n_zip := PySem.W.mg_none_of X G z2,
    n_int := PySem.W.mg_none_of X G z3,
    n_tuple := PySem.W.mg_none_of X G z4,
    n_str := PySem.W.mg_none_of X G z5,
    n_isinstance := PySem.W.mg_none_of X G z6,
    n_list := PySem.W.mg_none_of X G z7,
    n_range := PySem.W.mg_none_of X G z8,
    n_repr := PySem.W.mg_none_of X G z9,
    c_MOST_DIGITS := con_of (PySem.W.mg_of X G x0) r0,
    c_DIGITS := con_of (PySem.W.mg_of X G x1) r1,
    c_NONE := con_of (PySem.W.mg_of X G x2) r2,
    c_CHOICE_LINE := con_of (PySem.W.mg_of X G x3) r3,
    t_WAYS := ⟨⟨_, _, _, PySem.W.mg_of X G t0, ⟨m0, q0, w0⟩, e0⟩⟩ }
  exact ⟨_, _, fun s v => .of_eq rfl, fun base _ _ => ok_law A⟩
end K87
/-! k87P1 -/
namespace K87
open Mi PySem
/-! ### drawn numbers -/
/-- objects that name objects before n only -/
def Bl (n : Nat) (st : Sto) : Prop := st.all (SO.below n) = true
theorem Bl.get {n : Nat} {st : Sto} (h : Bl n st) : ∀ o ∈ st, SO.below n o = true := List.all_eq_true.mp h
theorem Bl.of {n : Nat} {st : Sto} (h : ∀ o ∈ st, SO.below n o = true) : Bl n st := List.all_eq_true.mpr h
theorem Bl.set {n : Nat} {st : Sto} (h : Bl n st) (k : Nat) {o : SO} (ho : SO.below n o = true) : Bl n (st.set k o) := .of fun x hx => by
  rcases List.mem_or_eq_of_mem_set hx with e | e
  · exact h.get x e
  · rw [e]; exact ho
theorem Bl.app {n : Nat} {st : Sto} (h : Bl n st) {o : SO} (ho : SO.below n o = true) : Bl n (st ++ [o]) := .of fun x hx => by
  rcases List.mem_append.mp hx with e | e
  · exact h.get x e
  · rw [List.mem_singleton.mp e]; exact ho
theorem Bl.cut {n : Nat} {st : Sto} (h : Bl n st) (m : Nat) : Bl n (st.take m) := .of fun x hx => h.get x (List.mem_of_mem_take hx)
theorem D_up {a b : Nat} (hab : a ≤ b) {d : D} (h : D.below a d = true) : D.below b d = true := by
  cases d with
  | t x => rfl
  | x => rfl
  | r m =>
    unfold D.below at h ⊢
    rw [decide_eq_true_eq] at h ⊢
    omega
theorem K_up {a b : Nat} (hab : a ≤ b) {κ : Type} {fs : List (κ × D)} (h : (fs.all fun p => p.2.below a) = true) : (fs.all fun p => p.2.below b) = true := by
  rw [List.all_eq_true] at h ⊢
  exact fun p hp => D_up hab (h p hp)
theorem SO_up {a b : Nat} (hab : a ≤ b) {o : SO} (h : SO.below a o = true) : SO.below b o = true := by
  cases o with
  | lst ds =>
    unfold SO.below at h ⊢
    rw [List.all_eq_true] at h ⊢
    exact fun d hd => D_up hab (h d hd)
  | ins C fs => exact K_up hab (fs := fs) h
  | dk lk fs => exact K_up hab (fs := fs) h
  | dt fs => exact K_up hab (fs := fs) h
theorem Bl.up {a b : Nat} {st : Sto} (h : Bl a st) (hab : a ≤ b) : Bl b st := .of fun x hx => SO_up hab (h.get x hx)
theorem pl_below (n : Nat) (ts : List T) : SO.below n (.lst (ts.map .t)) = true := by
  show (ts.map D.t).all (D.below n) = true
  rw [List.all_map, List.all_eq_true]
  exact fun _ _ => rfl
/-- the pool at p, its cells at c -/
structure J (p c : Nat) (m st : Sto) : Prop where
  ne : c ≠ p
  ce : ∃ cs : List Int, st[c]? = some (.lst ((cs.map T.int).map D.t))
  po : ∃ (a : Nat) (q : Int), st[p]? = some (.lst [.r c, .t (.int a), .t (.int q)])
  l : st.length = m.length
  b : Bl (c + 1) st
  f : ∀ j, j ≠ p → j ≠ c → st[j]? = m[j]?
section
variable {p c : Nat} {m st : Sto}
theorem J.cell (h : J p c m st) (cs : List Int) : J p c m (st.set c (.lst ((cs.map T.int).map D.t))) := by
  obtain ⟨ne, ⟨cs0, ec⟩, ⟨a, q, ep⟩, l, b, f⟩ := h
  exact ⟨ne, ⟨cs, List.getElem?_set_self (List.getElem?_eq_some_iff.mp ec).1⟩, ⟨a, q, by rw [List.getElem?_set_ne ne]; exact ep⟩, by rw [List.length_set]; exact l, b.set c (pl_below _ _), fun j h1 h2 => by rw [List.getElem?_set_ne (Ne.symm h2)]; exact f j h1 h2⟩
theorem J.pool (h : J p c m st) (a : Nat) (q : Int) : J p c m (st.set p (.lst [.r c, .t (.int a), .t (.int q)])) := by
  obtain ⟨ne, ⟨cs0, ec⟩, ⟨a0, q0, ep⟩, l, b, f⟩ := h
  refine ⟨ne, ⟨cs0, by rw [List.getElem?_set_ne (Ne.symm ne)]; exact ec⟩, ⟨a, q, List.getElem?_set_self (List.getElem?_eq_some_iff.mp ep).1⟩, by rw [List.length_set]; exact l, b.set p ?_, fun j h1 h2 => by rw [List.getElem?_set_ne (Ne.symm h1)]; exact f j h1 h2⟩
  show ([D.r c, .t (.int a), .t (.int q)].all (D.below (c + 1))) = true
  simp [D.below]
theorem pull_ok (h : J p c m st) (n : Int) (h1 : 1 ≤ n) (h2 : n < 1073741824) {B : D → Sto → Prop} (hB : ∀ r s, 0 ≤ r → r < n → J p c m s → B (.t (.int r)) s) : (m_law_pull [.r p, .t (.int n)] st).Is B := by
  have n0 : 0 < n := by omega
  obtain ⟨cs, ec⟩ := h.ce
  obtain ⟨a, q, ep⟩ := h.po
  have lc : ((cs.map T.int).map D.t).length = cs.length := by rw [List.length_map, List.length_map]
  have gc : ∀ i : Nat, ((cs.map T.int).map D.t)[i]? = (cs[i]?).map fun i => D.t (.int i) := fun i => by rw [List.getElem?_map, List.getElem?_map]; cases cs[i]? <;> rfl
  refine is_defG ?_
  rw [show startE 6 [D.r p, .t (.int n)] = [some (.r p), some (.t (.int n)), none, none, none, none] from rfl, b_law_pull]
  refine o_seq <| o_set <| Res.is_of (bin_ok (var_ok rfl) rfl (ix_at ep 0)) ?_
  refine o_seq <| o_set <| Res.is_of (bin_ok (var_ok rfl) rfl (ix_at ep 1)) ?_
  show (seqM _ _ [some (.r p), some (.t (.int n)), some (.r c), some (.t (.int a)), none, none] st).Is _ _
  have lt : Mi.bin ltM (eVar 3) (callB lenB [eVar 2]) [some (.r p), some (.t (.int n)), some (.r c), some (.t (.int a)), none, none] st = .ok (.t (.bl (decide ((a : Int) < cs.length)))) st :=
    bin_ok (var_ok rfl) (callB_ok (args1 (var_ok rfl)) (len_at ec)) (by rw [lc]; rfl)
  have rest : (seqM (setItM (eVar 0) (eC (.int 1)) (Mi.bin addM (eVar 3) (eC (.int 1))))
    (seqM (setM 4 (eC (.int 0)))
    (seqM (ifM (fun env st => blOf (Mi.bin gtM (callB lenB [eVar 2]) (eC (.int 0)) env st)) (setM 4 (Mi.bin ixM (eVar 2) (Mi.bin modM (callB intB [eVar 3]) (callB lenB [eVar 2])))) (nxM))
    (seqM (setM 5 (Mi.bin modM (callB intB [Mi.bin addM (Mi.bin addM (Mi.bin addM (Mi.bin mulA (eVar 4) (eC (.int 48271))) (Mi.bin mulA (Mi.bin ixM (eVar 0) (eC (.int 2))) (eC (.int 69621)))) (Mi.bin mulA (eVar 3) (eC (.int 40692)))) (eC (.int 11))]) (eC (.int 2147483647))))
    (seqM (setM 5 (Mi.bin modM (callB intB [Mi.bin addM (Mi.bin addM (Mi.bin mulA (eVar 5) (eC (.int 16807))) (Mi.bin mulA (eVar 3) (eC (.int 7)))) (eC (.int 5))]) (eC (.int 2147483629))))
    (seqM (setItM (eVar 0) (eC (.int 2)) (eVar 5))
    (retM (Mi.bin modM (callB intB [Mi.bin fdivM (eVar 5) (eC (.int 3))]) (eVar 1)))))))) [some (.r p), some (.t (.int n)), some (.r c), some (.t (.int a)), none, none] st).Is (fun _ s => B (.t .non) s) B := by
    have h2 := h.pool (a + 1) q
    refine o_seq <| o_setIt (k := 1) (bin_ok (var_ok rfl) rfl (add_int _ _ _)) (var_ok rfl) rfl ep (by simp) ?_
    show (seqM _ _ _ (st.set p (.lst [.r c, .t (.int ((a : Int) + 1)), .t (.int q)]))).Is _ _
    rw [show ((a : Int) + 1) = ((a + 1 : Nat) : Int) by omega]
    generalize st.set p (.lst [.r c, .t (.int ((a + 1 : Nat) : Int)), .t (.int q)]) = s1 at h2
    obtain ⟨cs1, ec1⟩ := h2.ce
    obtain ⟨a1, q1, ep1⟩ := h2.po
    have lc1 : ((cs1.map T.int).map D.t).length = cs1.length := by rw [List.length_map, List.length_map]
    have gc1 : ∀ i : Nat, ((cs1.map T.int).map D.t)[i]? = (cs1[i]?).map fun i => D.t (.int i) := fun i => by rw [List.getElem?_map, List.getElem?_map]; cases cs1[i]? <;> rfl
    refine o_seq <| o_set <| is_C ?_
    have ln : ∀ x4 x5, callB lenB [eVar 2] [some (.r p), some (.t (.int n)), some (.r c), some (.t (.int a)), x4, x5] s1 = .ok (.t (.int cs1.length)) s1 := fun x4 x5 => callB_ok (args1 (var_ok rfl)) (by rw [len_at ec1, lc1])
    have w : ∀ C : Int, (seqM (setM 5 (Mi.bin modM (callB intB [Mi.bin addM (Mi.bin addM (Mi.bin addM (Mi.bin mulA (eVar 4) (eC (.int 48271))) (Mi.bin mulA (Mi.bin ixM (eVar 0) (eC (.int 2))) (eC (.int 69621)))) (Mi.bin mulA (eVar 3) (eC (.int 40692)))) (eC (.int 11))]) (eC (.int 2147483647))))
        (seqM (setM 5 (Mi.bin modM (callB intB [Mi.bin addM (Mi.bin addM (Mi.bin mulA (eVar 5) (eC (.int 16807))) (Mi.bin mulA (eVar 3) (eC (.int 7)))) (eC (.int 5))]) (eC (.int 2147483629))))
        (seqM (setItM (eVar 0) (eC (.int 2)) (eVar 5))
        (retM (Mi.bin modM (callB intB [Mi.bin fdivM (eVar 5) (eC (.int 3))]) (eVar 1))))) [some (.r p), some (.t (.int n)), some (.r c), some (.t (.int a)), some (.t (.int C)), none] s1).Is (fun _ s => B (.t .non) s) B := by
      intro C
      obtain ⟨M1, p1⟩ : ∃ M, mulA (.t (.int C)) (.t (.int 48271)) s1 = some (.t (.int M)) := ⟨_, mul_intR _ _ (by decide) (by decide) _⟩
      obtain ⟨M2, p2⟩ : ∃ M, mulA (.t (.int q1)) (.t (.int 69621)) s1 = some (.t (.int M)) := ⟨_, mul_intR _ _ (by decide) (by decide) _⟩
      obtain ⟨M3, p3⟩ : ∃ M, mulA (.t (.int a)) (.t (.int 40692)) s1 = some (.t (.int M)) := ⟨_, mul_intR _ _ (by decide) (by decide) _⟩
      obtain ⟨X, pX⟩ : ∃ X, modM (.t (.int (M1 + M2 + M3 + 11))) (.t (.int 2147483647)) s1 = some (.t (.int X)) := ⟨_, mod_int _ 2147483647 (by decide) _⟩
      refine o_seq <| o_set <| Res.is_of (bin_ok (callB_ok (args1 (bin_ok (bin_ok (bin_ok (bin_ok (var_ok rfl) rfl p1) (bin_ok (bin_ok (var_ok rfl) rfl (ix_at ep1 2)) rfl p2) (add_int _ _ _)) (bin_ok (var_ok rfl) rfl p3) (add_int _ _ _)) rfl (add_int _ _ _))) (int_int _ _)) rfl pX) ?_
      obtain ⟨M4, p4⟩ : ∃ M, mulA (.t (.int X)) (.t (.int 16807)) s1 = some (.t (.int M)) := ⟨_, mul_intR _ _ (by decide) (by decide) _⟩
      obtain ⟨M5, p5⟩ : ∃ M, mulA (.t (.int a)) (.t (.int 7)) s1 = some (.t (.int M)) := ⟨_, mul_intR _ _ (by decide) (by decide) _⟩
      obtain ⟨Y, pY⟩ : ∃ X, modM (.t (.int (M4 + M5 + 5))) (.t (.int 2147483629)) s1 = some (.t (.int X)) := ⟨_, mod_int _ 2147483629 (by decide) _⟩
      refine o_seq <| o_set <| Res.is_of (bin_ok (callB_ok (args1 (bin_ok (bin_ok (bin_ok (var_ok rfl) rfl p4) (bin_ok (var_ok rfl) rfl p5) (add_int _ _ _)) rfl (add_int _ _ _))) (int_int _ _)) rfl pY) ?_
      refine o_seq <| o_setIt (k := 2) (var_ok rfl) (var_ok rfl) rfl ep1 (by simp) ?_
      show (retM _ _ (s1.set p (.lst [.r c, .t (.int a1), .t (.int Y)]))).Is _ _
      exact o_ret <| Res.is_of (bin_ok (callB_ok (args1 (bin_ok (var_ok rfl) rfl (div_int _ 3 (by decide) (by decide) _))) (int_int _ _)) (var_ok rfl) (mod_int _ n n0 _)) (hB _ _ (Int.emod_nonneg _ (by omega)) (Int.emod_lt_of_pos _ n0) (h2.pool a1 Y))
    refine o_seq <| o_if <| is_bl <| Res.is_of (bin_ok (ln _ _) rfl (gt_int _ _ _)) ⟨_, rfl, ?_⟩
    by_cases c0 : (0 : Int) < cs1.length
    · rw [decide_eq_true c0, if_pos rfl]
      have r0 := Int.emod_nonneg (a : Int) (show ((cs1.length : Nat) : Int) ≠ 0 by omega)
      have r1 := Int.emod_lt_of_pos (a : Int) c0
      obtain ⟨i, ei⟩ : ∃ i : Nat, (a : Int) % cs1.length = i := ⟨((a : Int) % cs1.length).toNat, by omega⟩
      have hi : i < cs1.length := by omega
      refine o_set <| Res.is_of (bin_ok (z := .t (.int cs1[i])) (var_ok rfl) (bin_ok (callB_ok (args1 (var_ok rfl)) (int_int _ _)) (ln _ _) (mod_int _ _ c0 _)) ?_) (w _)
      rw [ei, ix_at ec1, gc1, List.getElem?_eq_getElem hi]; rfl
    · rw [decide_eq_false c0, if_neg (by decide)]
      exact o_nx (w 0)
  refine o_seq <| o_if <| is_and <| is_bl <| Res.is_of lt ⟨_, rfl, ?_⟩
  by_cases ca : (a : Int) < cs.length
  · rw [decide_eq_true ca, if_pos rfl]
    have ha : a < cs.length := by omega
    have cell : Mi.bin ixM (eVar 2) (eVar 3) [some (.r p), some (.t (.int n)), some (.r c), some (.t (.int a)), none, none] st = .ok (.t (.int cs[a])) st := bin_ok (var_ok rfl) (var_ok rfl) (by rw [ix_at ec, gc, List.getElem?_eq_getElem ha]; rfl)
    refine is_bl <| Res.is_of (bin_ok cell (bin_ok rfl rfl (pow18 _)) (ge_int _ _ _)) ⟨_, rfl, ?_⟩
    by_cases cb : 1000000000000000000 ≤ cs[a]
    · rw [decide_eq_true cb, if_pos rfl]
      refine o_seq <| o_set <| Res.is_of cell ?_
      refine o_seq <| o_setIt (k := a) (bin_ok (var_ok rfl) (var_ok rfl) (div_int _ n n0 h2 _)) (var_ok rfl) (var_ok rfl) ec (by rw [lc]; exact ha) ?_
      have e : ((cs.map T.int).map D.t).set a (.t (.int (cs[a] / n))) = ((cs.set a (cs[a] / n)).map T.int).map D.t := by rw [List.map_set, List.map_set]
      rw [e]
      exact o_ret <| Res.is_of (bin_ok (callB_ok (args1 (var_ok rfl)) (int_int _ _)) (var_ok rfl) (mod_int _ n n0 _)) (hB _ _ (Int.emod_nonneg _ (by omega)) (Int.emod_lt_of_pos _ n0) (h.cell _))
    · rw [decide_eq_false cb, if_neg (by decide)]
      exact o_nx rest
  · rw [decide_eq_false ca, if_neg (by decide), if_neg (by decide)]
    exact o_nx rest
theorem is_pull {env : Mi.Env} {fa fb : Mi.Env → Sto → Res D} {n : Int} {B : D → Sto → Prop} (h : J p c m st) (ha : fa env st = .ok (.r p) st) (hb : fb env st = .ok (.t (.int n)) st) (h1 : 1 ≤ n) (h2 : n < 1073741824)
    (hB : ∀ r s, 0 ≤ r → r < n → J p c m s → B (.t (.int r)) s) : (callG m_law_pull [fa, fb] env st).Is B :=
  is_callG (is_cons (Res.is_of ha (is_cons (Res.is_of hb (is_nil (pull_ok h n h1 h2 hB))))))
end
end K87
/-! k87P2 -/
namespace K87
open Mi PySem
section
variable {p c : Nat} {m st : Sto}
theorem J.c_lt (h : J p c m st) : c < st.length := by
  obtain ⟨cs, e⟩ := h.ce
  exact  (List.getElem?_eq_some_iff.mp e).1
theorem J.p_lt (h : J p c m st) : p < st.length := by
  obtain ⟨a, q, e⟩ := h.po
  exact  (List.getElem?_eq_some_iff.mp e).1
theorem J.grow (h : J p c m st) {o : SO} (ho : SO.below (c + 1) o = true) : J p c (m ++ [o]) (st ++ [o]) := by
  have l1 := h.c_lt
  have l2 := h.p_lt
  obtain ⟨ne, ⟨cs, ec⟩, ⟨a, q, ep⟩, l, b, f⟩ := h
  refine ⟨ne, ⟨cs, by rw [List.getElem?_append_left l1]; exact ec⟩, ⟨a, q, by rw [List.getElem?_append_left l2]; exact ep⟩, by rw [List.length_append, List.length_append, l], b.app ho, fun j h1 h2 => ?_⟩
  by_cases k : j < st.length
  · rw [List.getElem?_append_left k, List.getElem?_append_left (by rw [← l]; exact k)]
    exact f j h1 h2
  · rw [List.getElem?_append_right (by omega), List.getElem?_append_right (by rw [← l]; omega), l]
theorem J.put (h : J p c m st) {q : Nat} (h1 : q ≠ p) (h2 : q ≠ c) {o : SO} (ho : SO.below (c + 1) o = true) : J p c (m.set q o) (st.set q o) := by
  obtain ⟨ne, ⟨cs, ec⟩, ⟨a, n, ep⟩, l, b, f⟩ := h
  refine ⟨ne, ⟨cs, by rw [List.getElem?_set_ne h2]; exact ec⟩, ⟨a, n, by rw [List.getElem?_set_ne h1]; exact ep⟩, by rw [List.length_set, List.length_set]; exact l, b.set q ho, fun j j1 j2 => ?_⟩
  by_cases k : q = j
  · subst k
    by_cases lt : q < st.length
    · rw [List.getElem?_set_self lt, List.getElem?_set_self (by rw [← l]; exact lt)]
    · rw [List.getElem?_eq_none (by rw [List.length_set]; omega), List.getElem?_eq_none (by rw [List.length_set, ← l]; omega)]
  · rw [List.getElem?_set_ne k, List.getElem?_set_ne k]
    exact f j j1 j2
theorem J.self (h : J p c m st) : J p c st st := ⟨h.ne, h.ce, h.po, rfl, h.b, fun _ _ _ => rfl⟩
theorem is_trim (h : J p c m st) {n : Nat} (hn : n = m.length) {t : T} {B : D → Sto → Prop} (hB : B (.t t) st) : (trim n (.t t) st).Is B := by
  have l := h.c_lt
  have e : st.take n = st := List.take_of_length_le (by rw [hn, h.l]; exact Nat.le_refl _)
  unfold trim
  have q : st.all (SO.below n) = true := h.b.up (by rw [hn, ← h.l]; omega)
  rw [e, if_pos q]
  exact hB
theorem is_trim2 {o : SO} (h : J p c (m ++ [o]) st) (hc : c < m.length) (hp : p < m.length) {t : T} {B : D → Sto → Prop} (hB : ∀ s, J p c m s → B (.t t) s) : (trim m.length (.t t) st).Is B := by
  obtain ⟨ne, ⟨cs, ec⟩, ⟨a, q, ep⟩, l, b, f⟩ := h
  rw [List.length_append, List.length_singleton] at l
  have g : J p c m (st.take m.length) := ⟨ne, ⟨cs, by rw [List.getElem?_take_of_lt hc]; exact ec⟩, ⟨a, q, by rw [List.getElem?_take_of_lt hp]; exact ep⟩, by rw [List.length_take]; omega, b.cut _, fun j h1 h2 => by
    by_cases k : j < m.length
    · rw [List.getElem?_take_of_lt k, f j h1 h2, List.getElem?_append_left k]
    · rw [List.getElem?_eq_none (by rw [List.length_take]; omega), List.getElem?_eq_none (by omega)]⟩
  have q : (st.take m.length).all (SO.below m.length) = true := g.b.up (by omega)
  unfold trim
  rw [if_pos q]
  exact hB _ g
end
end K87
/-! k87P3 -/
namespace K87
open Mi PySem PySem.Spec PyProof.Rows L2 RZ
/-! ### the texts that are drawn -/
def F1 : List Str := ["-", "a", "ab,c", "a,,b", ",", "a,", "", "c,b,a", "z,z", ",a"]
def F2 : List Str := ["0", "1", "2", "", "01", "True", "-", "10"]
def F3 : List Str := ["-", "1", "0", "10", "0110", "2", "", "1-", "--", "01x"]
def textK (k : Nat) (a b c : Str) : Str :=
  let t := Str.join " " (if k = 0 then [a, b] else if k = 1 then [a, b, c, "1"] else [a, b, c])
  if k = 2 then t ++ " " else if k = 3 then " " ++ t else if k = 4 then t ++ "\n" else t
def strL : List T → Option (List Str)
  | [] => some []
  | .str x :: r => (strL r).map (x :: ·)
  | _ => none
def blL : List T → Option (List Bool)
  | [] => some []
  | .bl x :: r => (blL r).map (x :: ·)
  | _ => none
abbrev Ch := Option (List Str × Bool × List Bool)
def dec : T → Option Ch
  | .non => some none
  | .tup [.tup a, .bl b, .tup c] => (strL a).bind fun a => (blL c).map fun c => some (a, b, c)
  | _ => none
def enc : Ch → T
  | none => .non
  | some (a, b, c) => .tup [.tup (a.map .str), .bl b, .tup (c.map .bl)]
def readT (s : Str) : Rp := match m_read_words [.lst ((Txt.split s " ").map .str), c_CHOICE_LINE] with
  | .ok .non => .ok .non
  | .ok (.lst ws) => m_read_choice [.lst ws]
  | _ => .bad
def chk (s : Str) : Bool := match m_law_expected [.str s], readT s with
  | .ok e, .ok v => (dec e).isSome && (decide (dec e = dec v) && (pk 3 e && (decide (wk e ≤ 1000) && (pk 0 (.str s) && decide (s.length ≤ 50)))))
  | _, _ => false
end K87
/-! k87P4 -/
namespace K87
open Mi PySem
theorem chk0_0 : (F2.all fun b => F3.all fun c => chk (textK 0 "-" b c)) = true := by decide +kernel
theorem chk0_1 : (F2.all fun b => F3.all fun c => chk (textK 0 "a" b c)) = true := by decide +kernel
theorem chk0_2 : (F2.all fun b => F3.all fun c => chk (textK 0 "ab,c" b c)) = true := by decide +kernel
theorem chk0_3 : (F2.all fun b => F3.all fun c => chk (textK 0 "a,,b" b c)) = true := by decide +kernel
theorem chk0_4 : (F2.all fun b => F3.all fun c => chk (textK 0 "," b c)) = true := by decide +kernel
theorem chk0_5 : (F2.all fun b => F3.all fun c => chk (textK 0 "a," b c)) = true := by decide +kernel
theorem chk0_6 : (F2.all fun b => F3.all fun c => chk (textK 0 "" b c)) = true := by decide +kernel
theorem chk0_7 : (F2.all fun b => F3.all fun c => chk (textK 0 "c,b,a" b c)) = true := by decide +kernel
theorem chk0_8 : (F2.all fun b => F3.all fun c => chk (textK 0 "z,z" b c)) = true := by decide +kernel
theorem chk0_9 : (F2.all fun b => F3.all fun c => chk (textK 0 ",a" b c)) = true := by decide +kernel
theorem chk0 : (F1.all fun a => F2.all fun b => F3.all fun c => chk (textK 0 a b c)) = true := List.all_eq_true.mpr fun a ha => by
  unfold F1 at ha
  simp only [List.mem_cons, List.not_mem_nil, or_false] at ha
  rcases ha with rfl | rfl | rfl | rfl | rfl | rfl | rfl | rfl | rfl | rfl
  · exact chk0_0
  · exact chk0_1
  · exact chk0_2
  · exact chk0_3
  · exact chk0_4
  · exact chk0_5
  · exact chk0_6
  · exact chk0_7
  · exact chk0_8
  · exact chk0_9
theorem chk1_0 : (F2.all fun b => F3.all fun c => chk (textK 1 "-" b c)) = true := by decide +kernel
theorem chk1_1 : (F2.all fun b => F3.all fun c => chk (textK 1 "a" b c)) = true := by decide +kernel
theorem chk1_2 : (F2.all fun b => F3.all fun c => chk (textK 1 "ab,c" b c)) = true := by decide +kernel
theorem chk1_3 : (F2.all fun b => F3.all fun c => chk (textK 1 "a,,b" b c)) = true := by decide +kernel
theorem chk1_4 : (F2.all fun b => F3.all fun c => chk (textK 1 "," b c)) = true := by decide +kernel
theorem chk1_5 : (F2.all fun b => F3.all fun c => chk (textK 1 "a," b c)) = true := by decide +kernel
theorem chk1_6 : (F2.all fun b => F3.all fun c => chk (textK 1 "" b c)) = true := by decide +kernel
theorem chk1_7 : (F2.all fun b => F3.all fun c => chk (textK 1 "c,b,a" b c)) = true := by decide +kernel
theorem chk1_8 : (F2.all fun b => F3.all fun c => chk (textK 1 "z,z" b c)) = true := by decide +kernel
theorem chk1_9 : (F2.all fun b => F3.all fun c => chk (textK 1 ",a" b c)) = true := by decide +kernel
theorem chk1 : (F1.all fun a => F2.all fun b => F3.all fun c => chk (textK 1 a b c)) = true := List.all_eq_true.mpr fun a ha => by
  unfold F1 at ha
  simp only [List.mem_cons, List.not_mem_nil, or_false] at ha
  rcases ha with rfl | rfl | rfl | rfl | rfl | rfl | rfl | rfl | rfl | rfl
  · exact chk1_0
  · exact chk1_1
  · exact chk1_2
  · exact chk1_3
  · exact chk1_4
  · exact chk1_5
  · exact chk1_6
  · exact chk1_7
  · exact chk1_8
  · exact chk1_9
theorem chk2_0 : (F2.all fun b => F3.all fun c => chk (textK 2 "-" b c)) = true := by decide +kernel
theorem chk2_1 : (F2.all fun b => F3.all fun c => chk (textK 2 "a" b c)) = true := by decide +kernel
theorem chk2_2 : (F2.all fun b => F3.all fun c => chk (textK 2 "ab,c" b c)) = true := by decide +kernel
theorem chk2_3 : (F2.all fun b => F3.all fun c => chk (textK 2 "a,,b" b c)) = true := by decide +kernel
theorem chk2_4 : (F2.all fun b => F3.all fun c => chk (textK 2 "," b c)) = true := by decide +kernel
theorem chk2_5 : (F2.all fun b => F3.all fun c => chk (textK 2 "a," b c)) = true := by decide +kernel
theorem chk2_6 : (F2.all fun b => F3.all fun c => chk (textK 2 "" b c)) = true := by decide +kernel
theorem chk2_7 : (F2.all fun b => F3.all fun c => chk (textK 2 "c,b,a" b c)) = true := by decide +kernel
theorem chk2_8 : (F2.all fun b => F3.all fun c => chk (textK 2 "z,z" b c)) = true := by decide +kernel
theorem chk2_9 : (F2.all fun b => F3.all fun c => chk (textK 2 ",a" b c)) = true := by decide +kernel
theorem chk2 : (F1.all fun a => F2.all fun b => F3.all fun c => chk (textK 2 a b c)) = true := List.all_eq_true.mpr fun a ha => by
  unfold F1 at ha
  simp only [List.mem_cons, List.not_mem_nil, or_false] at ha
  rcases ha with rfl | rfl | rfl | rfl | rfl | rfl | rfl | rfl | rfl | rfl
  · exact chk2_0
  · exact chk2_1
  · exact chk2_2
  · exact chk2_3
  · exact chk2_4
  · exact chk2_5
  · exact chk2_6
  · exact chk2_7
  · exact chk2_8
  · exact chk2_9
theorem chk3_0 : (F2.all fun b => F3.all fun c => chk (textK 3 "-" b c)) = true := by decide +kernel
theorem chk3_1 : (F2.all fun b => F3.all fun c => chk (textK 3 "a" b c)) = true := by decide +kernel
theorem chk3_2 : (F2.all fun b => F3.all fun c => chk (textK 3 "ab,c" b c)) = true := by decide +kernel
theorem chk3_3 : (F2.all fun b => F3.all fun c => chk (textK 3 "a,,b" b c)) = true := by decide +kernel
theorem chk3_4 : (F2.all fun b => F3.all fun c => chk (textK 3 "," b c)) = true := by decide +kernel
theorem chk3_5 : (F2.all fun b => F3.all fun c => chk (textK 3 "a," b c)) = true := by decide +kernel
theorem chk3_6 : (F2.all fun b => F3.all fun c => chk (textK 3 "" b c)) = true := by decide +kernel
theorem chk3_7 : (F2.all fun b => F3.all fun c => chk (textK 3 "c,b,a" b c)) = true := by decide +kernel
theorem chk3_8 : (F2.all fun b => F3.all fun c => chk (textK 3 "z,z" b c)) = true := by decide +kernel
theorem chk3_9 : (F2.all fun b => F3.all fun c => chk (textK 3 ",a" b c)) = true := by decide +kernel
theorem chk3 : (F1.all fun a => F2.all fun b => F3.all fun c => chk (textK 3 a b c)) = true := List.all_eq_true.mpr fun a ha => by
  unfold F1 at ha
  simp only [List.mem_cons, List.not_mem_nil, or_false] at ha
  rcases ha with rfl | rfl | rfl | rfl | rfl | rfl | rfl | rfl | rfl | rfl
  · exact chk3_0
  · exact chk3_1
  · exact chk3_2
  · exact chk3_3
  · exact chk3_4
  · exact chk3_5
  · exact chk3_6
  · exact chk3_7
  · exact chk3_8
  · exact chk3_9
theorem chk4_0 : (F2.all fun b => F3.all fun c => chk (textK 4 "-" b c)) = true := by decide +kernel
theorem chk4_1 : (F2.all fun b => F3.all fun c => chk (textK 4 "a" b c)) = true := by decide +kernel
theorem chk4_2 : (F2.all fun b => F3.all fun c => chk (textK 4 "ab,c" b c)) = true := by decide +kernel
theorem chk4_3 : (F2.all fun b => F3.all fun c => chk (textK 4 "a,,b" b c)) = true := by decide +kernel
theorem chk4_4 : (F2.all fun b => F3.all fun c => chk (textK 4 "," b c)) = true := by decide +kernel
theorem chk4_5 : (F2.all fun b => F3.all fun c => chk (textK 4 "a," b c)) = true := by decide +kernel
theorem chk4_6 : (F2.all fun b => F3.all fun c => chk (textK 4 "" b c)) = true := by decide +kernel
theorem chk4_7 : (F2.all fun b => F3.all fun c => chk (textK 4 "c,b,a" b c)) = true := by decide +kernel
theorem chk4_8 : (F2.all fun b => F3.all fun c => chk (textK 4 "z,z" b c)) = true := by decide +kernel
theorem chk4_9 : (F2.all fun b => F3.all fun c => chk (textK 4 ",a" b c)) = true := by decide +kernel
theorem chk4 : (F1.all fun a => F2.all fun b => F3.all fun c => chk (textK 4 a b c)) = true := List.all_eq_true.mpr fun a ha => by
  unfold F1 at ha
  simp only [List.mem_cons, List.not_mem_nil, or_false] at ha
  rcases ha with rfl | rfl | rfl | rfl | rfl | rfl | rfl | rfl | rfl | rfl
  · exact chk4_0
  · exact chk4_1
  · exact chk4_2
  · exact chk4_3
  · exact chk4_4
  · exact chk4_5
  · exact chk4_6
  · exact chk4_7
  · exact chk4_8
  · exact chk4_9
theorem chk5_0 : (F2.all fun b => F3.all fun c => chk (textK 5 "-" b c)) = true := by decide +kernel
theorem chk5_1 : (F2.all fun b => F3.all fun c => chk (textK 5 "a" b c)) = true := by decide +kernel
theorem chk5_2 : (F2.all fun b => F3.all fun c => chk (textK 5 "ab,c" b c)) = true := by decide +kernel
theorem chk5_3 : (F2.all fun b => F3.all fun c => chk (textK 5 "a,,b" b c)) = true := by decide +kernel
theorem chk5_4 : (F2.all fun b => F3.all fun c => chk (textK 5 "," b c)) = true := by decide +kernel
theorem chk5_5 : (F2.all fun b => F3.all fun c => chk (textK 5 "a," b c)) = true := by decide +kernel
theorem chk5_6 : (F2.all fun b => F3.all fun c => chk (textK 5 "" b c)) = true := by decide +kernel
theorem chk5_7 : (F2.all fun b => F3.all fun c => chk (textK 5 "c,b,a" b c)) = true := by decide +kernel
theorem chk5_8 : (F2.all fun b => F3.all fun c => chk (textK 5 "z,z" b c)) = true := by decide +kernel
theorem chk5_9 : (F2.all fun b => F3.all fun c => chk (textK 5 ",a" b c)) = true := by decide +kernel
theorem chk5 : (F1.all fun a => F2.all fun b => F3.all fun c => chk (textK 5 a b c)) = true := List.all_eq_true.mpr fun a ha => by
  unfold F1 at ha
  simp only [List.mem_cons, List.not_mem_nil, or_false] at ha
  rcases ha with rfl | rfl | rfl | rfl | rfl | rfl | rfl | rfl | rfl | rfl
  · exact chk5_0
  · exact chk5_1
  · exact chk5_2
  · exact chk5_3
  · exact chk5_4
  · exact chk5_5
  · exact chk5_6
  · exact chk5_7
  · exact chk5_8
  · exact chk5_9
end K87
/-! k87P5 -/
namespace K87
open Mi PySem PySem.Spec PyProof.Rows L2 RZ
/-! ### what the program and the law answer to a drawn text -/
theorem textK5 {k : Nat} (h : 5 ≤ k) (a b c : Str) : textK k a b c = textK 5 a b c := by
  unfold textK
  rw [if_neg (by omega), if_neg (by omega), if_neg (by omega), if_neg (by omega), if_neg (by omega)]
  rfl
theorem chk_all {k : Nat} {a b c : Str} (ha : a ∈ F1) (hb : b ∈ F2) (hc : c ∈ F3) : chk (textK k a b c) = true := by
  have get : ∀ j, (F1.all fun a => F2.all fun b => F3.all fun c => chk (textK j a b c)) = true → chk (textK j a b c) = true := fun j h => List.all_eq_true.mp (List.all_eq_true.mp (List.all_eq_true.mp h a ha) b hb) c hc
  match k with
  | 0 => exact get 0 chk0
  | 1 => exact get 1 chk1
  | 2 => exact get 2 chk2
  | 3 => exact get 3 chk3
  | 4 => exact get 4 chk4
  | k + 5 => rw [textK5 (by omega)]; exact get 5 chk5
theorem strL_map : ∀ {ts : List T} {l : List Str}, strL ts = some l → ts = l.map .str
  | [], l, h => by cases h; rfl
  | t :: r, l, h => by
    cases t with
    | str x =>
      have h : (strL r).map (x :: ·) = some l := h
      cases e : strL r with
      |  none => rw [e] at h; cases h
      | some l' =>
        rw [e] at h
        cases h
        rw [strL_map e]; rfl
    | _ => cases h
theorem blL_map : ∀ {ts : List T} {l : List Bool}, blL ts = some l → ts = l.map .bl
  | [], l, h => by cases h; rfl
  | t :: r, l, h => by
    cases t with
    | bl x =>
      have h : (blL r).map (x :: ·) = some l := h
      cases e : blL r with
      |  none => rw [e] at h; cases h
      | some l' =>
        rw [e] at h
        cases h
        rw [blL_map e]; rfl
    | _ => cases h
theorem dec_enc {t : T} {x : Ch} (h : dec t = some x) : t = enc x := by
  unfold dec at h
  split at h
  · cases h; rfl
  · rename_i a b c
    cases e1 : strL a with
    | none => rw [e1] at h; cases h
    | some l =>
      cases e2 : blL c with
      | none => rw [e1, e2] at h; cases h
      | some m =>
        rw [e1, e2] at h
        cases h
        rw [strL_map e1, blL_map e2]; rfl
  · cases h
/-! outcomes of pieces, as equations -/
section
variable {env : Mi.Env} {st : Sto} {f : Mi.Env → Sto → Res D} {g a b : Mi.Env → Sto → Out}
theorem seq_set {i : Nat} {d : D} (h : f env st = .ok d st) : seqM (setM i f) g env st = g (env.set i (some d)) st := by
  unfold seqM setM
  rw [h]
  rfl
theorem seq_if {k : Bool} {c : Mi.Env → Sto → Res Bool} (h : c env st = .ok k st) : seqM (ifM c a b) g env st = (if k = true then a env st else b env st).seq g := by
  unfold seqM ifM
  rw [h]
  rfl
theorem defP_exc {n : Nat} {ts : List T} {C : Addr} {fs : List (Str × T)} {e : Mi.Env} {s : Sto} (h : g (startE n (ts.map .t)) [] = .exc C fs e s) : defP n g ts = .exc C fs := by
  unfold defP
  rw [h]
  rfl
end
/-- what is known of a thing that is asked -/
structure Good (xc : XC) (v : T) (x : Ch) : Prop where
  e : m_law_expected [v] = .ok (enc x)
  y : x = none → m_parse_choice xc [v] = .exc xc.ParseError [("line", v)]
  z : ∀ c, x = some c → m_parse_choice xc [v] = .ok (enc x)
  r : ∃ y, ∀ s, reprB [.t (enc x)] s = some (.t (.str y))
  q : ∃ y, ∀ s, reprB [.t v] s = some (.t (.str y))
theorem enc_non (x : Ch) (s : Sto) : isM (.t (enc x)) (.t .non) s = some (.t (.bl x.isNone)) := by
  cases x with
  | none => rfl
  | some c => rfl
theorem repr_any {n : Nat} {t : T} (h : pk n t = true) (hn : n ≤ 60) (hw : wk t ≤ 10000) : ∃ y, ∀ s, reprB [.t t] s = some (.t (.str y)) := by
  obtain ⟨y, e⟩ := repr_ok h hn hw []
  refine ⟨y, fun s => ?_⟩
  rw [← e]
  cases t with
  | lst _ => rfl
  | _ => rfl
theorem good_text (xc : XC) {s : Str} (h : chk s = true) : ∃ x, Good xc (.str s) x := by
  unfold chk at h
  split at h
  · rename_i e v he hv
    (simp only [Bool.and_eq_true, decide_eq_true_eq] at h)
    obtain ⟨h1, h2, h3, h4, h5, h6⟩ := h
    obtain ⟨x, hx⟩ := Option.isSome_iff_exists.mp h1
    have ex := dec_enc hx
    have vx := dec_enc (h2.symm.trans hx)
    subst ex vx
    -- the words
    have w : ∃ t, m_read_words [.lst ((Txt.split s " ").map .str), c_CHOICE_LINE] = .ok t ∧ (t = .non ∧ x = none ∨ ∃ ws, t = .lst ws ∧ m_read_choice [.lst ws] = .ok (enc x)) := by
      unfold readT at hv
      split at hv
      · rename_i e
        refine ⟨_, e, .inl ⟨rfl, ?_⟩⟩
        cases x with
        | none => rfl
        | some c =>
          exfalso
          obtain ⟨a, b, c⟩ := c
          cases hv
      · rename_i ws e
        exact ⟨_, e, .inr ⟨ws, rfl, hv⟩⟩
      · cases hv
    obtain ⟨t, ht, hc⟩ := w
    have sp : splitG (.t (.str s)) [.t (.str " ")] [] = some (.t (.lst ((Txt.split s " ").map .str)), []) := split_of (by decide) (by omega) _
    have run : ∃ y2 : D, y2 = .t (enc x) ∧ b_parse_choice xc [some (.t (.str s)), none, none] [] = seqM (ifM (fun env st => blOf (Mi.bin isM (eVar 2) (eC .non) env st)) (raiseM xc.ParseError "line" (eVar 0)) (nxM)) (retM (eVar 2)) [some (.t (.str s)), some (.t t), some y2] [] := by
      refine ⟨_, rfl, ?_⟩
      unfold b_parse_choice
      rw [seq_set (d := .t t) (ifE_ok (k := true) rfl (by
        rw [if_pos rfl]
        exact callP_ok (ts := [.lst ((Txt.split s " ").map .str), c_CHOICE_LINE]) (args2 (meth_ok (var_ok rfl) rfl (args1 rfl) sp) rfl) ht))]
      rcases hc with ⟨rfl, rfl⟩ | ⟨ws, rfl, hc⟩
      · rw [seq_set (d := .t .non) (ifE_ok (k := true) rfl rfl)]
        rfl
      · rw [seq_set (d := .t (enc x)) (ifE_ok (k := false) rfl (by rw [if_neg (by decide)]; exact callP_ok (ts := [.lst ws]) (args1 (var_ok rfl)) hc))]
        rfl
    obtain ⟨y2, rfl, run⟩ := run
    have c2 : (fun env st => blOf (Mi.bin isM (eVar 2) (eC .non) env st)) [some (.t (.str s)), some (.t t), some (.t (enc x))] [] = .ok x.isNone [] := bl_ok (bin_ok (var_ok rfl) rfl (enc_non x _))
    rw [seq_if c2] at run
    refine ⟨x, he, ?_, ?_, repr_any h3 (by decide) (by omega), repr_any h5 (by decide) (by show s.length ≤ 10000; omega)⟩
    · rintro rfl
      exact defP_exc run
    · rintro c rfl
      unfold m_parse_choice defP
      have run : b_parse_choice xc (startE 3 (([.str s] : List T).map D.t)) [] = _ := run
      rw [run]
      obtain ⟨a, b, c⟩ := c
      rfl
  · cases h
def ODD4 : List T := [.non, .int 5, .tup [.tup [], .bl false, .tup []], .lst [.str "a", .str "0", .str "-"]]
theorem good_odd (xc : XC) {v : T} (h : v ∈ ODD4) : Good xc v none := by
  unfold ODD4 at h
  simp only [List.mem_cons, List.not_mem_nil, or_false] at h
  rcases h with rfl | rfl | rfl | rfl
  · exact ⟨rfl, fun _ => rfl, fun _ z => by (cases z), repr_any (n := 0) (by decide +kernel) (by decide) (by decide +kernel), repr_any (n := 3) (by decide +kernel) (by decide) (by decide +kernel)⟩
  · exact ⟨rfl, fun _ => rfl, fun _ z => by (cases z), repr_any (n := 0) (by decide +kernel) (by decide) (by decide +kernel), repr_any (n := 3) (by decide +kernel) (by decide) (by decide +kernel)⟩
  · exact ⟨rfl, fun _ => rfl, fun _ z => by (cases z), repr_any (n := 0) (by decide +kernel) (by decide) (by decide +kernel), repr_any (n := 3) (by decide +kernel) (by decide) (by decide +kernel)⟩
  · exact ⟨rfl, fun _ => rfl, fun _ z => by (cases z), repr_any (n := 0) (by decide +kernel) (by decide) (by decide +kernel), repr_any (n := 3) (by decide +kernel) (by decide) (by decide +kernel)⟩
end K87
/-! k87P6 -/
namespace K87
open Mi PySem
section
variable {xc : XC} {p c q : Nat} {m u st : Sto} {B : D → Sto → Prop} {env : Mi.Env} {N : Mi.Env → Sto → Prop}
/-- one of a list, drawn -/
theorem is_one {l : List T} {i j n : Nat} (h : J p c m st) (h3 : env[i]? = some (some (.r p))) (hj : env[j]? = some (some (.t (.lst l)))) (hn : l.length = n) (n1 : 1 ≤ n) (n2 : n ≤ 100) (hB : ∀ a s, a ∈ l → J p c m s → B (.t a) s) :
    (Mi.bin ixM (eVar j) (callG m_law_pull [eVar i, eC (.int (n : Int))]) env st).Is B := by
  refine is_bin <| Res.is_of (var_ok hj) <| is_pull (n := (n : Int)) h (var_ok h3) rfl (by omega) (by omega) fun r s r0 r1 h' => ?_
  obtain ⟨k, rfl⟩ : ∃ k : Nat, r = k := ⟨r.toNat, by omega⟩
  have hk : k < l.length := by omega
  exact ⟨_, by rw [ix_l, List.getElem?_eq_getElem hk]; rfl, hB _ s (List.getElem_mem hk) h'⟩
theorem is_newM {fs : List (Mi.Env → Sto → Res D)} (h : (argsM fs env st).Is fun ds s => B (.r s.length) (s ++ [.lst ds])) : (newM fs env st).Is B := is_bind (h.imp fun _ _ h => h)
theorem str_small (i : Int) (h0 : 0 ≤ i) (h1 : i < 2) (s : Sto) : ∃ b ∈ F2, strB [.t (.int i)] s = some (.t (.str b)) := by
  obtain rfl | rfl : i = 0 ∨ i = 1 := by omega
  · exact ⟨"0", by decide, rfl⟩
  · exact ⟨"1", by decide, rfl⟩
abbrev l1 : Option D := some (.t (.lst (F1.map .str)))
abbrev l2 : Option D := some (.t (.lst (F2.map .str)))
abbrev l3 : Option D := some (.t (.lst (F3.map .str)))
theorem fl : ∀ x, x ∈ F1 ∨ x ∈ F2 ∨ x ∈ F3 → x.length ≤ 5 := by
  have h : ((F1.all fun x => decide (x.length ≤ 5)) && ((F2.all fun x => decide (x.length ≤ 5)) && F3.all fun x => decide (x.length ≤ 5))) = true := by decide +kernel
  (simp only [Bool.and_eq_true, List.all_eq_true, decide_eq_true_eq] at h)
  rintro x (hx | hx | hx)
  · exact h.1 x hx
  · exact h.2.1 x hx
  · exact h.2.2 x hx
theorem len1 : (Str.ofString " ").length = 1 ∧ (Str.ofString "1").length = 1 ∧ (Str.ofString "\n").length = 1 := by decide +kernel
/-- the end of the text: a blank, a line feed, or nothing more -/
theorem tail_ok {k : Nat} {t : Str} {x0 x1 x2 x3 x4 : Option D} (hl : t.length ≤ 100) (hN : B (.t (.str (if k = 2 then t ++ " " else if k = 3 then " " ++ t else if k = 4 then t ++ "\n" else t))) st) :
    (seqM (ifM (fun env st => blOf (Mi.bin eqM (eVar 5) (eC (.int 2)) env st)) (setM 6 (Mi.bin addM (eVar 6) (eC (.str " ")))) (nxM))
    (seqM (ifM (fun env st => blOf (Mi.bin eqM (eVar 5) (eC (.int 3)) env st)) (setM 6 (Mi.bin addM (eC (.str " ")) (eVar 6))) (nxM))
    (seqM (ifM (fun env st => blOf (Mi.bin eqM (eVar 5) (eC (.int 4)) env st)) (setM 6 (Mi.bin addM (eVar 6) (eC (.str "\n")))) (nxM))
    (retM (eVar 6)))) [x0, x1, x2, x3, x4, some (.t (.int (k : Int))), some (.t (.str t))] st).Is N B := by
  obtain ⟨a1, a2, a3⟩ := len1
  refine o_seq <| o_if <| is_bl <| Res.is_of (bin_ok (var_ok rfl) rfl (eq_int _ _ _)) ⟨_, rfl, ?_⟩
  by_cases k2 : k = 2
  · subst k2
    rw [if_pos rfl] at hN
    rw [decide_eq_true (by rfl), if_pos rfl]
    refine o_set <| Res.is_of (bin_ok (var_ok rfl) rfl (add_str (by rw [a1]; omega) _)) ?_
    refine o_seq <| o_pass <| is_bl <| Res.is_of (bin_ok (var_ok rfl) rfl (eq_int _ _ _)) ⟨_, rfl, decide_eq_false (by decide), ?_⟩
    refine o_seq <| o_pass <| is_bl <| Res.is_of (bin_ok (var_ok rfl) rfl (eq_int _ _ _)) ⟨_, rfl, decide_eq_false (by decide), ?_⟩
    exact o_ret <| is_var rfl hN
  · rw [if_neg k2] at hN
    rw [decide_eq_false (by omega), if_neg (by decide)]
    refine o_nx <| o_seq <| o_if <| is_bl <| Res.is_of (bin_ok (var_ok rfl) rfl (eq_int _ _ _)) ⟨_, rfl, ?_⟩
    by_cases k3 : k = 3
    · subst k3
      rw [if_pos rfl] at hN
      rw [decide_eq_true (by rfl), if_pos rfl]
      refine o_set <| Res.is_of (bin_ok rfl (var_ok rfl) (add_str (by rw [a1]; omega) _)) ?_
      refine o_seq <| o_pass <| is_bl <| Res.is_of (bin_ok (var_ok rfl) rfl (eq_int _ _ _)) ⟨_, rfl, decide_eq_false (by decide), ?_⟩
      exact o_ret <| is_var rfl hN
    · rw [if_neg k3] at hN
      rw [decide_eq_false (by omega), if_neg (by decide)]
      refine o_nx <| o_seq <| o_if <| is_bl <| Res.is_of (bin_ok (var_ok rfl) rfl (eq_int _ _ _)) ⟨_, rfl, ?_⟩
      by_cases k4 : k = 4
      · subst k4
        rw [if_pos rfl] at hN
        rw [decide_eq_true (by rfl), if_pos rfl]
        refine o_set <| Res.is_of (bin_ok (var_ok rfl) rfl (add_str (by rw [a3]; omega) _)) ?_
        exact o_ret <| is_var rfl hN
      · rw [if_neg k4] at hN
        rw [decide_eq_false (by omega), if_neg (by decide)]
        exact o_nx <| o_ret <| is_var rfl hN
theorem join_len {l : List Str} (h : ∀ x ∈ l, x.length ≤ 5) (hl : l.length ≤ 4) : (l.map (·.length)).sum + l.length * (Str.ofString " ").length ≤ 1000000 ∧ (Str.join " " l).length ≤ 100 := by
  have a := sum_len h
  have j := PySem.StrLaws.join_length_le " " l
  rw [len1.1] at j ⊢
  omega
theorem text_ok (h : J p c m st) (hB : ∀ k a b d s, a ∈ F1 → b ∈ F2 → d ∈ F3 → J p c m s → B (.t (.str (textK k a b d))) s) : (m_law_text [.r p] st).Is B := by
  have hc := h.c_lt
  have hp := h.p_lt
  refine is_defT ?_
  rw [show startE 7 [D.r p] = [some (.r p), none, none, none, none, none, none] from rfl, b_law_text]
  refine o_seq <| o_set <| Res.is_of (a := .t (.lst (F1.map .str))) (s := st) rfl ?_
  refine o_seq <| o_set <| Res.is_of (a := .t (.lst (F2.map .str))) (s := st) rfl ?_
  refine o_seq <| o_set <| Res.is_of (a := .t (.lst (F3.map .str))) (s := st) rfl ?_
  show (seqM _ _ [some (.r p), l1, l2, l3, none, none, none] st).Is _ _
  refine o_seq <| o_set <| is_newM <| is_cons <| is_one (n := 10) h rfl rfl rfl (by decide) (by decide) fun a s1 ha h1 => is_cons <| is_one (n := 8) h1 rfl rfl rfl (by decide) (by decide) fun b s2 hb h2 => is_cons <| is_one (n := 10) h2 rfl rfl rfl (by decide) (by decide) fun d s3 hd h3 => is_nil ?_
  obtain ⟨a, fa, rfl⟩ := List.mem_map.mp ha
  obtain ⟨b, fb, rfl⟩ := List.mem_map.mp hb
  obtain ⟨d, fd, rfl⟩ := List.mem_map.mp hd
  have l3' : s3.length = m.length := h3.l
  have h4 := h3.grow (pl_below (c + 1) [T.str a, .str b, .str d])
  show (seqM _ _ [some (.r p), l1, l2, l3, some (.r s3.length), none, none] (s3 ++ [.lst ([T.str a, .str b, .str d].map .t)])).Is _ _
  rw [l3']
  have hl0 := h.l
  have at4 : ∀ {ts : List T} {s : Sto}, J p c (m ++ [.lst (ts.map .t)]) s → s[m.length]? = some (.lst (ts.map .t)) := fun h => by
    rw [h.f m.length (by omega) (by omega), List.getElem?_append_right (Nat.le_refl _), Nat.sub_self]; rfl
  have set4 : ∀ {o o' : SO}, (m ++ [o]).set m.length o' = m ++ [o'] := by
    intro o o'
    rw [List.set_append_right _ _ (Nat.le_refl _), Nat.sub_self]; rfl
  -- behind the words
  have rest : ∀ (b : Str) (s : Sto), b ∈ F2 → J p c (m ++ [.lst ([T.str a, .str b, .str d].map .t)]) s →
      (seqM (setM 5 (callG m_law_pull [eVar 0, eC (.int 16)]))
      (seqM (ifM (fun env st => blOf (Mi.bin eqM (eVar 5) (eC (.int 0)) env st)) (setM 4 (sliceM (eVar 4) (oNone) (oSome (eC (.int 2))))) (nxM))
      (seqM (ifM (fun env st => blOf (Mi.bin eqM (eVar 5) (eC (.int 1)) env st)) (dropM (methM "list" appG (eVar 4) [eC (.str "1")])) (nxM))
      (seqM (setM 6 (methM "str" joinG (eC (.str " ")) [eVar 4]))
      (seqM (ifM (fun env st => blOf (Mi.bin eqM (eVar 5) (eC (.int 2)) env st)) (setM 6 (Mi.bin addM (eVar 6) (eC (.str " ")))) (nxM))
      (seqM (ifM (fun env st => blOf (Mi.bin eqM (eVar 5) (eC (.int 3)) env st)) (setM 6 (Mi.bin addM (eC (.str " ")) (eVar 6))) (nxM))
      (seqM (ifM (fun env st => blOf (Mi.bin eqM (eVar 5) (eC (.int 4)) env st)) (setM 6 (Mi.bin addM (eVar 6) (eC (.str "\n")))) (nxM))
      (retM (eVar 6)))))))) [some (.r p), l1, l2, l3, some (.r m.length), none, none] s).Is (fun _ s => (trim st.length (.t .non) s).Is B) (fun d s => (trim st.length d s).Is B) := by
    intro b s hb h5
    have la := fl a (.inl fa)
    have lb := fl b (.inr (.inl hb))
    have ld := fl d (.inr (.inr fd))
    refine o_seq <| o_set <| is_pull h5 (var_ok rfl) rfl (by decide) (by decide) fun r s6 r0 r1 h6 => ?_
    obtain ⟨k, rfl⟩ : ∃ k : Nat, r = k := ⟨r.toNat, by omega⟩
    show (seqM _ _ [some (.r p), l1, l2, l3, some (.r m.length), some (.t (.int (k : Int))), none] s6).Is _ _
    have done : ∀ {o : SO} {s : Sto}, J p c (m ++ [o]) s → (trim st.length (.t (.str (textK k a b d))) s).Is B := fun h => by
      rw [hl0]
      exact is_trim2 h (by omega) (by omega) fun s hs => hB k a b d s fa hb fd hs
    refine o_seq <| o_if <| is_bl <| Res.is_of (bin_ok (var_ok rfl) rfl (eq_int _ _ _)) ⟨_, rfl, ?_⟩
    by_cases k0 : k = 0
    · subst k0
      rw [decide_eq_true (by rfl), if_pos rfl]
      have sl : sliceM (eVar 4) (oNone) (oSome (eC (.int 2))) [some (.r p), l1, l2, l3, some (.r m.length), some (.t (.int ((0 : Nat) : Int))), none] s6 = .ok (.t (.lst ([a, b].map .str))) s6 := by
        unfold sliceM
        rw [var_ok (d := .r m.length) rfl, Res.bind_ok]
        show optR ((lsq s6 (.r m.length)).bind fun ds => (plains ds).map fun ts => D.t (.lst (cutG ts none (some 2)))) s6 = _
        have e : lsq s6 (.r m.length) = some ([T.str a, .str b, .str d].map .t) := items_at (at4 h6)
        rw [e]
        rfl
      refine o_set <| Res.is_of sl ?_
      refine o_seq <| o_pass <| is_bl <| Res.is_of (bin_ok (var_ok rfl) rfl (eq_int _ _ _)) ⟨_, rfl, decide_eq_false (by decide), ?_⟩
      obtain ⟨j1, j2⟩ := join_len (l := [a, b]) (by intro x hx; simp only [List.mem_cons, List.not_mem_nil, or_false] at hx; rcases hx with rfl | rfl <;> assumption) (by simp)
      refine o_seq <| o_set <| Res.is_of (meth_ok (d := .t (.str " ")) rfl rfl (args1 (var_ok rfl)) (join_of (ws := [a, b]) rfl j1)) ?_
      exact tail_ok j2 (done h6)
    · rw [decide_eq_false (by omega), if_neg (by decide)]
      refine o_nx <| o_seq <| o_if <| is_bl <| Res.is_of (bin_ok (var_ok rfl) rfl (eq_int _ _ _)) ⟨_, rfl, ?_⟩
      by_cases k1 : k = 1
      · subst k1
        rw [decide_eq_true (by rfl), if_pos rfl]
        refine o_drop <| is_meth <| Res.is_of (var_ok rfl) ⟨ty_at (at4 h6), is_cons <| is_C <| is_nil ⟨_, app_at (at4 h6) (by have := limB; simp only [List.length_map, List.length_cons, List.length_nil]; omega), ?_⟩⟩
        have h7 := h6.put (q := m.length) (by omega) (by omega) (pl_below (c + 1) [T.str a, .str b, .str d, .str "1"])
        rw [set4] at h7
        have at7 := at4 h7
        obtain ⟨j1, j2⟩ := join_len (l := [a, b, d, "1"]) (by intro x hx; simp only [List.mem_cons, List.not_mem_nil, or_false] at hx; rcases hx with rfl | rfl | rfl | rfl; exact la; exact lb; exact ld; rw [len1.2.1]; decide) (by simp)
        refine o_seq <| o_set <| Res.is_of (meth_ok (d := .t (.str " ")) rfl rfl (args1 (var_ok rfl)) (join_of (ws := [a, b, d, "1"]) (items_at at7) j1)) ?_
        exact tail_ok j2 (done h7)
      · rw [decide_eq_false (by omega), if_neg (by decide)]
        obtain ⟨j1, j2⟩ := join_len (l := [a, b, d]) (by intro x hx; simp only [List.mem_cons, List.not_mem_nil, or_false] at hx; rcases hx with rfl | rfl | rfl <;> assumption) (by simp)
        refine o_nx <| o_seq <| o_set <| Res.is_of (meth_ok (d := .t (.str " ")) rfl rfl (args1 (var_ok rfl)) (join_of (ws := [a, b, d]) (items_at (at4 h6)) j1)) ?_
        refine tail_ok j2 ?_
        have e := done h6
        unfold textK at e
        rw [if_neg k0, if_neg k1] at e
        exact e
  refine o_seq <| o_if <| is_bl <| is_bin <| is_pull h4 (var_ok rfl) rfl (by decide) (by decide) fun r s5 r0 r1 h5 => is_C ⟨_, eq_int _ _ _, _, rfl, ?_⟩
  by_cases cr : r = 1
  · rw [decide_eq_true cr, if_pos rfl]
    -- the second word is one of 0 and 1
    have put : (callB strB [callG m_law_pull [eVar 0, eC (.int 2)]] [some (.r p), l1, l2, l3, some (.r m.length), none, none] s5).Is fun x s => ∃ w ∈ F2, x = .t (.str w) ∧ J p c (m ++ [.lst ([T.str a, .str b, .str d].map .t)]) s := by
      refine is_callB <| is_cons <| is_pull h5 (var_ok rfl) rfl (by decide) (by decide) fun i s6 i0 i1 h6 => is_nil ?_
      obtain ⟨b', hb', e⟩ := str_small i i0 i1 s6
      exact ⟨_, e, b', hb', rfl, h6⟩
    obtain ⟨x, s6, e, b', hb', rfl, h6⟩ := put.get
    have at6 := at4 h6
    have h7 := h6.put (q := m.length) (by omega) (by omega) (pl_below (c + 1) [T.str a, .str b', .str d])
    rw [set4] at h7
    exact o_setIt (k := 1) e (var_ok rfl) rfl at6 (by simp) (rest b' _ hb' h7)
  · rw [decide_eq_false cr, if_neg (by decide)]
    exact o_nx (rest b _ fb h5)
end
end K87
/-! k87P7 -/
namespace K87
open Mi PySem
section
variable {xc : XC} {st : Sto} {B : D → Sto → Prop} {env : Mi.Env} {N : Mi.Env → Sto → Prop}
theorem try_is {i : Nat} {isC : Addr → Option Bool} {gb : Mi.Env → Sto → Out} {S : Addr → Option Addr → Addr → Mi.Env → Sto → Out} {e : Mi.Env} {s : Sto} {C : Addr} {fs : List (Str × T)} {o : Out} (h : gb env st = .exc C fs e s) (hC : isC C = some true)
    (hs : ∀ a q, unset i (S a q C (e.set i (some (.x a q C fs))) s) = o) : tryAs i isC gb S env st = o := by
  unfold tryAs
  rw [h]
  simp only [hC]
  rw [if_pos fun a q => (hs a q).trans (hs 0 none).symm]
  exact hs 0 none
theorem try_nx {i : Nat} {isC : Addr → Option Bool} {gb : Mi.Env → Sto → Out} {S : Addr → Option Addr → Addr → Mi.Env → Sto → Out} {e : Mi.Env} {s : Sto} (h : gb env st = .nx e s) : tryAs i isC gb S env st = .nx e s := by
  unfold tryAs
  rw [h]
theorem nx_is (h : N env st) : (Out.nx env st).Is N B := h
theorem lk_self (C : Addr) : lkB C [(C, true)] = some true := by simp [lkB]
theorem kt_self (C B : Addr) : kt1 B [(C, true)] C B = some true := by simp [kt1, lkB]
theorem set_eq {i : Nat} {f : Mi.Env → Sto → Res D} {d : D} (h : f env st = .ok d st) : setM i f env st = .nx (env.set i (some d)) st := by
  unfold setM
  rw [h]
  rfl
theorem set_exc {i : Nat} {f : Mi.Env → Sto → Res D} {C : Addr} {fs : List (Str × T)} (h : f env st = .exc C fs st) : setM i f env st = .exc C fs env st := by
  unfold setM
  rw [h]
  rfl
theorem callP_exc {F : List T → Rp} {fs : List (Mi.Env → Sto → Res D)} {ts : List T} {C : Addr} {xs : List (Str × T)} (ha : argsM fs env st = .ok (ts.map .t) st) (h : F ts = .exc C xs) : callP F fs env st = .exc C xs st := by
  unfold callP
  rw [ha, Res.bind_ok, plains_map]
  simp only [h]
theorem ne_bl (x y : Bool) (s : Sto) : neM (.t (.bl x)) (.t (.bl y)) s = some (.t (.bl (!decide (x = y)))) := rfl
theorem asked {v : T} {x : Ch} (g : Good xc v x) {x0 x1 x2 x4 x5 x6 x7 : Option D} (hN : ∀ x4 x5 x6 x7, N [x0, x1, x2, some (.t v), x4, x5, x6, x7] st) :
    (seqM (setM 4 (callP m_law_expected [eVar 3]))
    (seqM (setM 5 (eC .non))
    (seqM (setM 6 (eC (.bl false)))
    (seqM (tryAs 7 (fun C => lkB C [(xc.ParseError, true)]) (setM 5 (callP (m_parse_choice xc) [eVar 3]))
    (fun a0 o0 C0 => setM 6 (andV (Mi.bin eqM (callB reprB [xfM a0 o0 C0 "line" (eVar 7)]) (callB reprB [eVar 3])) (callB (isXB a0 o0 C0 (kt1 xc.RunError [(xc.ParseError, true)])) [eVar 7, eC (.glb xc.RunError)]))))
    (ifM (orM (fun env st => blOf (Mi.bin neM (eVar 6) (Mi.bin isM (eVar 4) (eC .non)) env st)) (fun env st => blOf (Mi.bin neM (callB reprB [eVar 5]) (callB reprB [eVar 4]) env st))) (retM (eC (.bl false))) (nxM))))) [x0, x1, x2, some (.t v), x4, x5, x6, x7] st).Is N B := by
  obtain ⟨y1, r1⟩ := g.r
  obtain ⟨y2, r2⟩ := g.q
  refine o_seq <| o_set <| Res.is_of (callP_ok (ts := [v]) (args1 (var_ok rfl)) g.e) ?_
  refine o_seq <| o_set <| is_C <| o_seq <| o_set <| is_C ?_
  show (seqM _ _ [x0, x1, x2, some (.t v), some (.t (enc x)), some (.t .non), some (.t (.bl false)), x7] st).Is _ _
  cases x with
  | none =>
    refine o_seq <| Out.is_of (try_is (o := .nx [x0, x1, x2, some (.t v), some (.t .non), some (.t .non), some (.t (.bl true)), none] st) (set_exc (callP_exc (ts := [v]) (args1 (var_ok rfl)) (g.y rfl))) (lk_self _) fun a q => ?_) ?_
    · have line : xfM a q xc.ParseError "line" (eVar 7) ([x0, x1, x2, some (.t v), some (.t .non), some (.t .non), some (.t (.bl false)), x7].set 7 (some (.x a q xc.ParseError [("line", v)]))) st = .ok (.t v) st := by
        unfold xfM
        rw [var_ok (d := .x a q xc.ParseError [("line", v)]) rfl, Res.bind_ok]
        dsimp only
        rw [if_pos ⟨rfl, rfl, rfl⟩]
        rfl
      have is : callB (isXB a q xc.ParseError (kt1 xc.RunError [(xc.ParseError, true)])) [eVar 7, eC (.glb xc.RunError)] ([x0, x1, x2, some (.t v), some (.t .non), some (.t .non), some (.t (.bl false)), x7].set 7 (some (.x a q xc.ParseError [("line", v)]))) st = .ok (.t (.bl true)) st := by
        refine callB_ok (args2 (var_ok rfl) rfl) ?_
        show (if a = a ∧ q = q ∧ xc.ParseError = xc.ParseError then (kt1 xc.RunError [(xc.ParseError, true)] xc.ParseError xc.RunError).map bD else none) = _
        rw [if_pos ⟨rfl, rfl, rfl⟩, kt_self]
        rfl
      have eq : Mi.bin eqM (callB reprB [xfM a q xc.ParseError "line" (eVar 7)]) (callB reprB [eVar 3]) ([x0, x1, x2, some (.t v), some (.t .non), some (.t .non), some (.t (.bl false)), x7].set 7 (some (.x a q xc.ParseError [("line", v)]))) st = .ok (.t (.bl true)) st := by
        rw [bin_ok (callB_ok (args1 line) (r2 st)) (callB_ok (args1 (var_ok rfl)) (r2 st)) (eq_str _ _ _), decide_eq_true rfl]
      show unset 7 (setM 6 _ ([x0, x1, x2, some (.t v), some (.t .non), some (.t .non), some (.t (.bl false)), x7].set 7 (some (.x a q xc.ParseError [("line", v)]))) st) = _
      rw [set_eq (andV_ok eq is)]
      rfl
    · refine nx_is <| o_pass <| is_or <| is_bl <| Res.is_of (bin_ok (var_ok rfl) (bin_ok (var_ok rfl) rfl (enc_non none st)) (ne_bl _ _ _)) ⟨false, rfl, ?_⟩
      rw [if_neg (by decide)]
      exact is_bl <| Res.is_of (bin_ok (callB_ok (args1 (var_ok rfl)) (r1 st)) (callB_ok (args1 (var_ok rfl)) (r1 st)) (ne_same _ _)) ⟨false, rfl, rfl, hN _ _ _ _⟩
  | some c =>
    refine o_seq <| Out.is_of (try_nx (set_eq (callP_ok (ts := [v]) (args1 (var_ok rfl)) (g.z c rfl)))) ?_
    show (ifM _ _ _ [x0, x1, x2, some (.t v), some (.t (enc (some c))), some (.t (enc (some c))), some (.t (.bl false)), x7] st).Is _ _
    refine o_pass <| is_or <| is_bl <| Res.is_of (bin_ok (var_ok rfl) (bin_ok (var_ok rfl) rfl (enc_non (some c) st)) (ne_bl _ _ _)) ⟨false, rfl, ?_⟩
    rw [if_neg (by decide)]
    exact is_bl <| Res.is_of (bin_ok (callB_ok (args1 (var_ok rfl)) (r1 st)) (callB_ok (args1 (var_ok rfl)) (r1 st)) (ne_same _ _)) ⟨false, rfl, rfl, hN _ _ _ _⟩
def yes (d : D) (_ : Sto) : Prop := d = .t (.bl true)
theorem turns {ns : List Int} {x2 x3 x4 x5 x6 x7 : Option D} (h : J 1 0 st st) (hN : ∀ e s, (∃ x2 x3 x4 x5 x6 x7, e = [some (script ns), some (.r 1), x2, x3, x4, x5, x6, x7]) → N e s) : (l_law_1 xc [some (script ns), some (.r 1), x2, x3, x4, x5, x6, x7] st).Is N B := by
  unfold l_law_1
  refine o_rng (fun i e s => (∃ x2 x3 x4 x5 x6 x7, e = [some (script ns), some (.r 1), x2, x3, x4, x5, x6, x7]) ∧ J 1 0 st s) 6 6 (by decide) (is_cons <| is_C <| is_nil ⟨_, rfl, by decide, by decide, ⟨_, _, _, _, _, _, rfl⟩, h⟩) ?_ (fun i e s _ _ h => hN e s h.1)
  rintro i x e s ⟨⟨x2, x3, x4, x5, x6, x7, rfl⟩, h0⟩ _ _
  refine ⟨_, rfl, ?_⟩
  refine o_seq <| o_set <| is_callG <| is_cons <| Res.is_of (var_ok rfl) <| is_nil <| text_ok h0 fun k a b d s1 ha hb hd h1 => ?_
  obtain ⟨y, gt⟩ := good_text xc (chk_all (k := k) ha hb hd)
  show (seqM _ _ [some (script ns), some (.r 1), some (.t (.int x)), some (.t (.str (textK k a b d))), x4, x5, x6, x7] s1).Is _ _
  refine o_seq <| o_if <| is_bl <| is_bin <| is_pull h1 (var_ok rfl) rfl (by decide) (by decide) fun r s2 r0 r1 h2 => is_C ⟨_, eq_int _ _ _, _, rfl, ?_⟩
  by_cases cr : r = 0
  · rw [decide_eq_true cr, if_pos rfl]
    refine o_set <| is_bin <| Res.is_of (a := .t (.lst ODD4)) (s := s2) rfl <| is_pull h2 (var_ok rfl) rfl (by decide) (by decide) fun i s3 i0 i1 h3 => ?_
    obtain ⟨j, rfl⟩ : ∃ j : Nat, i = j := ⟨i.toNat, by omega⟩
    have hj : j < ODD4.length := by show j < 4; omega
    refine ⟨_, by rw [ix_l, List.getElem?_eq_getElem hj]; rfl, ?_⟩
    exact asked (good_odd xc (List.getElem_mem hj)) fun x4 x5 x6 x7 => ⟨⟨_, _, _, _, _, _, rfl⟩, h3⟩
  · rw [decide_eq_false cr, if_neg (by decide)]
    exact o_nx <| asked gt fun x4 x5 x6 x7 => ⟨⟨_, _, _, _, _, _, rfl⟩, h2⟩
theorem m_true (xc : XC) (ns : List Int) : (m_law xc [script ns] []).Is yes := by
  refine is_defG ?_
  rw [show startE 8 [script ns] = [some (script ns), none, none, none, none, none, none, none] from rfl]
  rw [b_law]
  refine o_seq <| o_set <| Res.is_of (a := .r 1) (s := [.lst ((ns.map T.int).map .t), .lst [.r 0, .t (.int 0), .t (.int 0)]]) rfl ?_
  have b0 : Bl 1 [.lst ((ns.map T.int).map .t), .lst [.r 0, .t (.int 0), .t (.int 0)]] := .of fun o ho => by
    simp only [List.mem_cons, List.not_mem_nil, or_false] at ho
    rcases ho with rfl | rfl
    · exact pl_below 1 _
    · rfl
  refine o_seq <| turns ⟨by decide, ⟨ns, rfl⟩, ⟨0, 0, rfl⟩, rfl, b0, fun _ _ _ => rfl⟩ ?_
  rintro e s ⟨x2, x3, x4, x5, x6, x7, rfl⟩
  exact o_ret <| is_C rfl
theorem truth (xc : XC) (ns : List Int) (_ : ns.length ≤ 63) : ∃ st, m_law xc [script ns] [] = .ok (.t (.bl true)) st := by
  obtain ⟨d, s, e, rfl⟩ := (m_true xc ns).get
  exact ⟨s, e⟩
end
end K87
open PyProof.Rows PySem PySem.W
set_option maxHeartbeats 0 in
theorem PySem.Challenge.cw_interruptruns_k87_choice_texts_refused_holds : PySem.Challenge.rw_interruptruns_k87_choice_texts_refused.Holds := by
  w_on; o_law; k_head; (case hw => w_witness2); k_fill
  refine Mi.law_endX (l := PySem.Challenge.rw_interruptruns_k87_choice_texts_refused) (n := 63) (k := 5) (x := "_law_script") (m := K87.m_law) rfl (by decide) rfl ⟨rfl, by decide, by decide⟩ (fun w h Y => PySem.W.kIn_of Y) ?F (fun xc ns hn => K87.truth xc ns hn)
  case F =>
    intro w mg fa h KX G hmg
    refine' K87.all_mk KX G hmg ?xa0 ?xa1 ?ysp ?ytk ?a0 ?l0 ?c0 ?k0 ?a1 ?l1 ?c1 ?k1 ?a2 ?l2 ?c2 ?k2 ?a3 ?l3 ?c3 ?k3 ?a4 ?l4 ?c4 ?k4 ?a5 ?l5 ?c5 ?k5 ?a6 ?l6 ?c6 ?k6 ?a7 ?l7 ?c7 ?k7 ?a8 ?l8 ?c8 ?k8 ?z0 ?z1 ?z2 ?z3 ?z4 ?z5 ?z6 ?z7 ?z8 ?z9 ?x0 ?r0 ?x1 ?r1 ?x2 ?r2 ?x3 ?r3 ?t0 ?m0 ?q0 ?w0 ?e0 ?yo0 ?ysa0 ?yex0 ?yty0 ?ykc0 ?yga0 ?ygg0 ?yhd0 ?yno0 ?ycl0 ?ymr0 ?xi0 ?li0 ?ci0 ?ki0 ?xt0 ?xe0_0 ?xk0_1
    (case xa0 => k_is); (case xa1 => k_is); (case ysp => k_is); (case ytk => k_is); (case a0 => k_is); (case l0 => k_is); (case c0 => k_is); (case k0 => k_is); (case a1 => k_is); (case l1 => k_is); (case c1 => k_is); (case k1 => k_is); (case a2 => k_is); (case l2 => k_is); (case c2 => k_is); (case k2 => k_is); (case a3 => k_is); (case l3 => k_is); (case c3 => k_is); (case k3 => k_is); (case a4 => k_is); (case l4 => k_is); (case c4 => k_is); (case k4 => k_is); (case a5 => k_is); (case l5 => k_is); (case c5 => k_is); (case k5 => k_is); (case a6 => k_is); (case l6 => k_is); (case c6 => k_is); (case k6 => k_is); (case a7 => k_is); (case l7 => k_is); (case c7 => k_is); (case k7 => k_is); (case a8 => k_is); (case l8 => k_is); (case c8 => k_is); (case k8 => k_is); (case z0 => k_is); (case z1 => k_is); (case z2 => k_is); (case z3 => k_is); (case z4 => k_is); (case z5 => k_is); (case z6 => k_is); (case z7 => k_is); (case z8 => k_is); (case z9 => k_is); (case x0 => k_is); (case x1 => k_is); (case x2 => k_is); (case x3 => k_is); (case t0 => k_is); (case m0 => k_is); (case ysa0 => k_is); (case yex0 => k_is); (case yty0 => k_is); (case ykc0 => k_is); (case yga0 => k_is); (case ygg0 => k_is); (case yhd0 => k_is); (case yno0 => k_is); (case ycl0 => k_is); (case ymr0 => k_is); (case xi0 => k_is); (case li0 => k_is); (case ci0 => k_is); (case ki0 => k_is); (case xt0 => k_is)
    (case r0 => rfl); (case r1 => rfl); (case r2 => rfl); (case r3 => rfl); (case q0 => exact ⟨⟨_, _, rfl, rfl⟩, ⟨⟨_, _, rfl, rfl⟩, trivial⟩⟩); (case w0 => rfl); (case e0 => rfl); (case yo0 => exact ⟨_, _, _, _, _, _, _, _, _, _, _, _, _, _, _, rfl, rfl⟩); (case xe0_0 => rfl); (case xk0_1 => rfl)
