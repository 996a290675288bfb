import PyProof.Rows.All
import Wide.All
import OpenK.AllK
import Wide.FinOn
import HandS.ForMost
import HandS.ForExc
import HandS.IsInst
import HandS.Flow
import HandS.Zip
import HandS.ExcInit
import HandS.TupAny
import HandS.TupMul
import HandS.TupLe
import HandS.Small
import HandS.RaiseMore
import HandS.More
import HandS.ExcField
import HandS.HotCalls
import KE.KExcIs
import KE.KTryMore
import HandS.MakeKwOnly
import HandS.Property
import HandS.Conv
import HandS.ListItems
import HandS.DictComp
import KE.KDictList
import HandS.Star
import HandS.Style
import KE.GoesEnum
import KE.GoesMore
import HandS.NoneIn
import HandS.Deep
import PyProof.StrBlock2
import HandS.WordsDict
import HandS.OwnEq
import HandS.WordsExc
import HandS.TryMany
import KE.GoesRaise
import KE.KWithOwn
import HandS.Finally
import HandS.Defaults
import HandS.DictEq
import KE.KIntText
import HandS.Codes
import PyProof.ReprLen
import PyProof.StrLawsTight
import PyProof.FitsReplace
import KE.KExcMake
import KE.KExcPX
import PySem.Challenge.RW_interruptruns_k03_error_classes
set_option Elab.async false
set_option linter.all false
set_option maxRecDepth 100000
set_option maxHeartbeats 4000007
/-! Mir0 -/
namespace Mi
open L2 PySem PySem.Spec PyProof.Rows

/-! ### data that nobody changes -/
/-- a plain value: what a Python value says, without addresses -/
inductive T where
  | non | bl (b : Bool) | int (i : Int) | str (x : Str) | tup (ts : List T) | lst (ts : List T) | scr (ts : List T) | glb (a : Addr) | ty (n : String)
  /-- an instance of an own class whose attributes stay as they are; dicts that stay as they are: keys that are ints and texts, keys that are tuples of these -/
  | ins (C : Addr) (ns : List Str) (ts : List T) | dk (ks : List L2.Key) (ts : List T) | dt (ks : List (List L2.Key)) (ts : List T)
  /-- a tuple of which it is known that it has no dict of its own -/
  | nt (ts : List T)
/-- a value: a plain one, the n-th of the objects that are changed, or a caught exception at a: its class, its fields, which stand at o -/
inductive D where
  | t (x : T) | r (n : Nat) | x (a : Addr) (o : Option Addr) (C : Addr) (fs : List (Str × T))
/-- an object that is changed -/
inductive SO where
  | lst (ds : List D) | ins (C : Addr) (fs : List (Str × D)) | dk (lk : Bool) (kvs : List (L2.Key × D)) | dt (kvs : List (List L2.Key × D))
  /-- an exception that is kept, with its fields -/
  | exc (C : Addr) (fs : List (Str × D))
abbrev Sto := List SO

/-- a tuple that is read: tracked, or an object of the module -/
def TupAt (K : PySem.W.Frag) (H : Hp) (a : Addr) (vs : List V) : Prop := H a = some (.tup vs) ∨ (∃ o, H a = some (.frz o (.tup vs))) ∨
  ∃ (o : Obj) (its : Array Value) (n : Nat), K.lookup a = some o ∧ o.cls = .type "tuple" ∧ o.data = .seq its n ∧ its.size ≤ sizeLine ∧ Vals vs its.toList
theorem TupAt.sq {K : PySem.W.Frag} {H : Hp} {a : Addr} {vs : List V} (h : TupAt K H a vs) : SqT K H a vs := by
  rcases h with h | ⟨o, h⟩ | h
  · exact .inl (.inl h)
  · exact .inl (.inr ⟨o, h⟩)
  · exact .inr h
/-- a list that is locked, or an object of the module: nobody can change it -/
def LkAt (K : PySem.W.Frag) (H : Hp) (a : Addr) (vs : List V) : Prop := (∃ o, H a = some (.frz o (.lst vs))) ∨
  ∃ (o : Obj) (its : Array Value) (n : Nat), K.lookup a = some o ∧ o.cls = .type "list" ∧ o.dict = none ∧ o.data = .seq its n ∧ its.size ≤ sizeLine ∧ Vals vs its.toList
theorem LkAt.sq {K : PySem.W.Frag} {H : Hp} {a : Addr} {vs : List V} (h : LkAt K H a vs) : SqL K H a vs := h.imp (fun h => .inr h) id
/-- a dict, a loop may walk it -/
def DkAt (H : Hp) (a : Addr) (kvs : List (L2.Key × V)) : Prop := ∃ o, H a = some (.frz o (.dK kvs))
mutual
/-- v stands for the plain value; F: the addresses whose objects stay as they are -/
def RelT (K : PySem.W.Frag) (F : Addr → Prop) (H : Hp) : T → V → Prop
  | .non, v => v = .non
  | .bl b, v => v = .bl b
  | .int i, v => v = .int i
  | .str x, v => v = .str x
  | .tup ts, v => ∃ a vs, v = .ref a ∧ TupAt K H a vs ∧ RelTs K F H ts vs
  | .lst ts, v => ∃ a vs, v = .ref a ∧ F a ∧ H a = some (.lst vs) ∧ RelTs K F H ts vs
  | .scr ts, v => ∃ a vs, v = .ref a ∧ LkAt K H a vs ∧ RelTs K F H ts vs
  | .glb a, v => v = .ref a
  | .ty n, v => v = .ty n
  | .ins C ns ts, v => ∃ a dx vs, v = .ref a ∧ F a ∧ H a = some (.ins C dx (ns.zip vs)) ∧ ns.length = ts.length ∧ RelTs K F H ts vs
  | .dk ks ts, v => ∃ a vs, v = .ref a ∧ F a ∧ DkAt H a (ks.zip vs) ∧ ks.length = ts.length ∧ RelTs K F H ts vs
  | .dt ks ts, v => ∃ a vs, v = .ref a ∧ F a ∧ H a = some (.dT (ks.zip vs)) ∧ ks.length = ts.length ∧ RelTs K F H ts vs
  | .nt ts, v => ∃ a vs o, v = .ref a ∧ F a ∧ H a = some (.frz o (.tup vs)) ∧ o.dict = none ∧ RelTs K F H ts vs
def RelTs (K : PySem.W.Frag) (F : Addr → Prop) (H : Hp) : List T → List V → Prop
  | [], vs => vs = []
  | t :: ts, vs => ∃ v r, vs = v :: r ∧ RelT K F H t v ∧ RelTs K F H ts r
end
/-- where the changed objects stand; which lists stay -/
structure Wd where
  ρ : List Addr
  F : Addr → Prop
/-- an exception's own dict -/
def RelFs (K : PySem.W.Frag) (W : Wd) (H : Hp) : List (Str × T) → List (Str × V) → Prop
  | [], vs => vs = []
  | (n, t) :: r, vs => ∃ v u, vs = (n, v) :: u ∧ RelT K W.F H t v ∧ RelFs K W H r u
def ExD (K : PySem.W.Frag) (W : Wd) (H : Hp) (fs : List (Str × T)) (o : Option Addr) : Prop := fs = [] ∨ ∃ a vs, o = some a ∧ H a = some (.xd vs) ∧ RelFs K W H fs vs
def RelD (K : PySem.W.Frag) (W : Wd) (H : Hp) : D → V → Prop
  | .t x, v => RelT K W.F H x v
  | .r n, v => ∃ a, W.ρ[n]? = some a ∧ v = .ref a
  | .x a o _ fs, v => v = .ref a ∧ ExD K W H fs o
def RelDs (K : PySem.W.Frag) (W : Wd) (H : Hp) : List D → List V → Prop
  | [], vs => vs = []
  | d :: ds, vs => ∃ v r, vs = v :: r ∧ RelD K W H d v ∧ RelDs K W H ds r
def RelKs {κ : Type} (K : PySem.W.Frag) (W : Wd) (H : Hp) : List (κ × D) → List (κ × V) → Prop
  | [], vs => vs = []
  | (k, d) :: r, vs => ∃ v u, vs = (k, v) :: u ∧ RelD K W H d v ∧ RelKs K W H r u
def SoOk (K : PySem.W.Frag) (W : Wd) (H : Hp) (a : Addr) : SO → Prop
  | .lst ds => ∃ vs, H a = some (.lst vs) ∧ RelDs K W H ds vs
  | .ins C fs => ∃ dx vs, H a = some (.ins C dx vs) ∧ RelKs K W H fs vs
  | .dk lk kvs => ∃ vs, (if lk = true then ∃ o, H a = some (.frz o (.dK vs)) else H a = some (.dK vs)) ∧ RelKs K W H kvs vs
  | .dt kvs => ∃ vs, H a = some (.dT vs) ∧ RelKs K W H kvs vs
  | .exc C fs => ∃ d vs, H a = some (exo a C d) ∧ (fs = [] ∧ d = none ∨ ∃ dx, d = some dx ∧ H dx = some (.xd vs)) ∧ RelKs K W H fs vs
structure Rl (K : PySem.W.Frag) (W : Wd) (st : Sto) (H : Hp) : Prop where
  len : W.ρ.length = st.length
  nd : W.ρ.Nodup
  live : ∀ (n : Nat) (a : Addr) (o : SO), W.ρ[n]? = some a → st[n]? = some (o : SO) → SoOk K W H a o
  sep : ∀ a ∈ W.ρ, ¬ W.F a
  fz : ∀ a, W.F a → ∃ o, H a = some o
/-- what a piece of code leaves of the world: the changed objects stand where they stood, all others are as they were -/
structure Ext (W : Wd) (H : Hp) (W' : Wd) (H' : Hp) : Prop where
  pre : W.ρ <+: W'.ρ
  new : ∀ a ∈ W'.ρ, a ∈ W.ρ ∨ H a = none
  fF : ∀ a, W.F a → W'.F a
  nF : ∀ a, W'.F a → W.F a ∨ H a = none
  keep : ∀ a o, H a = some o → a ∉ W.ρ → H' a = some o
  there : ∀ a o, H a = some o → ∃ o', H' a = some o'
  lk : ∀ a o kvs, H a = some (.frz o (.dK kvs)) → H' a = some (.frz o (.dK kvs))

section
variable {K : PySem.W.Frag} {W W1 W2 W3 : Wd} {H H1 H2 H3 : Hp} {st : Sto}
theorem Ext.refl : Ext W H W H := ⟨List.prefix_refl _, fun _ h => .inl h, fun _ h => h, fun _ h => .inl h, fun _ _ h _ => h, fun _ o h => ⟨o, h⟩, fun _ _ _ h => h⟩
theorem Ext.trans (a : Ext W H W1 H1) (b : Ext W1 H1 W2 H2) : Ext W H W2 H2 where
  pre := a.pre.trans b.pre
  new := fun x hx => by
    rcases b.new x hx with h | h
    · exact a.new x h
    · cases e : H x with
      | none => exact .inr rfl
      | some o =>
        obtain ⟨o', e'⟩ := a.there x o e
        rw [h] at e'; cases e'
  fF := fun x h => b.fF x (a.fF x h)
  nF := fun x hx => by
    rcases b.nF x hx with h | h
    · exact a.nF x h
    · cases e : H x with
      | none => exact .inr rfl
      | some o =>
        obtain ⟨o', e'⟩ := a.there x o e
        rw [h] at e'; cases e'
  keep := fun x o e hm => b.keep x o (a.keep x o e hm) fun h => by
    rcases a.new x h with h | h
    · exact hm h
    · rw [e] at h; cases h
  there := fun x o e => by
    obtain ⟨o', e'⟩ := a.there x o e
    exact b.there x o' e'
  lk := fun x o kvs e => b.lk x o kvs (a.lk x o kvs e)

/-- what a changed object may be -/
def chg : HO → Bool
  | .lst _ => true
  | .ins .. => true
  | .dK _ => true
  | .dT _ => true
  | .frz _ (.dK _) => true
  | .ext _ => true
  | _ => false
theorem SoOk.is {a : Addr} {so : SO} (h : SoOk K W H a so) : ∃ o, H a = some o ∧ chg o = true := by
  cases so with
  | lst ds => obtain ⟨vs, e, _⟩ := h; exact ⟨_, e, rfl⟩
  | ins C fs => obtain ⟨dx, vs, e, _⟩ := h; exact ⟨_, e, rfl⟩
  | dt kvs => obtain ⟨vs, e, _⟩ := h; exact ⟨_, e, rfl⟩
  | exc C fs => obtain ⟨d, vs, e, _⟩ := h; exact ⟨_, e, rfl⟩
  | dk lk kvs =>
    obtain ⟨vs, e, _⟩ := h
    cases lk with
    | true => rw [if_pos rfl] at e; obtain ⟨o, e⟩ := e; exact ⟨_, e, rfl⟩
    | false => rw [if_neg (by decide)] at e; exact ⟨_, e, rfl⟩
/-- only such are among the changed objects -/
theorem Rl.tup (R : Rl K W st H) {a : Addr} {o : HO} (h : H a = some o) (h1 : chg o = false) : a ∉ W.ρ := fun hm => by
  obtain ⟨n, hn, e⟩ := List.getElem_of_mem hm
  have e1 : W.ρ[n]? = some a := by rw [List.getElem?_eq_getElem hn, e]
  have hn2 : n < st.length := by rw [← R.len]; exact hn
  obtain ⟨u, e2, q⟩ := (R.live n a st[n] e1 (List.getElem?_eq_getElem hn2)).is
  rw [h] at e2
  cases e2
  rw [h1] at q
  cases q
/-- what is locked and no dict -/
abbrev FzU := {u : HO // ∀ kvs, u ≠ .dK kvs}
theorem chg_fz (o : Obj) (u : FzU) : chg (.frz o u.1) = false := by
  obtain ⟨u, h⟩ := u
  cases u <;> first | rfl | exact absurd rfl (h _)
/-- what plain values lean on -/
structure KeepT (F : Addr → Prop) (H : Hp) (F' : Addr → Prop) (H' : Hp) : Prop where
  fF : ∀ a, F a → F' a
  lst : ∀ a o, F a → H a = some o → H' a = some o
  tup : ∀ a xs, H a = some (.tup xs) → H' a = some (.tup xs)
  frz : ∀ a o (u : FzU), H a = some (.frz o u.1) → H' a = some (.frz o u.1)
  xd : ∀ a fs, H a = some (.xd fs) → H' a = some (.xd fs)
theorem KeepT.lkAt {F F' : Addr → Prop} (k : KeepT F H F' H1) {a : Addr} {vs : List V} (h : LkAt K H a vs) : LkAt K H1 a vs := h.imp (fun ⟨o, h⟩ => ⟨o, k.frz a o ⟨.lst vs, fun _ z => nomatch z⟩ h⟩) id
theorem KeepT.tupAt {F F' : Addr → Prop} (k : KeepT F H F' H1) {a : Addr} {vs : List V} (h : TupAt K H a vs) : TupAt K H1 a vs := h.imp (k.tup a vs) (Or.imp (fun ⟨o, h⟩ => ⟨o, k.frz a o ⟨.tup vs, fun _ z => nomatch z⟩ h⟩) id)
mutual
theorem KeepT.relT {F F' : Addr → Prop} (k : KeepT F H F' H1) : ∀ (t : T) (v : V), RelT K F H t v → RelT K F' H1 t v
  | .non, v, h => h
  | .bl b, v, h => h
  | .int i, v, h => h
  | .str x, v, h => h
  | .glb a, v, h => h
  | .ty n, v, h => h
  | .tup ts, v, h => by
    obtain ⟨a, vs, e, q, r⟩ := h
    exact ⟨a, vs, e, k.tupAt q, KeepT.relTs k ts vs r⟩
  | .lst ts, v, h => by
    obtain ⟨a, vs, e, f, q, r⟩ := h
    exact ⟨a, vs, e, k.fF a f, k.lst a _ f q, KeepT.relTs k ts vs r⟩
  | .scr ts, v, h => by
    obtain ⟨a, vs, e, q, r⟩ := h
    exact ⟨a, vs, e, k.lkAt q, KeepT.relTs k ts vs r⟩
  | .ins C ns ts, v, h => by
    obtain ⟨a, dx, vs, e, f, q, l, r⟩ := h
    exact ⟨a, dx, vs, e, k.fF a f, k.lst a _ f q, l, KeepT.relTs k ts vs r⟩
  | .dk ks ts, v, h => by
    obtain ⟨a, vs, e, f, q, l, r⟩ := h
    exact ⟨a, vs, e, k.fF a f, q.imp fun o q => k.lst a _ f q, l, KeepT.relTs k ts vs r⟩
  | .dt ks ts, v, h => by
    obtain ⟨a, vs, e, f, q, l, r⟩ := h
    exact ⟨a, vs, e, k.fF a f, k.lst a _ f q, l, KeepT.relTs k ts vs r⟩
  | .nt ts, v, h => by
    obtain ⟨a, vs, o, e, f, q, l, r⟩ := h
    exact ⟨a, vs, o, e, k.fF a f, k.lst a _ f q, l, KeepT.relTs k ts vs r⟩
theorem KeepT.relTs {F F' : Addr → Prop} (k : KeepT F H F' H1) : ∀ (ts : List T) (vs : List V), RelTs K F H ts vs → RelTs K F' H1 ts vs
  | [], vs, h => h
  | t :: ts, vs, h => by
    obtain ⟨v, r, e, a, b⟩ := h
    exact ⟨v, r, e, KeepT.relT k t v a, KeepT.relTs k ts r b⟩
end
theorem Ext.kt (E : Ext W H W1 H1) (R : Rl K W st H) : KeepT W.F H W1.F H1 := ⟨E.fF, fun a xs f q => E.keep a _ q (fun hm => R.sep a hm f), fun a xs h => E.keep a _ h (R.tup h rfl), fun a o u h => E.keep a _ h (R.tup h (chg_fz o u)), fun a fs h => E.keep a _ h (R.tup h rfl)⟩
theorem Ext.relT (E : Ext W H W1 H1) (R : Rl K W st H) (t : T) (v : V) (h : RelT K W.F H t v) : RelT K W1.F H1 t v := (E.kt R).relT t v h
theorem Ext.relTs (E : Ext W H W1 H1) (R : Rl K W st H) (ts : List T) (vs : List V) (h : RelTs K W.F H ts vs) : RelTs K W1.F H1 ts vs := (E.kt R).relTs ts vs h
theorem pre_get {α : Type} {l l' : List α} {n : Nat} {a : α} (p : l <+: l') (h : l[n]? = some a) : l'[n]? = some a := by
  obtain ⟨r, rfl⟩ := p
  rw [List.getElem?_append_left (List.getElem?_eq_some_iff.mp h).1]
  exact h
theorem KeepT.relFs (k : KeepT W.F H W1.F H1) : ∀ {fs : List (Str × T)} {vs : List (Str × V)}, RelFs K W H fs vs → RelFs K W1 H1 fs vs
  | [], vs, h => h
  | (n, t) :: r, vs, h => by
    obtain ⟨v, u, e, a, b⟩ := h
    exact ⟨v, u, e, k.relT t v a, KeepT.relFs k b⟩
theorem KeepT.exd (k : KeepT W.F H W1.F H1) {fs : List (Str × T)} {o : Option Addr} (h : ExD K W H fs o) : ExD K W1 H1 fs o := by
  rcases h with h | ⟨a, vs, h1, h2, h3⟩
  · exact .inl h
  · exact .inr ⟨a, vs, h1, k.xd a vs h2, k.relFs h3⟩
theorem KeepT.relD (k : KeepT W.F H W1.F H1) (pre : W.ρ <+: W1.ρ) {d : D} {v : V} (h : RelD K W H d v) : RelD K W1 H1 d v := by
  cases d with
  | x a o C fs => exact ⟨h.1, k.exd h.2⟩
  | t x => exact k.relT x v h
  | r n =>
    obtain ⟨a, e, q⟩ := h
    exact ⟨a, pre_get pre e, q⟩
theorem KeepT.relDs (k : KeepT W.F H W1.F H1) (pre : W.ρ <+: W1.ρ) : ∀ {ds : List D} {vs : List V}, RelDs K W H ds vs → RelDs K W1 H1 ds vs
  | [], vs, h => h
  | d :: ds, vs, h => by
    obtain ⟨v, r, e, a, b⟩ := h
    exact ⟨v, r, e, k.relD pre a, KeepT.relDs k pre b⟩
theorem KeepT.relKs {κ : Type} (k : KeepT W.F H W1.F H1) (pre : W.ρ <+: W1.ρ) : ∀ {ds : List (κ × D)} {vs : List (κ × V)}, RelKs K W H ds vs → RelKs K W1 H1 ds vs
  | [], vs, h => h
  | (x, d) :: ds, vs, h => by
    obtain ⟨v, r, e, a, b⟩ := h
    exact ⟨v, r, e, k.relD pre a, KeepT.relKs k pre b⟩
theorem KeepT.soOk (k : KeepT W.F H W1.F H1) (pre : W.ρ <+: W1.ρ) {a : Addr} {o : SO} (e : H1 a = H a) (h : SoOk K W H a o) : SoOk K W1 H1 a o := by
  cases o with
  | lst ds => obtain ⟨vs, q, r⟩ := h; exact ⟨vs, e.trans q, k.relDs pre r⟩
  | ins C fs => obtain ⟨dx, vs, q, r⟩ := h; exact ⟨dx, vs, e.trans q, k.relKs pre r⟩
  | dt kvs => obtain ⟨vs, q, r⟩ := h; exact ⟨vs, e.trans q, k.relKs pre r⟩
  | exc C fs => obtain ⟨d, vs, q, x, r⟩ := h; exact ⟨d, vs, e.trans q, x.imp id fun ⟨dx, e1, e2⟩ => ⟨dx, e1, k.xd dx vs e2⟩, k.relKs pre r⟩
  | dk lk kvs =>
    obtain ⟨vs, q, r⟩ := h
    refine ⟨vs, ?_, k.relKs pre r⟩
    cases lk with
    | true => rw [if_pos rfl] at q ⊢; obtain ⟨o, q⟩ := q; exact ⟨o, e.trans q⟩
    | false => rw [if_neg (by decide)] at q ⊢; exact e.trans q
theorem Ext.relD (E : Ext W H W1 H1) (R : Rl K W st H) {d : D} {v : V} (h : RelD K W H d v) : RelD K W1 H1 d v := (E.kt R).relD E.pre h
theorem Ext.relDs (E : Ext W H W1 H1) (R : Rl K W st H) {ds : List D} {vs : List V} (h : RelDs K W H ds vs) : RelDs K W1 H1 ds vs := (E.kt R).relDs E.pre h
theorem relTs_len : ∀ {ts : List T} {vs : List V} {F : Addr → Prop}, RelTs K F H ts vs → vs.length = ts.length
  | [], vs, F, h => by cases h; rfl
  | t :: ts, vs, F, h => by
    obtain ⟨v, r, e, a, b⟩ := h
    subst e
    show r.length + 1 = ts.length + 1
    rw [relTs_len b]
theorem relDs_len : ∀ {ds : List D} {vs : List V}, RelDs K W H ds vs → vs.length = ds.length
  | [], vs, h => by cases h; rfl
  | d :: ds, vs, h => by
    obtain ⟨v, r, e, a, b⟩ := h
    subst e
    show r.length + 1 = ds.length + 1
    rw [relDs_len b]
theorem relTs_get : ∀ {ts : List T} {vs : List V} {F : Addr → Prop} {i : Nat} {t : T}, RelTs K F H ts vs → ts[i]? = some t → ∃ v, vs[i]? = some v ∧ RelT K F H t v
  | [], vs, F, i, t, h, e => by simp at e
  | x :: ts, vs, F, i, t, h, e => by
    obtain ⟨v, r, rfl, a, b⟩ := h
    cases i with
    | zero => cases e; exact ⟨v, rfl, a⟩
    | succ i => exact relTs_get (ts := ts) (vs := r) b (by simpa using e)
theorem relDs_get : ∀ {ds : List D} {vs : List V} {i : Nat} {d : D}, RelDs K W H ds vs → ds[i]? = some d → ∃ v, vs[i]? = some v ∧ RelD K W H d v
  | [], vs, i, t, h, e => by simp at e
  | x :: ts, vs, i, t, h, e => by
    obtain ⟨v, r, rfl, a, b⟩ := h
    cases i with
    | zero => cases e; exact ⟨v, rfl, a⟩
    | succ i => exact relDs_get (ds := ts) (vs := r) b (by simpa using e)
theorem relTs_append : ∀ {ts us : List T} {vs ws : List V} {F : Addr → Prop}, RelTs K F H ts vs → RelTs K F H us ws → RelTs K F H (ts ++ us) (vs ++ ws)
  | [], us, vs, ws, F, h, k => by cases h; exact k
  | t :: ts, us, vs, ws, F, h, k => by
    obtain ⟨v, r, rfl, a, b⟩ := h
    exact ⟨v, r ++ ws, rfl, a, relTs_append b k⟩
theorem relDs_append : ∀ {ts us : List D} {vs ws : List V}, RelDs K W H ts vs → RelDs K W H us ws → RelDs K W H (ts ++ us) (vs ++ ws)
  | [], us, vs, ws, h, k => by cases h; exact k
  | t :: ts, us, vs, ws, h, k => by
    obtain ⟨v, r, rfl, a, b⟩ := h
    exact ⟨v, r ++ ws, rfl, a, relDs_append b k⟩
theorem relTs_drop : ∀ {ts : List T} {vs : List V} {F : Addr → Prop} (n : Nat), RelTs K F H ts vs → RelTs K F H (ts.drop n) (vs.drop n)
  | ts, vs, F, 0, h => by rw [List.drop_zero, List.drop_zero]; exact h
  | [], vs, F, n + 1, h => by cases h; rfl
  | t :: ts, vs, F, n + 1, h => by
    obtain ⟨v, r, rfl, a, b⟩ := h
    exact relTs_drop n b
theorem relTs_take : ∀ {ts : List T} {vs : List V} {F : Addr → Prop} (n : Nat), RelTs K F H ts vs → RelTs K F H (ts.take n) (vs.take n)
  | ts, vs, F, 0, h => rfl
  | [], vs, F, n + 1, h => by cases h; rfl
  | t :: ts, vs, F, n + 1, h => by
    obtain ⟨v, r, rfl, a, b⟩ := h
    exact ⟨v, _, rfl, a, relTs_take n b⟩
theorem relDs_set : ∀ {ds : List D} {vs : List V} {d : D} {v : V} (n : Nat), RelDs K W H ds vs → RelD K W H d v → RelDs K W H (ds.set n d) (vs.set n v)
  | [], vs, d, v, n, h, k => by cases h; rfl
  | x :: ds, vs, d, v, 0, h, k => by
    obtain ⟨y, r, rfl, a, b⟩ := h
    exact ⟨v, r, rfl, k, b⟩
  | x :: ds, vs, d, v, n + 1, h, k => by
    obtain ⟨y, r, rfl, a, b⟩ := h
    exact ⟨y, _, rfl, a, relDs_set n b k⟩
theorem relDs_dropLast : ∀ {ds : List D} {vs : List V}, RelDs K W H ds vs → RelDs K W H ds.dropLast vs.dropLast
  | [], vs, h => by cases h; rfl
  | [x], vs, h => by
    obtain ⟨y, r, rfl, a, b⟩ := h
    cases b
    rfl
  | x :: y :: ds, vs, h => by
    obtain ⟨v, r, rfl, a, v2, r2, rfl, a2, b⟩ := h
    exact ⟨v, _, rfl, a, relDs_dropLast (ds := y :: ds) ⟨v2, r2, rfl, a2, b⟩⟩
theorem relDs_t : ∀ {ts : List T} {vs : List V}, RelTs K W.F H ts vs → RelDs K W H (ts.map .t) vs
  | [], vs, h => h
  | t :: ts, vs, h => by
    obtain ⟨v, r, e, a, b⟩ := h
    exact ⟨v, r, e, a, relDs_t b⟩
/-- all of them plain -/
def plains : List D → Option (List T)
  | [] => some []
  | .t x :: r => (plains r).map (x :: ·)
  | .r _ :: _ => none
  | .x .. :: _ => none
theorem plains_map : ∀ (ts : List T), plains (ts.map .t) = some ts
  | [] => rfl
  | t :: ts => by show (plains (ts.map .t)).map (t :: ·) = _; rw [plains_map ts]; rfl
theorem relTs_of : ∀ {ds : List D} {ts : List T} {vs : List V}, plains ds = some ts → RelDs K W H ds vs → RelTs K W.F H ts vs
  | [], ts, vs, e, h => by cases e; exact h
  | .t x :: ds, ts, vs, e, h => by
    obtain ⟨v, r, rfl, a, b⟩ := h
    have e : (plains ds).map (x :: ·) = some ts := e
    cases q : plains ds with
    | none => (rw [q] at e; cases e)
    | some us =>
      rw [q] at e
      cases e
      exact ⟨v, r, rfl, a, relTs_of q b⟩
  | .r n :: ds, ts, vs, e, h => by cases e
  | .x .. :: ds, ts, vs, e, h => by cases e

/-! ### the three ways the heap moves -/
/-- a new thing that is no changed object -/
theorem Rl.more (R : Rl K W st H) {p : Addr} {o : HO} (hp : H p = none) : Ext W H W (upd H p o) := 
  ⟨List.prefix_refl _, fun _ h => .inl h, fun _ h => h, fun _ h => .inl h, fun a u h _ => by rw [upd_ne (ne_of_none h hp)]; exact h, fun a u h => ⟨u, by rw [upd_ne (ne_of_none h hp)]; exact h⟩, fun a o kvs h => by rw [upd_ne (ne_of_none h hp)]; exact h⟩
theorem Rl.keep (R : Rl K W st H) (k : KeepT W.F H W1.F H1) (e : W1.ρ = W.ρ) (hk : ∀ a ∈ W.ρ, H1 a = H a) (hs : ∀ a ∈ W.ρ, ¬ W1.F a) (hf : ∀ a, W1.F a → ∃ o, H1 a = some o) : Rl K W1 st H1 := by
  have pre : W.ρ <+: W1.ρ := by rw [e]; exact List.prefix_refl _
  refine ⟨by rw [e]; exact R.len, by rw [e]; exact R.nd, fun n a o h1 h2 => ?_, fun a ha => by rw [e] at ha; exact hs a ha, hf⟩
  rw [e] at h1
  have ha : a ∈ W.ρ := List.mem_of_getElem? h1
  exact k.soOk pre (hk a ha) (R.live n a o h1 h2)
theorem Rl.mono (R : Rl K W st H) (E : Ext W H W1 H1) (e : W1.ρ = W.ρ) (hk : ∀ a ∈ W.ρ, H1 a = H a) (hs : ∀ a ∈ W.ρ, ¬ W1.F a) (hf : ∀ a, W1.F a → ∃ o, H1 a = some o) : Rl K W1 st H1 :=
  R.keep (E.kt R) e hk hs hf
theorem Rl.mem (R : Rl K W st H) {a : Addr} (ha : a ∈ W.ρ) : ∃ o, H a = some o := by
  obtain ⟨n, hn, e⟩ := List.getElem_of_mem ha
  have e1 : W.ρ[n]? = some a := by rw [List.getElem?_eq_getElem hn, e]
  have hn2 : n < st.length := by rw [← R.len]; exact hn
  obtain ⟨u, q, _⟩ := (R.live n a st[n] e1 (List.getElem?_eq_getElem hn2)).is
  exact ⟨u, q⟩
/-- a new tuple, or another new thing that nobody looks after -/
theorem Rl.rest (R : Rl K W st H) {p : Addr} {o : HO} (hp : H p = none) : Rl K W st (upd H p o) :=
  R.mono (R.more hp) rfl (fun a ha => by obtain ⟨u, e⟩ := R.mem ha; rw [upd_ne (ne_of_none e hp)]) R.sep fun a ha => by
    obtain ⟨xs, e⟩ := R.fz a ha
    exact ⟨xs, by rw [upd_ne (ne_of_none e hp)]; exact e⟩
/-- a new list that stays as it is -/
def Wd.fix (W : Wd) (p : Addr) : Wd := ⟨W.ρ, fun a => W.F a ∨ a = p⟩
theorem Ext.fix (W : Wd) {p : Addr} {o : HO} (hp : H p = none) : Ext W H (W.fix p) (upd H p o) :=
  ⟨List.prefix_refl _, fun _ h => .inl h, fun _ h => .inl h, fun a h => h.imp id fun e => by rw [e]; exact hp, fun a u h _ => by rw [upd_ne (ne_of_none h hp)]; exact h, fun a u h => ⟨u, by rw [upd_ne (ne_of_none h hp)]; exact h⟩, fun a o kvs h => by rw [upd_ne (ne_of_none h hp)]; exact h⟩
theorem Rl.fixO (R : Rl K W st H) {p : Addr} {o : HO} (hp : H p = none) : Rl K (W.fix p) st (upd H p o) :=
  R.mono (Ext.fix W hp) rfl (fun a ha => by obtain ⟨u, e⟩ := R.mem ha; rw [upd_ne (ne_of_none e hp)])
    (fun a ha h => h.elim (R.sep a ha) fun e => by obtain ⟨u, q⟩ := R.mem ha; rw [e, hp] at q; cases q)
    fun a ha => by
      by_cases e : a = p
      · subst e; exact ⟨o, upd_same⟩
      · obtain ⟨ys, q⟩ := R.fz a (ha.resolve_right e)
        exact ⟨ys, by rw [upd_ne e]; exact q⟩
theorem Rl.fix (R : Rl K W st H) {p : Addr} {xs : List V} (hp : H p = none) : Rl K (W.fix p) st (upd H p (.lst xs)) := R.fixO hp
/-- a new object that will be changed -/
def Wd.add (W : Wd) (p : Addr) : Wd := ⟨W.ρ ++ [p], W.F⟩
theorem Ext.add (W : Wd) {p : Addr} {o : HO} (hp : H p = none) : Ext W H (W.add p) (upd H p o) :=
  ⟨List.prefix_append _ _, fun a h => by
      (rcases List.mem_append.mp h with h | h)
      · exact .inl h
      · rw [List.mem_singleton] at h; subst h; exact .inr hp,
    fun _ h => h, fun _ h => .inl h, fun a u h _ => by rw [upd_ne (ne_of_none h hp)]; exact h, fun a u h => ⟨u, by rw [upd_ne (ne_of_none h hp)]; exact h⟩, fun a o kvs h => by rw [upd_ne (ne_of_none h hp)]; exact h⟩
theorem Rl.addO (R : Rl K W st H) {p : Addr} {so : SO} {ho : HO} (hp : H p = none) (hr : SoOk K (W.add p) (upd H p ho) p so) : Rl K (W.add p) (st ++ [so]) (upd H p ho) := by
  have E := Ext.add W (o := ho) hp
  have np : p ∉ W.ρ := fun h => by obtain ⟨u, q⟩ := R.mem h; rw [hp] at q; cases q
  refine ⟨?_, ?_, fun n a o h1 h2 => ?_, fun a ha h => ?_, fun a ha => ?_⟩
  · show (W.ρ ++ [p]).length = (st ++ [so]).length
    rw [List.length_append, List.length_append, R.len]; rfl
  · show (W.ρ ++ [p]).Nodup
    rw [List.nodup_append]
    exact ⟨R.nd, by simp, fun a ha b hb e => by rw [List.mem_singleton] at hb; subst hb; subst e; exact np ha⟩
  · have h1 : (W.ρ ++ [p])[n]? = some a := h1
    by_cases hn : n < W.ρ.length
    · rw [List.getElem?_append_left hn] at h1
      rw [List.getElem?_append_left (by rw [← R.len]; exact hn)] at h2
      have ha : a ∈ W.ρ := List.mem_of_getElem? h1
      have ne : a ≠ p := fun e => np (e ▸ ha)
      exact (E.kt R).soOk E.pre (upd_ne ne) (R.live n a o h1 h2)
    · rw [List.getElem?_append_right (by omega)] at h1
      rw [List.getElem?_append_right (by rw [← R.len]; omega)] at h2
      have hz : n - W.ρ.length = 0 := by
        cases e : n - W.ρ.length with
        | zero => rfl
        | succ k => rw [e] at h1; simp at h1
      rw [hz] at h1
      rw [← R.len, hz] at h2
      have e1 : p = a := by simpa using h1
      have e2 : so = o := by simpa using h2
      subst e1; subst e2
      exact hr
  · (rcases List.mem_append.mp ha with ha | ha)
    · exact R.sep a ha h
    · rw [List.mem_singleton] at ha
      subst ha
      obtain ⟨ys, q⟩ := R.fz a h
      rw [hp] at q; cases q
  · obtain ⟨ys, q⟩ := R.fz a ha
    exact ⟨ys, by rw [upd_ne (ne_of_none q hp)]; exact q⟩
theorem Rl.add (R : Rl K W st H) {p : Addr} {ds : List D} {xs : List V} (hp : H p = none) (hr : RelDs K W H ds xs) : Rl K (W.add p) (st ++ [.lst ds]) (upd H p (.lst xs)) :=
  R.addO hp ⟨xs, upd_same, (Ext.add W (o := .lst xs) hp).relDs R hr⟩
/-- the n-th object changes -/
theorem Ext.put {n : Nat} {p : Addr} {o u : HO} (hn : W.ρ[n]? = some p) (ho : H p = some u) (hu : ∀ b kvs, u ≠ .frz b (.dK kvs) := by intro _ _ z; cases z) : Ext W H W (upd H p o) :=
  ⟨List.prefix_refl _, fun _ h => .inl h, fun _ h => h, fun _ h => .inl h, fun a v h hm => by rw [upd_ne (fun e => hm (by rw [e]; exact List.mem_of_getElem? hn))]; exact h,
    fun a v h => by
      by_cases e : a = p
      · subst e; exact ⟨o, upd_same⟩
      · exact ⟨v, by rw [upd_ne e]; exact h⟩, fun a b kvs h => by rw [upd_ne (fun e => by rw [e, ho] at h; exact hu b kvs (Option.some.inj h))]; exact h⟩
theorem Rl.putO (R : Rl K W st H) {n : Nat} {p : Addr} {so : SO} {ho u : HO} (hn : W.ρ[n]? = some p) (hu : H p = some u) (hr : SoOk K W (upd H p ho) p so) (hl : ∀ b kvs, u ≠ .frz b (.dK kvs) := by intro _ _ z; cases z) : Rl K W (st.set n so) (upd H p ho) := by
  have E : Ext W H W (upd H p ho) := Ext.put hn hu hl
  refine ⟨by rw [List.length_set]; exact R.len, R.nd, fun m a o h1 h2 => ?_, R.sep, fun a ha => ?_⟩
  · by_cases e : m = n
    · subst e
      rw [hn] at h1; cases h1
      have hl : m < st.length := by rw [← R.len]; exact (List.getElem?_eq_some_iff.mp hn).1
      rw [List.getElem?_set_self hl] at h2; cases h2
      exact hr
    · rw [List.getElem?_set_ne (Ne.symm e)] at h2
      have ne : a ≠ p := fun z => by
        subst z
        obtain ⟨k1, e1⟩ := List.getElem?_eq_some_iff.mp h1
        obtain ⟨k2, e2⟩ := List.getElem?_eq_some_iff.mp hn
        exact e ((List.getElem_inj R.nd).mp (e1.trans e2.symm))
      exact (E.kt R).soOk E.pre (upd_ne ne) (R.live m a o h1 h2)
  · have ne : a ≠ p := fun z => by subst z; exact R.sep a (List.mem_of_getElem? hn) ha
    obtain ⟨ys, q⟩ := R.fz a ha
    exact ⟨ys, by rw [upd_ne ne]; exact q⟩
theorem Rl.put (R : Rl K W st H) {n : Nat} {p : Addr} {ds ds' : List D} {xs xs' : List V} (hn : W.ρ[n]? = some p) (ho : H p = some (.lst xs)) (hr : RelDs K W H ds' xs') : Rl K W (st.set n (.lst ds')) (upd H p (.lst xs')) :=
  R.putO hn ho ⟨xs', upd_same, (Ext.put (o := .lst xs') hn ho).relDs R hr⟩
end
end Mi
/-! Mir1 -/
namespace Mi
open L2 PySem PySem.Spec PyProof.Rows

/-! ### results -/
abbrev Env := List (Option D)
structure EnvR (K : PySem.W.Frag) (W : Wd) (H : Hp) (env : Env) (σ : L2.St) : Prop where
  len : σ.length = env.length
  get : ∀ (i : Nat) (d : D), env[i]? = some (some d) → ∃ v, σ[i]? = some (some v) ∧ RelD K W H d v
inductive Res (α : Type) where
  | ok (a : α) (st : Sto) | exc (C : Addr) (fs : List (Str × T)) (st : Sto) | bad
def Res.bind {α β : Type} (r : Res α) (k : α → Sto → Res β) : Res β := match r with
  | .ok a st => k a st
  | .exc C fs st => .exc C fs st
  | .bad => .bad
def Res.Holds {α : Type} (r : Res α) (A : α → Sto → Prop) (B : Addr → List (Str × T) → Sto → Prop) : Prop := match r with
  | .ok a st => A a st
  | .exc C fs st => B C fs st
  | .bad => False
theorem split {α β : Type} {r : Res α} {k : α → Sto → Res β} {A : β → Sto → Prop} {A' : α → Sto → Prop} {B B' : Addr → List (Str × T) → Sto → Prop} (h : (r.bind k).Holds A B)
    (ha : ∀ a st, (k a st).Holds A B → A' a st) (hb : ∀ C fs st, B C fs st → B' C fs st) : r.Holds A' B' := by
  cases r with
  | ok a st => exact ha a st h
  | exc C fs st => exact hb C fs st h
  | bad => exact h
theorem Res.Holds.imp {α : Type} {r : Res α} {A A' : α → Sto → Prop} {B B' : Addr → List (Str × T) → Sto → Prop} (h : r.Holds A B)
    (ha : ∀ a st, A a st → A' a st) (hb : ∀ C fs st, B C fs st → B' C fs st) : r.Holds A' B' := by
  cases r with
  | ok a st => exact ha a st h
  | exc C fs st => exact hb C fs st h
  | bad => exact h
def optR {α : Type} (o : Option α) (st : Sto) : Res α := match o with
  | some a => .ok a st
  | none => .bad
def OkD (K : PySem.W.Frag) (W : Wd) (H : Hp) (Q : VK) (d : D) (st' : Sto) : Prop := ∀ W' H' v, Ext W H W' H' → Rl K W' st' H' → RelD K W' H' d v → Q v H'
def OkB (K : PySem.W.Frag) (W : Wd) (H : Hp) (Q : Bool → Hp → Prop) (b : Bool) (st' : Sto) : Prop := ∀ W' H', Ext W H W' H' → Rl K W' st' H' → Q b H'
def OkA (K : PySem.W.Frag) (W : Wd) (H : Hp) (Q : List V → Hp → Prop) (ds : List D) (st' : Sto) : Prop := ∀ W' H' vs, Ext W H W' H' → Rl K W' st' H' → RelDs K W' H' ds vs → Q vs H'
def OkX (K : PySem.W.Frag) (W : Wd) (H : Hp) (E : XK) (C : Addr) (fs : List (Str × T)) (st' : Sto) : Prop := ∀ W' H' o, Ext W H W' H' → Rl K W' st' H' → ExD K W' H' fs o → E (.ref C) o H'
section
variable {K : PySem.W.Frag} {W W1 : Wd} {H H1 : Hp} {st : Sto}
theorem OkX.mono {E : XK} {C : Addr} {fs : List (Str × T)} {st' : Sto} (h : OkX K W H E C fs st') (e : Ext W H W1 H1) : OkX K W1 H1 E C fs st' := fun W' H' o E' R' x => h W' H' o (e.trans E') R' x
theorem OkD.mono {Q : VK} {d : D} {st' : Sto} (h : OkD K W H Q d st') (e : Ext W H W1 H1) : OkD K W1 H1 Q d st' := fun W' H' o E' R' x => h W' H' o (e.trans E') R' x
theorem OkB.mono {Q : Bool → Hp → Prop} {b : Bool} {st' : Sto} (h : OkB K W H Q b st') (e : Ext W H W1 H1) : OkB K W1 H1 Q b st' := fun W' H' E' R' => h W' H' (e.trans E') R'
theorem OkA.mono {Q : List V → Hp → Prop} {b : List D} {st' : Sto} (h : OkA K W H Q b st') (e : Ext W H W1 H1) : OkA K W1 H1 Q b st' := fun W' H' vs E' R' x => h W' H' vs (e.trans E') R' x
theorem EnvR.mono {env : Env} {σ : L2.St} (h : EnvR K W H env σ) (e : Ext W H W1 H1) (R : Rl K W st H) : EnvR K W1 H1 env σ := ⟨h.len, fun i d q => by
  obtain ⟨v, e1, r⟩ := h.get i d q
  exact ⟨v, e1, e.relD R r⟩⟩
theorem EnvR.set {env : Env} {σ : L2.St} (h : EnvR K W H env σ) (i : Nat) {d : D} {v : V} (r : RelD K W H d v) : EnvR K W H (env.set i (some d)) (σ.set i (some v)) := by
  refine ⟨by rw [List.length_set, List.length_set]; exact h.len, fun j e q => ?_⟩
  by_cases hj : i = j
  · subst hj
    have hl : i < env.length := by
      have := (List.getElem?_eq_some_iff.mp q).1
      rwa [List.length_set] at this
    rw [List.getElem?_set_self hl] at q
    cases q
    exact ⟨v, List.getElem?_set_self (by rw [h.len]; exact hl), r⟩
  · rw [List.getElem?_set_ne hj] at q
    obtain ⟨u, e1, r1⟩ := h.get j e q
    exact ⟨u, by rw [List.getElem?_set_ne hj]; exact e1, r1⟩
end

/-! ### the judgements: a piece of code does what the function says -/
def tE (K : PySem.W.Frag) (Wx : WX) (f : Env → Sto → Res D) : TE := fun σ H Q => ∃ W env st, Rl K W st H ∧ EnvR K W H env σ ∧ (f env st).Holds (OkD K W H Q) (OkX K W H fun c o H' => Wx c o σ H')
def tT (K : PySem.W.Frag) (Wx : WX) (f : Env → Sto → Res Bool) : TT := fun σ H Q => ∃ W env st, Rl K W st H ∧ EnvR K W H env σ ∧ (f env st).Holds (OkB K W H Q) (OkX K W H fun c o H' => Wx c o σ H')
def tA (K : PySem.W.Frag) (Wx : WX) (f : Env → Sto → Res (List D)) : TA := fun σ H Q => ∃ W env st, Rl K W st H ∧ EnvR K W H env σ ∧ (f env st).Holds (OkA K W H Q) (OkX K W H fun c o H' => Wx c o σ H')
abbrev RE (X : Cx) (Wx : WX) (e : Expr) (f : Env → Sto → Res D) : Prop := PE X e (tE X.K Wx f)
abbrev RT (X : Cx) (Wx : WX) (e : Expr) (f : Env → Sto → Res Bool) : Prop := PT X e (tT X.K Wx f)
abbrev RWt (X : Cx) (Wx : WX) (e : Expr) (f : Env → Sto → Res Bool) : Prop := PW X e (tT X.K Wx f)
abbrev RA (X : Cx) (Wx : WX) (es : List Expr) (f : Env → Sto → Res (List D)) : Prop := PA X es (tA X.K Wx f)

section
variable {X : Cx} {Wx : WX} {a b c e : Expr} {fa fb fc f : Env → Sto → Res D} {pos : Pos}
theorem PE.conv {e : Expr} {t t' : TE} (h : PE X e t) (g : ∀ σ H Q, t' σ H Q → t σ H Q) : PE X e t' := ⟨fun pins s σ H Q I q => h.run pins s σ H Q I (g σ H Q q)⟩
theorem PT.conv {e : Expr} {t t' : TT} (h : PT X e t) (g : ∀ σ H Q, t' σ H Q → t σ H Q) : PT X e t' := ⟨fun pins s σ H Q I q => h.run pins s σ H Q I (g σ H Q q)⟩
theorem PW.conv {e : Expr} {t t' : TT} (h : PW X e t) (g : ∀ σ H Q, t' σ H Q → t σ H Q) : PW X e t' := ⟨fun wh pins s σ H Q I q => h.run wh pins s σ H Q I (g σ H Q q)⟩
theorem PA.conv {e : List Expr} {t t' : TA} (h : PA X e t) (g : ∀ σ H Q, t' σ H Q → t σ H Q) : PA X e t' := ⟨fun pos pins s σ H Q I q => h.run pos pins s σ H Q I (g σ H Q q)⟩

/-! ### names, constants -/
def eVar (i : Nat) (env : Env) (st : Sto) : Res D := match env[i]? with
  | some (some d) => .ok d st
  | _ => .bad
def eC (t : T) (_ : Env) (st : Sto) : Res D := .ok (.t t) st
theorem re_var (i : Nat) {x : Str} {pos : Pos} (hN : X.N[i]? = some x := by rfl) (hv : Vis X.env.scope x := by first | exact Or.inl rfl | exact Or.inr (Or.inl rfl) | exact Or.inr (Or.inr rfl)) (hd : (x == ("__debug__" : Str)) = false := by decide)
    (hcd : (x == ("__classdict__" : Str)) = false := by decide) : RE X Wx (.Name x pos) (eVar i) := by
  refine PE.conv (pe_var hN hv hd hcd) fun σ H Q ⟨W, env, st, R, Ev, h⟩ => ?_
  unfold eVar at h
  split at h
  · rename_i d q
    obtain ⟨v, e1, r⟩ := Ev.get i d q
    exact ⟨v, e1, h W H v .refl R r⟩
  · exact h.elim
theorem re_const {v : V} {t : T} (h : PE X e (tC v)) (r : ∀ F H, RelT X.K F H t v) : RE X Wx e (eC t) := by
  refine PE.conv h fun σ H Q ⟨W, env, st, R, Ev, h⟩ => ?_
  exact h W H v .refl R (r _ _)
theorem re_int {i j pos} : RE X Wx (.Constant (.int i) j pos) (eC (.int i)) := re_const pe_int fun _ _ => rfl
theorem re_bl {b j pos} : RE X Wx (.Constant (.bool b) j pos) (eC (.bl b)) := re_const pe_bl fun _ _ => rfl
theorem re_non {j pos} : RE X Wx (.Constant .none j pos) (eC .non) := re_const pe_non fun _ _ => rfl
theorem re_str {x j pos} : RE X Wx (.Constant (.str x) j pos) (eC (.str x)) := re_const pe_str fun _ _ => rfl
/-- a constant of the module -/
theorem re_glob {x : Str} {v : V} {u : Value} {t : T} {pos : Pos} (hg : Gl X x) (hm : X.mg x = some u) (r : RelV v u) (q : ∀ F H, RelT X.K F H t v) (hd : (x == ("__debug__" : Str)) = false := by decide) : RE X Wx (.Name x pos) (eC t) :=
  re_const (pe_glob hg hm r hd) q
theorem re_bltn {x : Str} {n : String} {pos : Pos} (hg : Gl X x) (hm : X.mg x = none) (hv : bootBuiltins x = some (.type n)) (hn : x ≠ "__name__" := by decide) (hd : (x == ("__debug__" : Str)) = false := by decide) : RE X Wx (.Name x pos) (eC (.ty n)) :=
  re_const (pe_bltn (v := .ty n) hg hm hv rfl hn hd) fun _ _ => rfl

/-! ### operators by values -/
def rM (K : PySem.W.Frag) (g : D → D → Sto → Option D) : R2 := fun x y H Q => ∃ W st d e, Rl K W st H ∧ RelD K W H d x ∧ RelD K W H e y ∧ ∃ z, g d e st = some z ∧ OkD K W H Q z st
def bin (g : D → D → Sto → Option D) (fa fb : Env → Sto → Res D) (env : Env) (st : Sto) : Res D := (fa env st).bind fun x st1 => (fb env st1).bind fun y st2 => optR (g x y st2) st2
theorem optR_holds {α : Type} {o : Option α} {st : Sto} {A : α → Sto → Prop} {B : Addr → List (Str × T) → Sto → Prop} (h : (optR o st).Holds A B) : ∃ z, o = some z ∧ A z st := by
  cases o with
  | none => exact h.elim
  | some z => exact ⟨z, rfl, h⟩
theorem two {K : PySem.W.Frag} {g : D → D → Sto → Option D} {σ : L2.St} {H : Hp} {Q : VK} (h : tE K Wx (bin g fa fb) σ H Q) : tOp (rM K g) (tE K Wx fa) (tE K Wx fb) σ H Q := by
  obtain ⟨W, env, st, R, Ev, h⟩ := h
  refine ⟨W, env, st, R, Ev, split h (fun d1 st1 h1 W1 H1 v E1 R1 r1 => ⟨W1, env, st1, R1, Ev.mono E1 R, split h1 (fun d2 st2 h2 W2 H2 w E2 R2 r2 => ?_) fun C fs st' hx => hx.mono E1⟩) fun C fs st' hx => hx⟩
  obtain ⟨z, e1, q⟩ := optR_holds h2
  exact ⟨W2, st2, d1, d2, R2, E2.relD R1 r1, r2, z, e1, q.mono (E1.trans E2)⟩
theorem re_op {op : Operator} {g : D → D → Sto → Option D} (ho : OpR X (binaryOp op) (rM X.K g)) (ha : RE X Wx a fa) (hb : RE X Wx b fb) : RE X Wx (.BinOp a op b pos) (bin g fa fb) :=
  PE.conv (pe_op ho ha hb) fun _ _ _ h => two h
theorem re_cmp {op : CmpOp} {g : D → D → Sto → Option D} (ho : OpR X (compareOp op) (rM X.K g)) (ha : RE X Wx a fa) (hb : RE X Wx b fb) (hm : behindInMarks op b = false) : RE X Wx (.Compare a [op] [b] pos) (bin g fa fb) :=
  PE.conv (pe_cmpR ho ha hb hm) fun _ _ _ h => two h
/-- what is a truth value -/
def blOf (r : Res D) : Res Bool := r.bind fun d st => match d with
  | .t (.bl b) => .ok b st
  | _ => .bad
theorem rt_cmp {op : CmpOp} {g : D → D → Sto → Option D} (ho : OpR X (compareOp op) (rM X.K g)) (ha : RE X Wx a fa) (hb : RE X Wx b fb) (hm : behindInMarks op b = false) : RT X Wx (.Compare a [op] [b] pos) (fun env st => blOf (bin g fa fb env st)) := by
  refine PT.conv (pt_cmpR ho ha hb hm) fun σ H Q ⟨W, env, st, R, Ev, h⟩ => two ⟨W, env, st, R, Ev, split h (fun d st1 h1 W1 H1 v E1 R1 r1 => ?_) fun C fs st' hx => hx⟩
  split at h1
  · rename_i b
    have r1 : v = .bl b := r1
    exact ⟨b, r1, h1 W1 H1 E1 R1⟩
  · exact h1.elim
/-- a < b < c -/
def chain (g g' : D → D → Sto → Option D) (fa fb fc : Env → Sto → Res D) (env : Env) (st : Sto) : Res D := (fa env st).bind fun x st1 => (fb env st1).bind fun y st2 => (blOf (optR (g x y st2) st2)).bind fun k st3 =>
  if k = true then (fc env st3).bind fun z st4 => optR (g' y z st4) st4 else .ok (.t (.bl false)) st3
theorem three {K : PySem.W.Frag} {g g' : D → D → Sto → Option D} {σ : L2.St} {H : Hp} {Q : VK} (h : tE K Wx (chain g g' fa fb fc) σ H Q) : tChain (rM K g) (rM K g') (tE K Wx fa) (tE K Wx fb) (tE K Wx fc) σ H Q := by
  obtain ⟨W, env, st, R, Ev, h⟩ := h
  refine ⟨W, env, st, R, Ev, split h (fun d1 st1 h1 W1 H1 v E1 R1 r1 => ⟨W1, env, st1, R1, Ev.mono E1 R, split h1 (fun d2 st2 h2 W2 H2 w E2 R2 r2 => ?_) fun C fs st' hx => hx.mono E1⟩) fun C fs st' hx => hx⟩
  cases e1 : g d1 d2 st2 with
  | none => rw [e1] at h2; exact h2.elim
  | some z =>
    rw [e1] at h2
    cases z with
    | r n => exact h2.elim
    | x => exact h2.elim
    | t x =>
      cases x with
      | bl k =>
        refine ⟨W2, st2, d1, d2, R2, E2.relD R1 r1, r2, _, e1, fun W3 H3 u E3 R3 r3 => ⟨k, r3, ?_⟩⟩
        cases k with
        | false => exact ite_ff (h2 W3 H3 _ (E1.trans (E2.trans E3)) R3 rfl)
        | true =>
          refine ite_tt ⟨W3, env, st2, R3, (Ev.mono E1 R).mono (E2.trans E3) R1, split h2 (fun d4 st4 h4 W4 H4 w4 E4 R4 r4 => ?_) fun C fs st' hx => hx.mono (E1.trans (E2.trans E3))⟩
          obtain ⟨z, e4, q⟩ := optR_holds h4
          exact ⟨W4, st4, d2, d4, R4, (E3.trans E4).relD R2 r2, r4, z, e4, q.mono (E1.trans (E2.trans (E3.trans E4)))⟩
      | _ => exact h2.elim
theorem re_chain {op op' : CmpOp} {g g' : D → D → Sto → Option D} (ho : OpR X (compareOp op) (rM X.K g)) (ho' : OpR X (compareOp op') (rM X.K g')) (ha : RE X Wx a fa) (hb : RE X Wx b fb) (hc : RE X Wx c fc)
    (hm : lastMarks [op, op'] [b, c] = false := by with_unfolding_all rfl) : RE X Wx (.Compare a [op, op'] [b, c] pos) (chain g g' fa fb fc) := PE.conv (pe_chain ho ho' ha hb hc hm) fun _ _ _ h => three h
theorem rt_chain {op op' : CmpOp} {g g' : D → D → Sto → Option D} (ho : OpR X (compareOp op) (rM X.K g)) (ho' : OpR X (compareOp op') (rM X.K g')) (ha : RE X Wx a fa) (hb : RE X Wx b fb) (hc : RE X Wx c fc)
    (hm : lastMarks [op, op'] [b, c] = false := by with_unfolding_all rfl) : RT X Wx (.Compare a [op, op'] [b, c] pos) (fun env st => blOf (chain g g' fa fb fc env st)) := by
  refine PT.conv (pt_chain ho ho' ha hb hc hm) fun σ H Q ⟨W, env, st, R, Ev, h⟩ => three ⟨W, env, st, R, Ev, split h (fun d st1 h1 W1 H1 v E1 R1 r1 => ?_) fun C fs st' hx => hx⟩
  split at h1
  · rename_i b
    have r1 : v = .bl b := r1
    exact ⟨b, r1, h1 W1 H1 E1 R1⟩
  · exact h1.elim
def un (g : D → Sto → Option D) (fa : Env → Sto → Res D) (env : Env) (st : Sto) : Res D := (fa env st).bind fun x st1 => optR (g x st1) st1
def rMu (K : PySem.W.Frag) (g : D → Sto → Option D) : V → Hp → VK → Prop := fun x H Q => ∃ W st d, Rl K W st H ∧ RelD K W H d x ∧ ∃ z, g d st = some z ∧ OkD K W H Q z st
theorem re_un {op : UnaryOp} {g : D → Sto → Option D} (ho : UnR X (unaryOp op) (rMu X.K g)) (ha : RE X Wx a fa) : RE X Wx (.UnaryOp op a pos) (un g fa) := by
  refine PE.conv (pe_un ho ha) fun σ H Q ⟨W, env, st, R, Ev, h⟩ => ⟨W, env, st, R, Ev, split h (fun d st1 h1 W1 H1 v E1 R1 r1 => ?_) fun C fs st' hx => hx⟩
  obtain ⟨z, e1, q⟩ := optR_holds h1
  exact ⟨W1, st1, d, R1, r1, z, e1, q.mono E1⟩

/-! ### truth -/
/-- the items of a sequence -/
def items (st : Sto) : D → Option (List D)
  | .t (.tup ts) => some (ts.map .t)
  | .t (.lst ts) => some (ts.map .t)
  | .t (.scr ts) => some (ts.map .t)
  | .t _ => none
  | .x .. => none
  | .r n => match st[n]? with
    | some (.lst ds) => some ds
    | _ => none
theorem items_len {st : Sto} {d : D} {ds : List D} (h : items st d = some ds) : True := trivial
/-- what the items say of the heap -/
theorem items_seq {K : PySem.W.Frag} {W : Wd} {H : Hp} {st : Sto} (R : Rl K W st H) {d : D} {ds : List D} {v : V} (h : items st d = some ds) (r : RelD K W H d v) : ∃ a vs, v = .ref a ∧ (SqL K H a vs ∨ SqT K H a vs) ∧ RelDs K W H ds vs := by
  cases d with
  | t x =>
    cases x with
    | tup ts =>
      cases h
      obtain ⟨a, vs, e, q, r⟩ := r
      exact ⟨a, vs, e, .inr q.sq, relDs_t r⟩
    | lst ts =>
      cases h
      obtain ⟨a, vs, e, f, q, r⟩ := r
      exact ⟨a, vs, e, .inl (SqL.of q), relDs_t r⟩
    | scr ts =>
      cases h
      obtain ⟨a, vs, e, q, r⟩ := r
      exact ⟨a, vs, e, .inl q.sq, relDs_t r⟩
    | _ => cases h
  | x => cases h
  | r n =>
    obtain ⟨a, e, rfl⟩ := r
    have h : (match st[n]? with | some (.lst ds) => some ds | _ => none) = some ds := h
    split at h
    · rename_i ds' q
      cases h
      obtain ⟨vs, q1, q2⟩ := R.live n a _ e q
      exact ⟨a, vs, rfl, .inl (SqL.of q1), q2⟩
    · cases h
def LIM : Nat := 1000000
theorem lim_size {n : Nat} (h : n ≤ LIM) : n ≤ sizeLine := by rw [sizeLine_eq]; unfold LIM at h; omega
theorem lim_lt {n : Nat} (h : n ≤ LIM) : n < sizeLine := by rw [sizeLine_eq]; unfold LIM at h; omega
def tru (st : Sto) (d : D) : Option Bool := match d with
  | .t .non => some false
  | .t (.bl b) => some b
  | .t (.int i) => some (i != 0)
  | .t (.str x) => if x.length ≤ LIM then some ((x.length : Int) != 0) else none
  | d => (items st d).map fun ds => !ds.isEmpty
theorem isEmpty_rel {K : PySem.W.Frag} {W : Wd} {H : Hp} {ds : List D} {vs : List V} (r : RelDs K W H ds vs) : (!ds.isEmpty) = !vs.isEmpty := by
  have e := relDs_len r
  cases ds <;> cases vs <;> simp at e ⊢
theorem tru_rel {K : PySem.W.Frag} {W : Wd} {H : Hp} {st : Sto} (R : Rl K W st H) {d : D} {v : V} {k : Bool} (h : tru st d = some k) (r : RelD K W H d v) : TruV K v H k := by
  have seq : ∀ d, (items st d).map (fun ds => !ds.isEmpty) = some k → RelD K W H d v → TruV K v H k := fun d h r => by
    cases q : items st d with
    | none => rw [q] at h; cases h
    | some ds =>
      rw [q] at h
      obtain ⟨a, vs, e, s, rr⟩ := items_seq R q r
      subst e
      have h : (!ds.isEmpty) = k := Option.some.inj h
      rcases s with s | s
      · exact .inl ⟨vs, s, by rw [← h]; exact isEmpty_rel rr⟩
      · exact .inr (.inl ⟨vs, s, by rw [← h]; exact isEmpty_rel rr⟩)
  cases d with
  | r n => exact seq _ h r
  | x => cases h
  | t x =>
    cases x with
    | non => cases r; exact (Option.some.inj h).symm
    | bl b => cases r; exact (Option.some.inj h).symm
    | int i => cases r; exact (Option.some.inj h).symm
    | str x =>
      cases r
      have h : (if x.length ≤ LIM then some ((x.length : Int) != 0) else none) = some k := h
      split at h
      · rename_i hl; exact ⟨lim_size hl, (Option.some.inj h).symm⟩
      · cases h
    | tup ts => exact seq (.t (.tup ts)) h r
    | lst ts => exact seq (.t (.lst ts)) h r
    | scr ts => exact seq (.t (.scr ts)) h r
    | _ => cases h
def truM (f : Env → Sto → Res D) (env : Env) (st : Sto) : Res Bool := (f env st).bind fun d st1 => optR (tru st1 d) st1
theorem rt_val (h : RE X Wx e f) (he : ∀ whole, isTrue e X.env whole = (do let v ← whole; standAt e.pos; holding [v] (truthy v)) := by intro _; rfl) : RT X Wx e (truM f) := by
  refine PT.conv (pt_truth h he) fun σ H Q ⟨W, env, st, R, Ev, h⟩ => ⟨W, env, st, R, Ev, split h (fun d st1 h1 W1 H1 v E1 R1 r1 => ?_) fun C fs st' hx => hx⟩
  obtain ⟨k, e1, q⟩ := optR_holds h1
  exact ⟨k, tru_rel R1 e1 r1, q W1 H1 E1 R1⟩

/-! ### and, or, not -/
section
variable {ga gb : Env → Sto → Res Bool} {rest : List Expr}
def andM (ga gb : Env → Sto → Res Bool) (env : Env) (st : Sto) : Res Bool := (ga env st).bind fun k st1 => if k = true then gb env st1 else .ok false st1
def orM (ga gb : Env → Sto → Res Bool) (env : Env) (st : Sto) : Res Bool := (ga env st).bind fun k st1 => if k = true then .ok true st1 else gb env st1
def notM (ga : Env → Sto → Res Bool) (env : Env) (st : Sto) : Res Bool := (ga env st).bind fun k st1 => .ok (!k) st1
theorem rw_and1 (ha : RT X Wx a ga) : RWt X Wx (.BoolOp .And [a] pos) ga := pw_and1 ha
theorem rw_or1 (ha : RT X Wx a ga) : RWt X Wx (.BoolOp .Or [a] pos) ga := pw_or1 ha
theorem rw_and (ha : RT X Wx a ga) (hb : RWt X Wx (.BoolOp .And (b :: rest) pos) gb) : RWt X Wx (.BoolOp .And (a :: b :: rest) pos) (andM ga gb) := by
  refine PW.conv (pw_and ha hb) fun σ H Q ⟨W, env, st, R, Ev, h⟩ => ⟨W, env, st, R, Ev, split h (fun k st1 h1 W1 H1 E1 R1 => ?_) fun C fs st' hx => hx⟩
  cases k with
  | true => exact ite_tt ⟨W1, env, st1, R1, Ev.mono E1 R, Res.Holds.imp h1 (fun _ _ q => q.mono E1) fun _ _ _ q => q.mono E1⟩
  | false => exact ite_ff (h1 W1 H1 E1 R1)
theorem rw_or (ha : RT X Wx a ga) (hb : RWt X Wx (.BoolOp .Or (b :: rest) pos) gb) : RWt X Wx (.BoolOp .Or (a :: b :: rest) pos) (orM ga gb) := by
  refine PW.conv (pw_or ha hb) fun σ H Q ⟨W, env, st, R, Ev, h⟩ => ⟨W, env, st, R, Ev, split h (fun k st1 h1 W1 H1 E1 R1 => ?_) fun C fs st' hx => hx⟩
  cases k with
  | false => exact ite_ff ⟨W1, env, st1, R1, Ev.mono E1 R, Res.Holds.imp h1 (fun _ _ q => q.mono E1) fun _ _ _ q => q.mono E1⟩
  | true => exact ite_tt (h1 W1 H1 E1 R1)
theorem rt_not (ha : RT X Wx a ga) : RT X Wx (.UnaryOp .Not a pos) (notM ga) := by
  refine PT.conv (pt_not ha) fun σ H Q ⟨W, env, st, R, Ev, h⟩ => ⟨W, env, st, R, Ev, split h (fun k st1 h1 W1 H1 E1 R1 => ?_) fun C fs st' hx => hx⟩
  exact h1 W1 H1 E1 R1
/-- as values -/
def andV (fa fb : Env → Sto → Res D) (env : Env) (st : Sto) : Res D := (fa env st).bind fun d st1 => (optR (tru st1 d) st1).bind fun k st2 => if k = true then fb env st2 else .ok d st2
def orV (fa fb : Env → Sto → Res D) (env : Env) (st : Sto) : Res D := (fa env st).bind fun d st1 => (optR (tru st1 d) st1).bind fun k st2 => if k = true then .ok d st2 else fb env st2
def notV (fa : Env → Sto → Res D) (env : Env) (st : Sto) : Res D := (fa env st).bind fun d st1 => (optR (tru st1 d) st1).bind fun k st2 => .ok (.t (.bl (!k))) st2
theorem re_one {op} (ha : RE X Wx a fa) : RE X Wx (.BoolOp op [a] pos) fa := pe_one ha
theorem re_and (ha : RE X Wx a fa) (hb : RE X Wx (.BoolOp .And (b :: rest) pos) fb) : RE X Wx (.BoolOp .And (a :: b :: rest) pos) (andV fa fb) := by
  refine PE.conv (pe_andT ha hb) fun σ H Q ⟨W, env, st, R, Ev, h⟩ => ⟨W, env, st, R, Ev, split h (fun d st1 h1 W1 H1 v E1 R1 r1 => ?_) fun C fs st' hx => hx⟩
  obtain ⟨k, e1, q⟩ := optR_holds (split (r := optR (tru st1 d) st1) h1 (A' := fun k s => (if k = true then fb env s else Res.ok d s).Holds _ _) (B' := fun _ _ _ => True) (fun _ _ q => q) fun _ _ _ _ => trivial)
  refine ⟨k, tru_rel R1 e1 r1, ?_⟩
  cases k with
  | true => exact ite_tt ⟨W1, env, st1, R1, Ev.mono E1 R, Res.Holds.imp q (fun _ _ q => q.mono E1) fun _ _ _ q => q.mono E1⟩
  | false => exact ite_ff (q W1 H1 v E1 R1 r1)
theorem re_or (ha : RE X Wx a fa) (hb : RE X Wx (.BoolOp .Or (b :: rest) pos) fb) : RE X Wx (.BoolOp .Or (a :: b :: rest) pos) (orV fa fb) := by
  refine PE.conv (pe_orT ha hb) fun σ H Q ⟨W, env, st, R, Ev, h⟩ => ⟨W, env, st, R, Ev, split h (fun d st1 h1 W1 H1 v E1 R1 r1 => ?_) fun C fs st' hx => hx⟩
  obtain ⟨k, e1, q⟩ := optR_holds (split (r := optR (tru st1 d) st1) h1 (A' := fun k s => (if k = true then Res.ok d s else fb env s).Holds _ _) (B' := fun _ _ _ => True) (fun _ _ q => q) fun _ _ _ _ => trivial)
  refine ⟨k, tru_rel R1 e1 r1, ?_⟩
  cases k with
  | false => exact ite_ff ⟨W1, env, st1, R1, Ev.mono E1 R, Res.Holds.imp q (fun _ _ q => q.mono E1) fun _ _ _ q => q.mono E1⟩
  | true => exact ite_tt (q W1 H1 v E1 R1 r1)
theorem re_not (ha : RE X Wx a fa) : RE X Wx (.UnaryOp .Not a pos) (notV fa) := by
  refine PE.conv (pe_notT ha) fun σ H Q ⟨W, env, st, R, Ev, h⟩ => ⟨W, env, st, R, Ev, split h (fun d st1 h1 W1 H1 v E1 R1 r1 => ?_) fun C fs st' hx => hx⟩
  obtain ⟨k, e1, q⟩ := optR_holds (split (r := optR (tru st1 d) st1) h1 (A' := fun k s => (Res.ok (D.t (.bl (!k))) s).Holds _ _) (B' := fun _ _ _ => True) (fun _ _ q => q) fun _ _ _ _ => trivial)
  exact ⟨k, tru_rel R1 e1 r1, q W1 H1 _ E1 R1 rfl⟩
def ifE (g : Env → Sto → Res Bool) (fa fb : Env → Sto → Res D) (env : Env) (st : Sto) : Res D := (g env st).bind fun k st1 => if k = true then fa env st1 else fb env st1
theorem re_if (hc : RT X Wx c ga) (ha : RE X Wx a fa) (hb : RE X Wx b fb) : RE X Wx (.IfExp c a b pos) (ifE ga fa fb) := by
  refine PE.conv (pe_ifExp hc ha hb) fun σ H Q ⟨W, env, st, R, Ev, h⟩ => ⟨W, env, st, R, Ev, split h (fun k st1 h1 W1 H1 E1 R1 => ?_) fun C fs st' hx => hx⟩
  cases k with
  | true => exact ite_tt ⟨W1, env, st1, R1, Ev.mono E1 R, Res.Holds.imp h1 (fun _ _ q => q.mono E1) fun _ _ _ q => q.mono E1⟩
  | false => exact ite_ff ⟨W1, env, st1, R1, Ev.mono E1 R, Res.Holds.imp h1 (fun _ _ q => q.mono E1) fun _ _ _ q => q.mono E1⟩
end

/-! ### argument lists, displays -/
def argsM : List (Env → Sto → Res D) → Env → Sto → Res (List D)
  | [], _, st => .ok [] st
  | f :: fs, env, st => (f env st).bind fun d st1 => (argsM fs env st1).bind fun ds st2 => .ok (d :: ds) st2
theorem ra_nil : RA X Wx [] (argsM []) := PA.conv pa_nil fun σ H Q ⟨W, env, st, R, Ev, h⟩ => h W H [] .refl R rfl
theorem ra_cons {es : List Expr} {fs : List (Env → Sto → Res D)} (ha : RE X Wx e f) (hr : RA X Wx es (argsM fs)) (hs : starEach (e :: es) X.env = (false, eval e X.env) :: starEach es X.env := by rfl) : RA X Wx (e :: es) (argsM (f :: fs)) := by
  refine PA.conv (pa_cons ha hr hs) fun σ H Q ⟨W, env, st, R, Ev, h⟩ => ⟨W, env, st, R, Ev, split h (fun d st1 h1 W1 H1 v E1 R1 r1 => ?_) fun C fs st' hx => hx⟩
  refine ⟨W1, env, st1, R1, Ev.mono E1 R, split h1 (fun ds st2 h2 W2 H2 vs E2 R2 r2 => ?_) fun C fs st' hx => hx.mono E1⟩
  exact h2 W2 H2 (v :: vs) (E1.trans E2) R2 ⟨v, vs, rfl, E2.relD R1 r1, r2⟩
theorem argsM_len {env : Env} : ∀ {fs : List (Env → Sto → Res D)} {st st' : Sto} {ds : List D}, argsM fs env st = .ok ds st' → ds.length = fs.length
  | [], st, st', ds, h => by cases h; rfl
  | f :: fs, st, st', ds, h => by
    unfold argsM at h
    cases e1 : f env st with
    | ok d st1 =>
      rw [e1] at h
      have h : (argsM fs env st1).bind (fun ds st2 => Res.ok (d :: ds) st2) = .ok ds st' := h
      cases e2 : argsM fs env st1 with
      | ok ds2 st2 =>
        rw [e2] at h
        cases h
        show ds2.length + 1 = fs.length + 1
        rw [argsM_len e2]
      | exc C x s => rw [e2] at h; cases h
      | bad => rw [e2] at h; cases h
    | exc C x s => rw [e1] at h; cases h
    | bad => rw [e1] at h; cases h
def tupM (fs : List (Env → Sto → Res D)) (env : Env) (st : Sto) : Res D := (argsM fs env st).bind fun ds st1 => optR ((plains ds).map fun ts => .t (.tup ts)) st1
def lstM (fs : List (Env → Sto → Res D)) (env : Env) (st : Sto) : Res D := (argsM fs env st).bind fun ds st1 => optR ((plains ds).map fun ts => .t (.lst ts)) st1
/-- a list that will be changed -/
def newM (fs : List (Env → Sto → Res D)) (env : Env) (st : Sto) : Res D := (argsM fs env st).bind fun ds st1 => .ok (.r st1.length) (st1 ++ [.lst ds])
theorem splitA {α β : Type} {r : Res α} {k : α → Sto → Res β} {A : β → Sto → Prop} {A' : α → Sto → Prop} {B B' : Addr → List (Str × T) → Sto → Prop} (h : (r.bind k).Holds A B)
    (ha : ∀ a st, r = .ok a st → (k a st).Holds A B → A' a st) (hb : ∀ C fs st, B C fs st → B' C fs st) : r.Holds A' B' := by
  cases r with
  | ok a st => exact ha a st rfl h
  | exc C fs st => exact hb C fs st h
  | bad => exact h
theorem re_tup {es : List Expr} {fs : List (Env → Sto → Res D)} {x1} (h : RA X Wx es (argsM fs)) (hl : fs.length ≤ 1000 := by decide) : RE X Wx (.Tuple es x1 pos) (tupM fs) := by
  refine PE.conv (pe_tup h) fun σ H Q ⟨W, env, st, R, Ev, h⟩ => ⟨W, env, st, R, Ev, splitA h (fun ds st1 e0 h1 W1 H1 vs E1 R1 r1 => ?_) fun C fs st' hx => hx⟩
  obtain ⟨z, e1, q⟩ := optR_holds h1
  cases e2 : plains ds with
  | none => rw [e2] at e1; cases e1
  | some ts =>
    rw [e2] at e1
    cases e1
    have l1 := relDs_len r1
    have l2 := argsM_len e0
    refine ⟨Nat.le_of_lt (small1000 (by omega)), fun p hp => ?_⟩
    exact q W1 _ _ (E1.trans (R1.more hp)) (R1.rest hp) ⟨p, vs, rfl, Or.inl upd_same, (R1.more hp).relTs R1 _ _ (relTs_of e2 r1)⟩
theorem re_lst {es : List Expr} {fs : List (Env → Sto → Res D)} (h : RA X Wx es (argsM fs)) (hl : fs.length ≤ 1000 := by decide) : RE X Wx (.List es pos) (lstM fs) := by
  refine PE.conv (pe_lst h) fun σ H Q ⟨W, env, st, R, Ev, h⟩ => ⟨W, env, st, R, Ev, splitA h (fun ds st1 e0 h1 W1 H1 vs E1 R1 r1 => ?_) fun C fs st' hx => hx⟩
  obtain ⟨z, e1, q⟩ := optR_holds h1
  cases e2 : plains ds with
  | none => rw [e2] at e1; cases e1
  | some ts =>
    rw [e2] at e1
    cases e1
    have l1 := relDs_len r1
    have l2 := argsM_len e0
    refine ⟨Nat.le_of_lt (small1000 (by omega)), fun p hp => ?_⟩
    exact q (W1.fix p) _ _ (E1.trans (Ext.fix W1 hp)) (R1.fix hp) ⟨p, vs, rfl, .inr rfl, upd_same, (Ext.fix W1 hp).relTs R1 _ _ (relTs_of e2 r1)⟩
theorem re_new {es : List Expr} {fs : List (Env → Sto → Res D)} (h : RA X Wx es (argsM fs)) (hl : fs.length ≤ 1000 := by decide) : RE X Wx (.List es pos) (newM fs) := by
  refine PE.conv (pe_lst h) fun σ H Q ⟨W, env, st, R, Ev, h⟩ => ⟨W, env, st, R, Ev, splitA h (fun ds st1 e0 h1 W1 H1 vs E1 R1 r1 => ?_) fun C fs st' hx => hx⟩
  have l1 := relDs_len r1
  have l2 := argsM_len e0
  refine ⟨Nat.le_of_lt (small1000 (by omega)), fun p hp => ?_⟩
  exact h1 (W1.add p) _ _ (E1.trans (Ext.add W1 hp)) (R1.add hp r1) ⟨p, by
    show (W1.ρ ++ [p])[st1.length]? = some p
    rw [← R1.len, List.getElem?_append_right (Nat.le_refl _), Nat.sub_self]; rfl, rfl⟩
end
end Mi
/-! Mir2 -/
namespace Mi
open L2 PySem PySem.Spec PyProof.Rows

/-! ### statements -/
inductive Out where
  | nx (env : Env) (st : Sto) | rt (d : D) (st : Sto) | bk (env : Env) (st : Sto) | ct (env : Env) (st : Sto) | exc (C : Addr) (fs : List (Str × T)) (env : Env) (st : Sto) | bad
def Out.Holds (K : PySem.W.Frag) (Wx : WX) (E : Ends) (W : Wd) (H : Hp) : Out → Prop
  | .nx env st => ∀ W' σ' H', Ext W H W' H' → Rl K W' st H' → EnvR K W' H' env σ' → E.nx σ' H'
  | .rt d st => OkD K W H E.rt d st
  | .bk env st => ∀ W' σ' H', Ext W H W' H' → Rl K W' st H' → EnvR K W' H' env σ' → E.bk σ' H'
  | .ct env st => ∀ W' σ' H', Ext W H W' H' → Rl K W' st H' → EnvR K W' H' env σ' → E.ct σ' H'
  | .exc C fs env st => ∀ W' σ' H' o, Ext W H W' H' → Rl K W' st H' → EnvR K W' H' env σ' → ExD K W' H' fs o → Wx (.ref C) o σ' H'
  | .bad => False
theorem Out.Holds.mono {K : PySem.W.Frag} {Wx : WX} {E : Ends} {W W1 : Wd} {H H1 : Hp} : ∀ {o : Out}, o.Holds K Wx E W H → Ext W H W1 H1 → o.Holds K Wx E W1 H1
  | .nx _ _, h, e => fun W' σ' H' E' R' V' => h W' σ' H' (e.trans E') R' V'
  | .rt _ _, h, e => OkD.mono h e
  | .bk _ _, h, e => fun W' σ' H' E' R' V' => h W' σ' H' (e.trans E') R' V'
  | .ct _ _, h, e => fun W' σ' H' E' R' V' => h W' σ' H' (e.trans E') R' V'
  | .exc _ _ _ _, h, e => fun W' σ' H' o E' R' V' x => h W' σ' H' o (e.trans E') R' V' x
  | .bad, h, _ => h
def Out.seq (o : Out) (k : Env → Sto → Out) : Out := match o with
  | .nx e s => k e s
  | .rt d s => .rt d s
  | .bk e s => .bk e s
  | .ct e s => .ct e s
  | .exc C fs e s => .exc C fs e s
  | .bad => .bad
/-- a result that a statement goes on with -/
def Res.out {α : Type} (r : Res α) (env : Env) (k : α → Sto → Out) : Out := match r with
  | .ok a s => k a s
  | .exc C fs s => .exc C fs env s
  | .bad => .bad
def tS (K : PySem.W.Frag) (Wx : WX) (g : Env → Sto → Out) : TS := fun E σ H => ∃ W env st, Rl K W st H ∧ EnvR K W H env σ ∧ (g env st).Holds K Wx E W H
abbrev RS (X : Cx) (Wx : WX) (s : Stmt) (g : Env → Sto → Out) : Prop := PS X s (tS X.K Wx g)
abbrev RSs (X : Cx) (Wx : WX) (s : List Stmt) (g : Env → Sto → Out) : Prop := PSs X s (tS X.K Wx g)
theorem PS.conv {X : Cx} {e : Stmt} {t t' : TS} (h : PS X e t) (g : ∀ D σ H, t' D σ H → t D σ H) : PS X e t' := ⟨fun pins s σ H D I q => h.run pins s σ H D I (g D σ H q)⟩
theorem PSs.conv {X : Cx} {e : List Stmt} {t t' : TS} (h : PSs X e t) (g : ∀ D σ H, t' D σ H → t D σ H) : PSs X e t' := ⟨fun pins s σ H D I q => h.run pins s σ H D I (g D σ H q)⟩
theorem out_split {α : Type} {K : PySem.W.Frag} {Wx : WX} {E : Ends} {W : Wd} {H : Hp} {σ : L2.St} {env : Env} {r : Res α} {k : α → Sto → Out} {A : α → Sto → Prop} (h : (r.out env k).Holds K Wx E W H) (Ev : EnvR K W H env σ) {st : Sto} (R : Rl K W st H)
    (ha : ∀ a s, (k a s).Holds K Wx E W H → A a s) : r.Holds A (OkX K W H fun c o H' => Wx c o σ H') := by
  cases r with
  | ok a s => exact ha a s h
  | exc C fs s => exact fun W' H' o E' R' x => h W' σ H' o E' R' (Ev.mono E' R) x
  | bad => exact h

section
variable {X : Cx} {Wx : WX} {s : Stmt} {rest : List Stmt} {g g1 g2 : Env → Sto → Out} {e a b c : Expr} {f fa fb : Env → Sto → Res D} {pos : Pos}
def nxM (env : Env) (st : Sto) : Out := .nx env st
def seqM (g1 g2 : Env → Sto → Out) (env : Env) (st : Sto) : Out := (g1 env st).seq g2
theorem rss_nil : RSs X Wx [] nxM := PSs.conv pss_nil fun D σ H ⟨W, env, st, R, Ev, h⟩ => h W σ H .refl R Ev
theorem rss_cons (h1 : RS X Wx s g1) (h2 : RSs X Wx rest g2) : RSs X Wx (s :: rest) (seqM g1 g2) := by
  refine PSs.conv (pss_cons h1 h2) fun E σ H ⟨W, env, st, R, Ev, h⟩ => ⟨W, env, st, R, Ev, ?_⟩
  unfold seqM at h
  cases q : g1 env st with
  | nx e s => rw [q] at h; exact fun W' σ' H' E' R' V' => ⟨W', e, s, R', V', Out.Holds.mono (o := g2 e s) h E'⟩
  | rt d s => rw [q] at h; exact h
  | bk e s => rw [q] at h; exact h
  | ct e s => rw [q] at h; exact h
  | exc C fs e s => rw [q] at h; exact h
  | bad => rw [q] at h; exact h
theorem rss_one (h1 : RS X Wx s g1) : RSs X Wx [s] g1 := by
  refine ⟨fun pins s σ H E I h => ?_⟩
  exact (pss_one h1).run pins s σ H E I h
theorem rs_pass : RS X Wx (.Pass pos) nxM := PS.conv ps_pass fun D σ H ⟨W, env, st, R, Ev, h⟩ => h W σ H .refl R Ev
def bkM (env : Env) (st : Sto) : Out := .bk env st
def ctM (env : Env) (st : Sto) : Out := .ct env st
theorem rs_break : RS X Wx (.Break pos) bkM := PS.conv ps_break fun D σ H ⟨W, env, st, R, Ev, h⟩ => h W σ H .refl R Ev
theorem rs_cont : RS X Wx (.Continue pos) ctM := PS.conv ps_continue fun D σ H ⟨W, env, st, R, Ev, h⟩ => h W σ H .refl R Ev
def setM (i : Nat) (f : Env → Sto → Res D) (env : Env) (st : Sto) : Out := (f env st).out env fun d s => .nx (env.set i (some d)) s
theorem rs_set {i : Nat} {x : Str} {pos' : Pos} (hN : X.N.Nodup) (hi : X.N[i]? = some x) (hx : Loc X.env.scope x) (he : RE X Wx e f) (hs : swapsWith e (some (.Name x pos')) pos.line X.env = pure false := by rfl)
    (hf : X.fn x = true ∨ X.env.scope.names.lookup x = some .local := by first | exact .inl rfl | exact .inr rfl | assumption) : RS X Wx (.Assign [.Name x pos'] e pos) (setM i f) := by
  refine PS.conv (ps_set hN hi hx he hs hf) fun E σ H ⟨W, env, st, R, Ev, h⟩ => ⟨W, env, st, R, Ev, out_split h Ev R fun d s h1 W1 H1 v E1 R1 r1 => ?_⟩
  exact h1 W1 _ H1 E1 R1 ((Ev.mono E1 R).set i r1)
def dropM (f : Env → Sto → Res D) (env : Env) (st : Sto) : Out := (f env st).out env fun _ s => .nx env s
theorem rs_expr (he : RE X Wx e f) (hs : swapsWith e none pos.line X.env = pure false := by rfl) : RS X Wx (.Expr e pos) (dropM f) := by
  refine PS.conv (ps_expr he hs) fun E σ H ⟨W, env, st, R, Ev, h⟩ => ⟨W, env, st, R, Ev, out_split h Ev R fun d s h1 W1 H1 v E1 R1 r1 => ?_⟩
  exact h1 W1 σ H1 E1 R1 (Ev.mono E1 R)
theorem rs_doc {x j pos pos'} : RS X Wx (.Expr (.Constant (.str x) j pos) pos') nxM := PS.conv ps_doc fun D σ H ⟨W, env, st, R, Ev, h⟩ => h W σ H .refl R Ev
def retM (f : Env → Sto → Res D) (env : Env) (st : Sto) : Out := (f env st).out env fun d s => .rt d s
theorem rs_ret (he : RE X Wx e f) : RS X Wx (.Return (some e) pos) (retM f) := by
  refine PS.conv (ps_ret he) fun E σ H ⟨W, env, st, R, Ev, h⟩ => ⟨W, env, st, R, Ev, out_split h Ev R fun d s h1 => ?_⟩
  exact h1
def retN (env : Env) (st : Sto) : Out := .rt (.t .non) st
theorem rs_retN : RS X Wx (.Return none pos) retN := PS.conv ps_retN fun D σ H ⟨W, env, st, R, Ev, h⟩ => h W H .non .refl R rfl
def ifM (c : Env → Sto → Res Bool) (g1 g2 : Env → Sto → Out) (env : Env) (st : Sto) : Out := (c env st).out env fun k s => if k = true then g1 env s else g2 env s
theorem rs_if {p q : List Stmt} {gc : Env → Sto → Res Bool} (hc : RT X Wx c gc) (ha : RSs X Wx p g1) (hb : RSs X Wx q g2) : RS X Wx (.If c p q pos) (ifM gc g1 g2) := by
  refine PS.conv (ps_if hc ha hb) fun E σ H ⟨W, env, st, R, Ev, h⟩ => ⟨W, env, st, R, Ev, out_split h Ev R fun k s h1 W1 H1 E1 R1 => ?_⟩
  cases k with
  | true => exact ite_tt ⟨W1, env, s, R1, Ev.mono E1 R, Out.Holds.mono (o := g1 env s) h1 E1⟩
  | false => exact ite_ff ⟨W1, env, s, R1, Ev.mono E1 R, Out.Holds.mono (o := g2 env s) h1 E1⟩
/-- x op= e -/
def augM (i : Nat) (g : D → D → Sto → Option D) (f : Env → Sto → Res D) (env : Env) (st : Sto) : Out := match env[i]? with
  | some (some d) => (f env st).out env fun d2 s => (optR (g d d2 s) s).out env fun z s2 => .nx (env.set i (some z)) s2
  | _ => .bad
theorem rs_aug {i : Nat} {x : Str} {op : Operator} {pos' : Pos} {gv : D → D → Sto → Option D} (hN : X.N.Nodup) (hi : X.N[i]? = some x) (hx : Loc X.env.scope x) (he : RE X Wx e f) (ho : OpR X (inplaceOp op) (rM X.K gv))
    (hf : X.fn x = true ∨ X.env.scope.names.lookup x = some .local := by first | exact .inl rfl | exact .inr rfl | assumption) : RS X Wx (.AugAssign (.Name x pos') op e pos) (augM i gv f) := by
  refine PS.conv (ps_aug hN hi hx he (ti := fun x y H Q => rM X.K gv x y H Q) (fun pins s σ H x y v u Q I r1 r2 h => ho pins s σ H x y v u Q I r1 r2 h) hf) fun E σ H ⟨W, env, st, R, Ev, h⟩ => ?_
  unfold augM at h
  split at h
  · rename_i d q
    obtain ⟨v, e1, r⟩ := Ev.get i d q
    refine ⟨v, e1, W, env, st, R, Ev, out_split h Ev R fun d2 s h1 W1 H1 w E1 R1 r1 => ?_⟩
    cases q2 : gv d d2 s with
    | none => rw [q2] at h1; exact h1.elim
    | some z =>
      rw [q2] at h1
      refine ⟨W1, s, d, d2, R1, E1.relD R r, r1, z, q2, fun W2 H2 y E2 R2 r2 => ?_⟩
      exact h1 W2 _ H2 (E1.trans E2) R2 (((Ev.mono E1 R).mono E2 R1).set i r2)
  · exact h.elim

/-! ### targets -/
/-- the same slots but those of vs -/
def Agree (vs : List Nat) (σ σ' : L2.St) : Prop := σ'.length = σ.length ∧ ∀ j, j ∉ vs → σ'[j]? = σ[j]?
theorem Agree.refl {vs : List Nat} {σ : L2.St} : Agree vs σ σ := ⟨rfl, fun _ _ => rfl⟩
theorem Agree.trans {vs : List Nat} {σ σ1 σ2 : L2.St} (a : Agree vs σ σ1) (b : Agree vs σ1 σ2) : Agree vs σ σ2 := ⟨b.1.trans a.1, fun j h => (b.2 j h).trans (a.2 j h)⟩
theorem Agree.set {vs : List Nat} {σ : L2.St} {i : Nat} (h : i ∈ vs) (x : Option V) : Agree vs σ (σ.set i x) := ⟨List.length_set, fun j hj => List.getElem?_set_ne (fun e => hj (by rw [← e]; exact h))⟩
def tG (K : PySem.W.Frag) (us : List Nat) (ga : D → Env → Option Env) : TG := fun v σ H Q => ∃ W env st d env', Rl K W st H ∧ EnvR K W H env σ ∧ RelD K W H d v ∧ ga d env = some env' ∧ ∀ σ', EnvR K W H env' σ' → Agree us σ σ' → Q σ' H
def tGs (K : PySem.W.Frag) (us : List Nat) (ga : List T → Env → Option Env) : TGs := fun vs σ H Q => ∃ W env st ts env', Rl K W st H ∧ EnvR K W H env σ ∧ RelTs K W.F H ts vs ∧ ga ts env = some env' ∧ ∀ σ', EnvR K W H env' σ' → Agree us σ σ' → Q σ' H
abbrev RG (X : Cx) (us : List Nat) (tg : Expr) (ga : D → Env → Option Env) : Prop := PG X tg (tG X.K us ga)
abbrev RGs (X : Cx) (us : List Nat) (tg : List Expr) (ga : List T → Env → Option Env) : Prop := PGs X tg (tGs X.K us ga)
theorem PG.conv {tg : Expr} {t t' : TG} (h : PG X tg t) (g : ∀ v σ H Q, t' v σ H Q → t v σ H Q) : PG X tg t' := ⟨fun pins s σ H v u Q I r q => h.run pins s σ H v u Q I r (g v σ H Q q)⟩
theorem PGs.conv {tg : List Expr} {t t' : TGs} (h : PGs X tg t) (g : ∀ v σ H Q, t' v σ H Q → t v σ H Q) : PGs X tg t' := ⟨fun pins s σ H v u Q I r q => h.run pins s σ H v u Q I r (g v σ H Q q)⟩
def gN (i : Nat) (d : D) (env : Env) : Option Env := some (env.set i (some d))
theorem rg_name {us : List Nat} {i : Nat} {x : Str} (hN : X.N.Nodup) (hi : X.N[i]? = some x) (hx : Loc X.env.scope x) (hu : i ∈ us := by simp) (hf : X.fn x = true ∨ X.env.scope.names.lookup x = some .local := by first | exact .inl rfl | exact .inr rfl | assumption) : RG X us (.Name x pos) (gN i) := by
  refine PG.conv (pg_name hN hi hx hf) fun v σ H Q ⟨W, env, st, d, env', R, Ev, r, e, h⟩ => ?_
  cases e
  exact h _ (Ev.set i r) (.set hu _)
def gsNil (ts : List T) (env : Env) : Option Env := match ts with
  | [] => some env
  | _ => none
def gsCons (ga : D → Env → Option Env) (gr : List T → Env → Option Env) (ts : List T) (env : Env) : Option Env := match ts with
  | [] => none
  | t :: r => (ga (.t t) env).bind (gr r)
theorem rgs_nil {us : List Nat} : RGs X us [] gsNil := by
  refine PGs.conv pgs_nil fun vs σ H Q ⟨W, env, st, ts, env', R, Ev, r, e, h⟩ => ?_
  cases ts with
  | cons t r => cases e
  | nil => cases e; cases r; exact ⟨rfl, h σ Ev .refl⟩
theorem rgs_cons {us : List Nat} {es : List Expr} {ga : D → Env → Option Env} {gr : List T → Env → Option Env} (h1 : RG X us e ga) (h2 : RGs X us es gr)
    (hs : (assignEach (e :: es) X.env).map (·.2) = assign e X.env :: (assignEach es X.env).map (·.2) := by rfl) : RGs X us (e :: es) (gsCons ga gr) := by
  refine PGs.conv (pgs_cons h1 h2 hs) fun vs σ H Q ⟨W, env, st, ts, env', R, Ev, r, e, h⟩ => ?_
  cases ts with
  | nil => cases e
  | cons t ts =>
    obtain ⟨v, vr, e0, ra, rb⟩ := r
    have e : (ga (.t t) env).bind (gr ts) = some env' := e
    cases q : ga (.t t) env with
    | none => (rw [q] at e; cases e)
    | some env1 =>
      rw [q] at e
      exact ⟨v, vr, e0, W, env, st, .t t, env1, R, Ev, ra, q, fun σ' Ev' ag => ⟨W, env1, st, ts, env', R, Ev', rb, e, fun σ2 Ev2 ag2 => h σ2 Ev2 (ag.trans ag2)⟩⟩
def gT (n : Nat) (gr : List T → Env → Option Env) (d : D) (env : Env) : Option Env := match d with
  | .t (.tup ts) => if ts.length = n then gr ts env else none
  | _ => none
theorem rg_tup {us : List Nat} {es : List Expr} {k n : Nat} {gr : List T → Env → Option Env} (hc : X.calm = true) (h : RGs X us es gr)
    (hn : (assignEach es X.env).length = n := by rfl) (hst : (assignEach es X.env).findIdx? (·.1) = none := by rfl) : RG X us (.Tuple es k pos) (gT n gr) := by
  refine PG.conv (pg_tup hc h hn hst) fun v σ H Q ⟨W, env, st, d, env', R, Ev, r, e, h⟩ => ?_
  unfold gT at e
  split at e
  · rename_i ts
    split at e
    · rename_i hl
      obtain ⟨a, vs, e1, q, rr⟩ := r
      exact ⟨a, vs, e1, q.sq, by rw [relTs_len rr]; exact hl, W, env, st, ts, env', R, Ev, rr, e, h⟩
    · cases e
  · cases e
/-- target = e -/
def asgM (f : Env → Sto → Res D) (ga : D → Env → Option Env) (env : Env) (st : Sto) : Out := (f env st).out env fun d s => match ga d env with
  | some env' => .nx env' s
  | none => .bad
theorem rs_asg {us : List Nat} {tg : Expr} {ga : D → Env → Option Env} (he : RE X Wx e f) (hg : RG X us tg ga) (hs : swapsWithSole [tg] e pos.line X.env = pure false := by rfl) (hw : swappedStores [tg] e X.env = pure none := by rfl)
    (h1 : (assignEach [tg] X.env).map (·.2) = [assign tg X.env] := by rfl) : RS X Wx (.Assign [tg] e pos) (asgM f ga) := by
  refine PS.conv (ps_asg he hg hs hw h1) fun E σ H ⟨W, env, st, R, Ev, h⟩ => ⟨W, env, st, R, Ev, out_split h Ev R fun d s h1 W1 H1 v E1 R1 r1 => ?_⟩
  split at h1
  · rename_i env' q
    exact ⟨W1, env, s, d, env', R1, Ev.mono E1 R, r1, q, fun σ' Ev' _ => h1 W1 σ' H1 E1 R1 Ev'⟩
  · exact h1.elim
/-- a, b = x, y, two plain names -/
def parM (i j : Nat) (fs : List (Env → Sto → Res D)) (env : Env) (st : Sto) : Out := (argsM fs env st).out env fun ds s => match ds with
  | [d, d2] => .nx ((env.set i (some d)).set j (some d2)) s
  | _ => .bad
theorem rs_par {i j : Nat} {x y : Str} {px py pt : Pos} {kt k2 pt2} {fs : List (Env → Sto → Res D)} (hc : X.calm = true) (hN : X.N.Nodup) (hi : X.N[i]? = some x) (hj : X.N[j]? = some y) (hij : i ≠ j)
    (hx : X.env.scope.names.lookup x = some .local) (hy : X.env.scope.names.lookup y = some .local) (ha : RA X Wx [a, b] (argsM fs))
    (hw : swappedStores [.Tuple [.Name x px, .Name y py] kt pt] (.Tuple [a, b] k2 pt2) X.env = pure (some [x, y]) := by rfl)
    (hs : swapsWithSole [.Tuple [.Name x px, .Name y py] kt pt] (.Tuple [a, b] k2 pt2) pos.line X.env = pure false := by rfl) : RS X Wx (.Assign [.Tuple [.Name x px, .Name y py] kt pt] (.Tuple [a, b] k2 pt2) pos) (parM i j fs) := by
  refine PS.conv (ps_par hc hN hi hj hij hx hy ha hw hs) fun E σ H ⟨W, env, st, R, Ev, h⟩ => ⟨W, env, st, R, Ev, out_split h Ev R fun ds s h1 W1 H1 vs E1 R1 r1 => ?_⟩
  split at h1
  · rename_i d d2
    obtain ⟨v, r, rfl, q1, w, r', rfl, q2, q3⟩ := r1
    cases q3
    exact ⟨v, w, rfl, h1 W1 _ H1 E1 R1 (((Ev.mono E1 R).set i q1).set j q2)⟩
  · exact h1.elim
end

/-! ### what is walked -/
structure ItM where
  nth : Sto → Nat → Option (Option D)
  most : Nat
def JOk (K : PySem.W.Frag) (J : It) (it : ItM) (W0 : Wd) (H0 : Hp) : Prop := ∀ W H st i, Ext W0 H0 W H → Rl K W st H →
  (it.nth st i = some none → J.stop i H) ∧ ∀ d, it.nth st i = some (some d) → J.go i H ∧ ∀ x H', J.yld i H x H' → ∃ W', Ext W H W' H' ∧ Rl K W' st H' ∧ RelD K W' H' d x
def tI (K : PySem.W.Frag) (Wx : WX) (fi : Env → Sto → Res ItM) : TI := fun σ H Q => ∃ W env st, Rl K W st H ∧ EnvR K W H env σ ∧
  (fi env st).Holds (fun it s => ∀ W' H' J, Ext W H W' H' → Rl K W' s H' → JOk K J it W' H' → Q J H') (OkX K W H fun c o H' => Wx c o σ H')
abbrev RI (X : Cx) (Wx : WX) (tg iter : Expr) (fi : Env → Sto → Res ItM) : Prop := PI X tg iter (tI X.K Wx fi)
def forI (ga : D → Env → Option Env) (body : Env → Sto → Out) (it : ItM) : Nat → Nat → Env → Sto → Out
  | 0, i, env, st => match it.nth st i with
    | some none => .nx env st
    | _ => .bad
  | m + 1, i, env, st => match it.nth st i with
    | some none => .nx env st
    | some (some d) => match ga d env with
      | some env1 => match body env1 st with
        | .nx e s => forI ga body it m (i + 1) e s
        | .ct e s => forI ga body it m (i + 1) e s
        | .bk e s => .nx e s
        | .rt d s => .rt d s
        | .exc C fs e s => .exc C fs e s
        | .bad => .bad
      | none => .bad
    | none => .bad
def forM' (fi : Env → Sto → Res ItM) (ga : D → Env → Option Env) (body : Env → Sto → Out) (env : Env) (st : Sto) : Out := (fi env st).out env fun it s => forI ga body it it.most 0 env s
section
variable {X : Cx} {Wx : WX} {g : Env → Sto → Out} {e a b c : Expr} {f fa fb : Env → Sto → Res D} {pos : Pos}
theorem rs_for {us : List Nat} {tg iter : Expr} {body : List Stmt} {fi : Env → Sto → Res ItM} {ga : D → Env → Option Env} (hp : PassesOwn (model X.prog X.w) X.A X.env X.xe) (hc : X.calm = true) (hi : RI X Wx tg iter fi) (hg : RG X us tg ga) (hb : RSs X Wx body g)
    (hs : ∀ x, foldedSetIterable iter X.env x = pure x := by intro _; rfl) : RS X Wx (.For tg iter body [] pos) (forM' fi ga g) := by
  refine PS.conv (ps_for hp hc hi hg hb hs) fun E σ H ⟨W, env, st, R, Ev, h⟩ => ⟨W, env, st, R, Ev, out_split h Ev R fun it s h1 W1 H1 J E1 R1 j => ?_⟩
  refine ⟨fun i m σ H2 => ∃ W2 env2 st2, Ext W1 H1 W2 H2 ∧ Rl X.K W2 st2 H2 ∧ EnvR X.K W2 H2 env2 σ ∧ (forI ga g it m i env2 st2).Holds X.K Wx E W2 H2, ⟨it.most, W1, env, s, .refl, R1, Ev.mono E1 R, Out.Holds.mono h1 E1⟩, ?_⟩
  rintro i m σ2 H2 ⟨W2, env2, st2, E2, R2, Ev2, h2⟩
  obtain ⟨j1, j2⟩ := j W2 H2 st2 i E2 R2
  have stop : it.nth st2 i = some none → (forI ga g it m i env2 st2) = .nx env2 st2 := fun q => by
    cases m with
    | zero => unfold forI; rw [q]
    | succ m => unfold forI; rw [q]
  cases q : it.nth st2 i with
  | none =>
    exfalso
    cases m with
    | zero => unfold forI at h2; rw [q] at h2; exact h2
    | succ m => unfold forI at h2; rw [q] at h2; exact h2
  | some o =>
    cases o with
    | none =>
      rw [stop q] at h2
      exact .inl ⟨j1 q, h2 W2 σ2 H2 .refl R2 Ev2⟩
    | some d =>
      cases m with
      | zero => exfalso; unfold forI at h2; rw [q] at h2; exact h2
      | succ m =>
        obtain ⟨jg, jy⟩ := j2 d q
        refine .inr ⟨jg, fun σ' H' => ∃ W2 env2 st2, Ext W1 H1 W2 H' ∧ Rl X.K W2 st2 H' ∧ EnvR X.K W2 H' env2 σ' ∧ (forI ga g it m (i + 1) env2 st2).Holds X.K Wx E W2 H', fun σ' H' h => ⟨m, Nat.lt_succ_self m, h⟩, fun x H3 hy => ?_⟩
        obtain ⟨W3, E3, R3, r3⟩ := jy x H3 hy
        unfold forI at h2
        simp only [q] at h2
        cases q2 : ga d env2 with
        | none => rw [q2] at h2; exact h2.elim
        | some env3 =>
          simp only [q2] at h2
          refine ⟨W3, env2, st2, d, env3, R3, Ev2.mono E3 R2, r3, q2, fun σ3 Ev3 _ => ⟨W3, env3, st2, R3, Ev3, ?_⟩⟩
          cases q3 : g env3 st2 with
          | nx e s => simp only [q3] at h2; exact fun W4 σ4 H4 E4 R4 Ev4 => ⟨W4, e, s, E2.trans (E3.trans E4), R4, Ev4, Out.Holds.mono h2 (E3.trans E4)⟩
          | ct e s => simp only [q3] at h2; exact fun W4 σ4 H4 E4 R4 Ev4 => ⟨W4, e, s, E2.trans (E3.trans E4), R4, Ev4, Out.Holds.mono h2 (E3.trans E4)⟩
          | bk e s => simp only [q3] at h2; exact fun W4 σ4 H4 E4 R4 Ev4 => h2 W4 σ4 H4 (E3.trans E4) R4 Ev4
          | rt d s => simp only [q3] at h2; exact OkD.mono h2 E3
          | exc C fs e s => simp only [q3] at h2; exact fun W4 σ4 H4 o E4 R4 Ev4 x => h2 W4 σ4 H4 o (E3.trans E4) R4 Ev4 x
          | bad => simp only [q3] at h2; exact h2
/-- while -/
def whileI (c : Env → Sto → Res Bool) (body : Env → Sto → Out) : Nat → Env → Sto → Out
  | 0, env, st => (c env st).out env fun k s => if k = true then .bad else .nx env s
  | m + 1, env, st => (c env st).out env fun k s => if k = true then (match body env s with
      | .nx e s => whileI c body m e s
      | .ct e s => whileI c body m e s
      | .bk e s => .nx e s
      | .rt d s => .rt d s
      | .exc C fs e s => .exc C fs e s
      | .bad => .bad) else .nx env s
theorem rs_while {body : List Stmt} {gc : Env → Sto → Res Bool} (fuel : Nat) (hp : PassesOwn (model X.prog X.w) X.A X.env X.xe) (hc : RT X Wx c gc) (hb : RSs X Wx body g) : RS X Wx (.While c body [] pos) (whileI gc g fuel) := by
  refine PS.conv (ps_while hp hc hb) fun E σ H ⟨W, env, st, R, Ev, h⟩ => ⟨fun m σ H => ∃ W env st, Rl X.K W st H ∧ EnvR X.K W H env σ ∧ (whileI gc g m env st).Holds X.K Wx E W H, ⟨fuel, W, env, st, R, Ev, h⟩, ?_⟩
  rintro m σ1 H1 ⟨W1, env1, st1, R1, Ev1, h1⟩
  cases m with
  | zero =>
    refine ⟨W1, env1, st1, R1, Ev1, out_split h1 Ev1 R1 fun k s h2 W2 H2 E2 R2 => ?_⟩
    cases k with
    | true => exact h2.elim
    | false => exact ite_ff (h2 W2 σ1 H2 E2 R2 (Ev1.mono E2 R1))
  | succ m =>
    refine ⟨W1, env1, st1, R1, Ev1, out_split h1 Ev1 R1 fun k s h2 W2 H2 E2 R2 => ?_⟩
    cases k with
    | false => exact ite_ff (h2 W2 σ1 H2 E2 R2 (Ev1.mono E2 R1))
    | true =>
      refine ite_tt ⟨fun σ' H' => ∃ W env st, Rl X.K W st H' ∧ EnvR X.K W H' env σ' ∧ (whileI gc g m env st).Holds X.K Wx E W H', fun σ' H' h => ⟨m, Nat.lt_succ_self m, h⟩, W2, env1, s, R2, Ev1.mono E2 R1, ?_⟩
      have h2 : (match g env1 s with
        | .nx e s => whileI gc g m e s
        | .ct e s => whileI gc g m e s
        | .bk e s => .nx e s
        | .rt d s => .rt d s
        | .exc C fs e s => .exc C fs e s
        | .bad => .bad).Holds X.K Wx E W1 H1 := h2
      cases q3 : g env1 s with
      | nx e s => simp only [q3] at h2; exact fun W4 σ4 H4 E4 R4 Ev4 => ⟨W4, e, s, R4, Ev4, Out.Holds.mono h2 (E2.trans E4)⟩
      | ct e s => simp only [q3] at h2; exact fun W4 σ4 H4 E4 R4 Ev4 => ⟨W4, e, s, R4, Ev4, Out.Holds.mono h2 (E2.trans E4)⟩
      | bk e s => simp only [q3] at h2; exact fun W4 σ4 H4 E4 R4 Ev4 => h2 W4 σ4 H4 (E2.trans E4) R4 Ev4
      | rt d s => simp only [q3] at h2; exact OkD.mono h2 E2
      | exc C fs e s => simp only [q3] at h2; exact fun W4 σ4 H4 o E4 R4 Ev4 x => h2 W4 σ4 H4 o (E2.trans E4) R4 Ev4 x
      | bad => simp only [q3] at h2; exact h2

/-! ### the things that are walked -/
def seqIt (d : D) (n : Nat) : ItM := ⟨fun st i => (items st d).map fun ds => ds[i]?, n⟩
theorem map_nth {st : Sto} {d : D} {n i : Nat} {o : Option D} (h : (seqIt d n).nth st i = some o) : ∃ ds, items st d = some ds ∧ ds[i]? = o := by
  have h : (items st d).map (fun ds => ds[i]?) = some o := h
  cases q : items st d with
  | none => rw [q] at h; cases h
  | some ds => rw [q] at h; exact ⟨ds, rfl, Option.some.inj h⟩
def seqOf (f : Env → Sto → Res D) (env : Env) (st : Sto) : Res ItM := (f env st).bind fun d s => optR ((items s d).map fun ds => seqIt d ds.length) s
/-- a list alone (no tuple) -/
def lsq (st : Sto) (d : D) : Option (List D) := match d with
  | .t (.tup _) => none
  | d => items st d
theorem lsq_items {st : Sto} {d : D} {ds : List D} (h : lsq st d = some ds) : items st d = some ds := by
  unfold lsq at h
  split at h
  · cases h
  · exact h
theorem lsq_rel {K : PySem.W.Frag} {W : Wd} {H : Hp} {st : Sto} (R : Rl K W st H) {d : D} {ds : List D} {v : V} (h : lsq st d = some ds) (r : RelD K W H d v) : ∃ a vs, v = .ref a ∧ SqL K H a vs ∧ RelDs K W H ds vs := by
  cases d with
  | x => cases h
  | r n =>
    have h : (match st[n]? with | some (.lst ds) => some ds | _ => none) = some ds := h
    obtain ⟨a, e, rfl⟩ := r
    split at h
    · rename_i ds' q
      cases h
      obtain ⟨vs, q1, q2⟩ := R.live n a _ e q
      exact ⟨a, vs, rfl, SqL.of q1, q2⟩
    · cases h
  | t x =>
    cases x with
    | lst ts =>
      cases h
      obtain ⟨a, vs, e, f, q, rr⟩ := r
      exact ⟨a, vs, e, SqL.of q, relDs_t rr⟩
    | scr ts =>
      cases h
      obtain ⟨a, vs, e, q, rr⟩ := r
      exact ⟨a, vs, e, q.sq, relDs_t rr⟩
    | _ => cases h
theorem JOk.lst {K : PySem.W.Frag} {W : Wd} {H : Hp} {st : Sto} {d : D} {a : Addr} {n : Nat} (R : Rl K W st H) (r : RelD K W H d (.ref a)) (hs : ∀ ts, d ≠ .t (.tup ts)) : JOk K (Itl K a) (seqIt d n) W H := by
  intro W' H' st' i E' R'
  have r' := E'.relD R r
  have get : ∀ o, (seqIt d n).nth st' i = some o → ∃ ds vs, items st' d = some ds ∧ ds[i]? = o ∧ SqL K H' a vs ∧ RelDs K W' H' ds vs := fun o h => by
    obtain ⟨ds, e1, e2⟩ := map_nth h
    have e0 : lsq st' d = some ds := by
      unfold lsq
      split
      · rename_i ts; exact absurd rfl (hs ts)
      · exact e1
    obtain ⟨a', vs, e3, s, rr⟩ := lsq_rel R' e0 r'
    cases e3
    exact ⟨ds, vs, e1, e2, s, rr⟩
  refine ⟨fun h => ?_, fun dd h => ?_⟩
  · obtain ⟨ds, vs, e1, e2, s, rr⟩ := get _ h
    exact ⟨vs, s, by rw [relDs_len rr]; exact List.getElem?_eq_none_iff.mp e2⟩
  · obtain ⟨ds, vs, e1, e2, s, rr⟩ := get _ h
    obtain ⟨v, e3, rv⟩ := relDs_get rr e2
    refine ⟨⟨vs, v, s, e3⟩, fun x H2 hy => ?_⟩
    obtain ⟨rfl, hy⟩ := hy
    have e4 : v = x := Option.some.inj (e3.symm.trans (hy vs s))
    subst e4
    exact ⟨W', .refl, R', rv⟩
theorem JOk.tup {K : PySem.W.Frag} {W : Wd} {H : Hp} {st : Sto} {ts : List T} {a : Addr} {n : Nat} (R : Rl K W st H) (r : RelD K W H (.t (.tup ts)) (.ref a)) : JOk K (Itt K a) (seqIt (.t (.tup ts)) n) W H := by
  intro W' H' st' i E' R'
  have r' := E'.relD R r
  obtain ⟨a2, vs, e4, q1, q2⟩ := r'
  cases e4
  have q3 := relDs_t (K := K) (W := W') q2
  refine ⟨fun h => ?_, fun dd h => ?_⟩
  · obtain ⟨ds, e1, e2⟩ := map_nth h
    cases e1
    exact ⟨vs, q1.sq, by rw [relDs_len q3]; exact List.getElem?_eq_none_iff.mp e2⟩
  · obtain ⟨ds, e1, e2⟩ := map_nth h
    cases e1
    obtain ⟨v, e3, rv⟩ := relDs_get q3 e2
    refine ⟨⟨vs, v, q1.sq, e3⟩, fun x H2 hy => ?_⟩
    obtain ⟨rfl, hy⟩ := hy
    have e4 : v = x := Option.some.inj (e3.symm.trans (hy vs q1.sq))
    subst e4
    exact ⟨W', .refl, R', rv⟩
theorem PI.conv {tg iter : Expr} {t t' : TI} (h : PI X tg iter t) (g : ∀ σ H Q, t' σ H Q → t σ H Q) : PI X tg iter t' := ⟨fun pins s σ H R I q => h.run pins s σ H R I (g σ H R q)⟩
/-- a walk over a list -/
def lstOf (f : Env → Sto → Res D) (env : Env) (st : Sto) : Res ItM := (f env st).bind fun d s => optR ((lsq s d).map fun ds => seqIt d ds.length) s
theorem ri_list {tg l : Expr} (h : RE X Wx l f) : RI X Wx tg l (lstOf f) := by
  refine PI.conv (pi_list h) fun σ H Q ⟨W, env, st, R, Ev, h⟩ => ⟨W, env, st, R, Ev, split h (fun d s h1 W1 H1 v E1 R1 r1 => ?_) fun C fs st' hx => hx⟩
  obtain ⟨it, e1, q⟩ := optR_holds h1
  have nt : ∀ ts, d ≠ .t (.tup ts) := fun ts z => by rw [z] at e1; cases e1
  cases q2 : lsq s d with
  | none => rw [q2] at e1; cases e1
  | some ds =>
    rw [q2] at e1
    cases e1
    obtain ⟨a, vs, e3, sq, rr⟩ := lsq_rel R1 q2 r1
    subst e3
    exact ⟨a, rfl, ⟨vs, sq⟩, q W1 H1 _ E1 R1 (JOk.lst R1 r1 nt)⟩
def tupOf (f : Env → Sto → Res D) (env : Env) (st : Sto) : Res ItM := (f env st).bind fun d s => match d with
  | .t (.tup ts) => .ok (seqIt (.t (.tup ts)) ts.length) s
  | _ => .bad
theorem ri_tup {tg l : Expr} (h : RE X Wx l f) : RI X Wx tg l (tupOf f) := by
  refine PI.conv (pi_tup h) fun σ H Q ⟨W, env, st, R, Ev, h⟩ => ⟨W, env, st, R, Ev, split h (fun d s h1 W1 H1 v E1 R1 r1 => ?_) fun C fs st' hx => hx⟩
  split at h1
  · rename_i ts
    obtain ⟨a, vs, e, q, rr⟩ := id r1
    subst e
    exact ⟨a, rfl, ⟨vs, q.sq⟩, h1 W1 H1 _ E1 R1 (JOk.tup R1 r1)⟩
  · exact h1.elim
/-- range -/
def rngIt (lo : Int) (n : Nat) : ItM := ⟨fun _ i => some (if i < n then some (.t (.int (lo + i))) else none), n⟩
theorem JOk.rng {K : PySem.W.Frag} {W : Wd} {H : Hp} {lo : Int} {n : Nat} : JOk K (Itr lo n) (rngIt lo n) W H := by
  intro W' H' st' i E' R'
  refine ⟨fun h => ?_, fun d h => ?_⟩
  · have h : some (if i < n then some (D.t (.int (lo + i))) else none) = some none := h
    by_cases hi : i < n
    · rw [if_pos hi] at h; cases h
    · exact Nat.le_of_not_lt hi
  · have h : some (if i < n then some (D.t (.int (lo + i))) else none) = some (some d) := h
    by_cases hi : i < n
    · rw [if_pos hi] at h
      cases h
      refine ⟨hi, fun x H2 hy => ?_⟩
      obtain ⟨rfl, rfl⟩ := hy
      exact ⟨W', .refl, R', rfl⟩
    · rw [if_neg hi] at h; cases h
def B62 : Int := 4611686018427387904
def rng1 (fs : List (Env → Sto → Res D)) (env : Env) (st : Sto) : Res ItM := (argsM fs env st).bind fun ds s => match ds with
  | [.t (.int j)] => if -B62 ≤ j ∧ j < B62 then .ok (rngIt 0 j.toNat) s else .bad
  | _ => .bad
theorem ri_range1 {tg : Expr} {p : Pos} {fs : List (Env → Sto → Res D)} (hg : Gl X "range") (hm : X.mg "range" = none) (ha : RA X Wx [a] (argsM fs)) (hs : starEach [a] X.env = [(false, eval a X.env)] := by rfl) : RI X Wx tg (.Call (.Name "range" p) [a] [] pos) (rng1 fs) := by
  refine PI.conv (pi_range1 hg hm ha hs) fun σ H Q ⟨W, env, st, R, Ev, h⟩ => ⟨W, env, st, R, Ev, split h (fun ds s h1 W1 H1 vs E1 R1 r1 => ?_) fun C fs st' hx => hx⟩
  split at h1
  · rename_i j
    obtain ⟨v, r, rfl, q1, q2⟩ := r1
    cases q1; cases q2
    split at h1
    · rename_i hb
      unfold B62 at hb
      exact ⟨j, rfl, by omega, by omega, h1 W1 H1 _ E1 R1 .rng⟩
    · exact h1.elim
  · exact h1.elim
def rng2 (fs : List (Env → Sto → Res D)) (env : Env) (st : Sto) : Res ItM := (argsM fs env st).bind fun ds s => match ds with
  | [.t (.int i), .t (.int j)] => if (-B62 ≤ i ∧ i < B62) ∧ -B62 ≤ j ∧ j < B62 then .ok (rngIt i (j - i).toNat) s else .bad
  | _ => .bad
theorem ri_range2 {tg : Expr} {p : Pos} {fs : List (Env → Sto → Res D)} (hg : Gl X "range") (hm : X.mg "range" = none) (ha : RA X Wx [a, b] (argsM fs)) (hs : starEach [a, b] X.env = [(false, eval a X.env), (false, eval b X.env)] := by rfl) (hs2 : starEach [b] X.env = [(false, eval b X.env)] := by rfl) :
    RI X Wx tg (.Call (.Name "range" p) [a, b] [] pos) (rng2 fs) := by
  refine PI.conv (pi_range2 hg hm ha hs hs2) fun σ H Q ⟨W, env, st, R, Ev, h⟩ => ⟨W, env, st, R, Ev, split h (fun ds s h1 W1 H1 vs E1 R1 r1 => ?_) fun C fs st' hx => hx⟩
  split at h1
  · rename_i i j
    obtain ⟨v, r, rfl, q1, v2, r2, rfl, q2, q3⟩ := r1
    cases q1; cases q2; cases q3
    split at h1
    · rename_i hb
      unfold B62 at hb
      exact ⟨i, j, rfl, ⟨by omega, by omega, by omega, by omega⟩, h1 W1 H1 _ E1 R1 .rng⟩
    · exact h1.elim
  · exact h1.elim
/-- a text, sign by sign -/
def strIt (x : Str) : ItM := ⟨fun _ i => some (x.cps[i]?.map fun c => .t (.str ⟨#[c]⟩)), x.cps.size⟩
theorem JOk.str {K : PySem.W.Frag} {W : Wd} {H : Hp} {x : Str} : JOk K (Its x) (strIt x) W H := by
  intro W' H' st' i E' R'
  refine ⟨fun h => ?_, fun d h => ?_⟩
  · have h : some (x.cps[i]?.map fun c => D.t (.str ⟨#[c]⟩)) = some none := h
    cases q : x.cps[i]? with
    | none => exact Array.getElem?_eq_none_iff.mp q
    | some c => rw [q] at h; cases h
  · have h : some (x.cps[i]?.map fun c => D.t (.str ⟨#[c]⟩)) = some (some d) := h
    cases q : x.cps[i]? with
    | none => rw [q] at h; cases h
    | some c =>
      rw [q] at h
      cases h
      refine ⟨(Array.getElem?_eq_some_iff.mp q).1, fun y H2 hy => ?_⟩
      obtain ⟨rfl, c', e, rfl⟩ := hy
      rw [q] at e; cases e
      exact ⟨W', .refl, R', rfl⟩
def strOf (f : Env → Sto → Res D) (env : Env) (st : Sto) : Res ItM := (f env st).bind fun d s => match d with
  | .t (.str x) => .ok (strIt x) s
  | _ => .bad
theorem ri_str {tg l : Expr} (h : RE X Wx l f) : RI X Wx tg l (strOf f) := by
  refine PI.conv (pi_str h) fun σ H Q ⟨W, env, st, R, Ev, h⟩ => ⟨W, env, st, R, Ev, split h (fun d s h1 W1 H1 v E1 R1 r1 => ?_) fun C fs st' hx => hx⟩
  split at h1
  · rename_i x
    cases r1
    exact ⟨x, rfl, h1 W1 H1 _ E1 R1 .str⟩
  · exact h1.elim
end
end Mi
/-! Mir3 -/
namespace Mi
open L2 PySem PySem.Spec PyProof.Rows
section
variable {X : Cx} {Wx : WX}
/-- an operator's rule in terms of plain values -/
theorem op_of {f : Value → Value → Sem Value} {g : D → D → Sto → Option D} {r : R2} (ho : OpR X f r)
    (h : ∀ W st d e x y H Q z, Rl X.K W st H → RelD X.K W H d x → RelD X.K W H e y → g d e st = some z → OkD X.K W H Q z st → r x y H Q) : OpR X f (rM X.K g) := by
  intro pins s σ H x y v u Q I rx ry ⟨W, st, d, e, R, r1, r2, z, e1, q⟩
  exact ho pins s σ H x y v u Q I rx ry (h W st d e x y H Q z R r1 r2 e1 q)
def bD (b : Bool) : D := .t (.bl b)
def iD (i : Int) : D := .t (.int i)
def sD (x : Str) : D := .t (.str x)

/-! ### numbers -/
def subM (d e : D) (_ : Sto) : Option D := match d, e with
  | .t (.int i), .t (.int j) => some (iD (i - j))
  | _, _ => none
theorem o_sub : OpR X (binaryOp .Sub) (rM X.K subM) := op_of op_sub fun W st d e x y H Q z R r1 r2 h q => by
  unfold subM at h
  split at h
  · cases h; cases r1; cases r2; exact ⟨_, _, rfl, rfl, q W H _ .refl R rfl⟩
  · cases h
theorem io_sub : OpR X (inplaceOp .Sub) (rM X.K subM) := op_of iop_sub fun W st d e x y H Q z R r1 r2 h q => by
  unfold subM at h
  split at h
  · cases h; cases r1; cases r2; exact ⟨_, _, rfl, rfl, q W H _ .refl R rfl⟩
  · cases h
def B64 : Int := 18446744073709551616
def mulM (d e : D) (_ : Sto) : Option D := match d, e with
  | .t (.int i), .t (.int j) => if (-B64 < i ∧ i < B64) ∨ (-B64 < j ∧ j < B64) then some (iD (i * j)) else none
  | _, _ => none
theorem o_mul : OpR X (binaryOp .Mult) (rM X.K mulM) := op_of op_mul fun W st d e x y H Q z R r1 r2 h q => by
  unfold mulM at h
  split at h
  · split at h
    · rename_i c
      cases h; cases r1; cases r2
      exact ⟨_, _, rfl, rfl, by unfold CMul; unfold B64 at c; omega, q W H _ .refl R rfl⟩
    · cases h
  · cases h
def modM (d e : D) (_ : Sto) : Option D := match d, e with
  | .t (.int i), .t (.int j) => if 0 < j then some (iD (i % j)) else none
  | _, _ => none
theorem o_mod : OpR X (binaryOp .Mod) (rM X.K modM) := op_of op_mod fun W st d e x y H Q z R r1 r2 h q => by
  unfold modM at h
  split at h
  · split at h
    · rename_i c
      cases h; cases r1; cases r2
      exact ⟨_, _, rfl, rfl, c, q W H _ .refl R rfl⟩
    · cases h
  · cases h
def fdivM (d e : D) (_ : Sto) : Option D := match d, e with
  | .t (.int i), .t (.int j) => if 0 < j ∧ j < 1073741824 then some (iD (i / j)) else none
  | _, _ => none
theorem o_fdiv : OpR X (binaryOp .FloorDiv) (rM X.K fdivM) := op_of op_fdiv fun W st d e x y H Q z R r1 r2 h q => by
  unfold fdivM at h
  split at h
  · split at h
    · rename_i c
      cases h; cases r1; cases r2
      exact ⟨_, _, rfl, rfl, c, q W H _ .refl R rfl⟩
    · cases h
  · cases h
def powM (d e : D) (_ : Sto) : Option D := match d, e with
  | .t (.int i), .t (.int j) => if 0 ≤ j ∧ j ≤ 1000000 ∧ i.natAbs < 18446744073709551616 then some (iD (i ^ j.toNat)) else none
  | _, _ => none
theorem o_pow : OpR X (binaryOp .Pow) (rM X.K powM) := op_of op_pow fun W st d e x y H Q z R r1 r2 h q => by
  unfold powM at h
  split at h
  · split at h
    · rename_i c
      cases h; cases r1; cases r2
      exact ⟨_, _, rfl, rfl, c, q W H _ .refl R rfl⟩
    · cases h
  · cases h
def negM (d : D) (_ : Sto) : Option D := match d with
  | .t (.int i) => some (iD (-i))
  | _ => none
theorem o_neg : UnR X (unaryOp .USub) (rMu X.K negM) := by
  intro pins s σ H x v Q I rx ⟨W, st, d, R, r1, z, h, q⟩
  unfold negM at h
  split at h
  · cases h; cases r1
    exact un_neg pins s σ H _ v Q I rx ⟨_, rfl, q W H _ .refl R rfl⟩
  · cases h
def cmpI (p : Int → Int → Bool) (d e : D) (_ : Sto) : Option D := match d, e with
  | .t (.int i), .t (.int j) => some (bD (p i j))
  | _, _ => none
theorem cmpI_of {f : Value → Value → Sem Value} {p : Int → Int → Bool} (ho : OpR X f (rI0 fun i j => .bl (p i j))) : OpR X f (rM X.K (cmpI p)) := op_of ho fun W st d e x y H Q z R r1 r2 h q => by
  unfold cmpI at h
  split at h
  · cases h; cases r1; cases r2; exact ⟨_, _, rfl, rfl, q W H _ .refl R rfl⟩
  · cases h
abbrev ltM := cmpI fun i j => decide (i < j)
abbrev leM := cmpI fun i j => decide (i ≤ j)
abbrev gtM := cmpI fun i j => decide (j < i)
abbrev geM := cmpI fun i j => decide (j ≤ i)
theorem o_lt : OpR X (compareOp .Lt) (rM X.K ltM) := cmpI_of op_lt
theorem o_le : OpR X (compareOp .LtE) (rM X.K leM) := cmpI_of op_le
theorem o_gt : OpR X (compareOp .Gt) (rM X.K gtM) := cmpI_of op_gt
theorem o_ge : OpR X (compareOp .GtE) (rM X.K geM) := cmpI_of op_ge

/-! ### + -/
theorem rel_lst {K : PySem.W.Frag} {W : Wd} {H : Hp} {st : Sto} (R : Rl K W st H) {n : Nat} {ds : List D} {v : V} (h : st[n]? = some (SO.lst ds)) (r : RelD K W H (.r n) v) : ∃ a vs, v = .ref a ∧ W.ρ[n]? = some a ∧ H a = some (.lst vs) ∧ RelDs K W H ds vs := by
  obtain ⟨a, e, rfl⟩ := r
  obtain ⟨vs, q1, q2⟩ := R.live n a _ e h
  exact ⟨a, vs, rfl, e, q1, q2⟩
/-- an unlocked list's items -/
def litems (st : Sto) : D → Option (List D)
  | .t (.lst ts) => some (ts.map .t)
  | .t _ => none
  | .x .. => none
  | .r n => match st[n]? with
    | some (.lst ds) => some ds
    | _ => none
theorem litems_rel {K : PySem.W.Frag} {W : Wd} {H : Hp} {st : Sto} (R : Rl K W st H) {d : D} {ds : List D} {v : V} (h : litems st d = some ds) (r : RelD K W H d v) : ∃ a vs, v = .ref a ∧ H a = some (.lst vs) ∧ RelDs K W H ds vs := by
  cases d with
  | x => cases h
  | r n =>
    have h : (match st[n]? with | some (.lst ds) => some ds | _ => none) = some ds := h
    split at h
    · rename_i ds' q
      cases h
      obtain ⟨a, vs, e, _, q1, q2⟩ := rel_lst R q r
      exact ⟨a, vs, e, q1, q2⟩
    · cases h
  | t x =>
    cases x with
    | lst ts =>
      cases h
      obtain ⟨a, vs, e, f, q, rr⟩ := r
      exact ⟨a, vs, e, q, relDs_t rr⟩
    | _ => cases h
def catT (ts us : List T) : Option D := if ts.length + us.length ≤ LIM then some (.t (.tup (ts ++ us))) else none
def catL (d e : D) (st : Sto) : Option D := (litems st d).bind fun ds => (litems st e).bind fun es => if ds.length + es.length ≤ LIM then (plains (ds ++ es)).map fun ts => .t (.lst ts) else none
def addM (d e : D) (st : Sto) : Option D := match d, e with
  | .t (.int i), .t (.int j) => some (iD (i + j))
  | .t (.str x), .t (.str y) => if x.length + y.length ≤ LIM then some (sD (x ++ y)) else none
  | .t (.tup ts), .t (.tup us) => catT ts us
  | d, e => catL d e st
theorem o_add : OpR X (binaryOp .Add) (rM X.K addM) := by
  have ho : OpR X (binaryOp .Add) _ := OpR.or op_add (OpR.or op_add_str (OpR.or op_catA op_cat))
  refine op_of ho fun W st d e x y H Q z R r1 r2 h q => ?_
  unfold addM at h
  split at h
  · cases h; cases r1; cases r2
    exact .inl ⟨_, _, rfl, rfl, q W H _ .refl R rfl⟩
  · split at h
    · rename_i c
      cases h; cases r1; cases r2
      exact .inr (.inl ⟨_, _, rfl, rfl, lim_size c, q W H _ .refl R rfl⟩)
    · cases h
  · unfold catT at h
    split at h
    · rename_i ts us c
      cases h
      obtain ⟨a, vs, rfl, q1, rr1⟩ := id r1
      obtain ⟨b, ws, rfl, q2, rr2⟩ := id r2
      have l1 := relTs_len rr1
      have l2 := relTs_len rr2
      refine .inr (.inr (.inl ⟨a, b, vs, ws, rfl, rfl, q1.sq, q2.sq, lim_size (by omega), fun e => ?_, fun _ e => ?_, fun _ _ p hp => ?_⟩))
      · subst e
        have ts0 : ts = [] := by cases ts with | nil => rfl | cons _ _ => cases l1
        subst ts0
        exact q W H _ .refl R r2
      · subst e
        have us0 : us = [] := by cases us with | nil => rfl | cons _ _ => cases l2
        subst us0
        refine q W H _ .refl R ?_
        rw [List.append_nil]
        exact r1
      · exact q W _ _ (R.more hp) (R.rest hp) ⟨p, _, rfl, Or.inl upd_same, (R.more hp).relTs R _ _ (relTs_append rr1 rr2)⟩
    · cases h
  · unfold catL at h
    cases e1 : litems st d with
    | none => rw [e1] at h; cases h
    | some ds =>
      cases e2 : litems st e with
      | none => rw [e1, e2] at h; cases h
      | some es =>
        rw [e1, e2] at h
        have h : (if ds.length + es.length ≤ LIM then (plains (ds ++ es)).map fun ts => D.t (.lst ts) else none) = some z := h
        split at h
        · rename_i c
          cases e3 : plains (ds ++ es) with
          | none => rw [e3] at h; cases h
          | some ts =>
            rw [e3] at h
            cases h
            obtain ⟨a, vs, rfl, q1, rr1⟩ := litems_rel R e1 r1
            obtain ⟨b, ws, rfl, q2, rr2⟩ := litems_rel R e2 r2
            have l1 := relDs_len rr1
            have l2 := relDs_len rr2
            refine .inr (.inr (.inr ⟨a, b, vs, ws, rfl, rfl, q1, q2, lim_size (by omega), fun p hp => ?_⟩))
            exact q (W.fix p) _ _ (Ext.fix W hp) (R.fix hp) ⟨p, _, rfl, .inr rfl, upd_same, (Ext.fix W hp).relTs R _ _ (relTs_of e3 (relDs_append rr1 rr2))⟩
        · cases h
def iaddM (d e : D) (_ : Sto) : Option D := match d, e with
  | .t (.int i), .t (.int j) => some (iD (i + j))
  | .t (.str x), .t (.str y) => if x.length + y.length ≤ LIM then some (sD (x ++ y)) else none
  | _, _ => none
theorem io_add : OpR X (inplaceOp .Add) (rM X.K iaddM) := by
  have ho : OpR X (inplaceOp .Add) _ := OpR.or iop_add iop_add_str
  refine op_of ho fun W st d e x y H Q z R r1 r2 h q => ?_
  unfold iaddM at h
  split at h
  · cases h; cases r1; cases r2
    exact .inl ⟨_, _, rfl, rfl, q W H _ .refl R rfl⟩
  · split at h
    · rename_i c
      cases h; cases r1; cases r2
      exact .inr ⟨_, _, rfl, rfl, lim_size c, q W H _ .refl R rfl⟩
    · cases h
  · cases h
/-- a tuple many times -/
def repM (d e : D) (_ : Sto) : Option D := match d, e with
  | .t (.tup ts), .t (.int k) => if ts ≠ [] ∧ 2 ≤ k ∧ k ≤ 1000 ∧ ts.length ≤ 1000 then some (.t (.tup (List.replicate k.toNat ts).flatten)) else none
  | _, _ => none
theorem relTs_rep {K : PySem.W.Frag} {F : Addr → Prop} {H : Hp} {ts : List T} {vs : List V} (h : RelTs K F H ts vs) : ∀ k : Nat, RelTs K F H (List.replicate k ts).flatten (List.replicate k vs).flatten
  | 0 => rfl
  | k + 1 => by
    (rw [List.replicate_succ, List.replicate_succ, List.flatten_cons, List.flatten_cons])
    exact relTs_append h (relTs_rep h k)
theorem o_rep : OpR X (binaryOp .Mult) (rM X.K repM) := op_of op_repT fun W st d e x y H Q z R r1 r2 h q => by
  unfold repM at h
  split at h
  · rename_i ts k
    split at h
    · rename_i c
      cases h
      obtain ⟨a, vs, rfl, q1, rr⟩ := r1
      cases r2
      have l1 := relTs_len rr
      refine ⟨a, k, vs, rfl, rfl, q1.sq, fun z => ?_, c.2.1, c.2.2.1, by omega, fun p hp => ?_⟩
      · rw [z] at l1
        cases ts with
        | nil => exact c.1 rfl
        | cons _ _ => cases l1
      · exact q W _ _ (R.more hp) (R.rest hp) ⟨p, _, rfl, Or.inl upd_same, (R.more hp).relTs R _ _ (relTs_rep rr _)⟩
    · cases h
  · cases h

/-! ### == and != -/
mutual
def pyT : T → Option PyData
  | .non => some .none
  | .bl b => some (.bool b)
  | .int i => some (.int i)
  | .str x => some (.str x)
  | .tup ts => (pyTs ts).map .tuple
  | .lst ts => (pyTs ts).map .list
  | .scr ts => (pyTs ts).map .list
  | .glb _ => none
  | .ty _ => none
  | .ins .. => none
  | .dk .. => none
  | .dt .. => none
  | .nt _ => none
def pyTs : List T → Option (List PyData)
  | [] => some []
  | t :: ts => (pyT t).bind fun p => (pyTs ts).map (p :: ·)
end
def pyD (st : Sto) (d : D) : Option PyData := match d with
  | .t x => pyT x
  | .r n => (items st (.r n)).bind fun ds => (plains ds).bind fun ts => (pyTs ts).map .list
  | .x .. => none
mutual
theorem dp_of {K : PySem.W.Frag} {F : Addr → Prop} {H : Hp} : ∀ (t : T) (p : PyData) (v : V), pyT t = some p → RelT K F H t v → Dp K H v p
  | .ins .., p, v, h, r => by cases h
  | .dk .., p, v, h, r => by cases h
  | .dt .., p, v, h, r => by cases h
  | .nt .., p, v, h, r => by cases h
  | .non, p, v, h, r => by cases h; cases r; exact .non
  | .bl b, p, v, h, r => by cases h; cases r; exact .bl b
  | .int b, p, v, h, r => by cases h; cases r; exact .int b
  | .str b, p, v, h, r => by cases h; cases r; exact .str b
  | .tup ts, p, v, h, r => by
    obtain ⟨a, vs, rfl, q, rr⟩ := r
    have h : (pyTs ts).map PyData.tuple = some p := h
    cases e : pyTs ts with
    | none => (rw [e] at h; cases h)
    | some ps =>
      rw [e] at h
      cases h
      exact .tup q.sq (dps_of ts ps vs e rr)
  | .lst ts, p, v, h, r => by
    obtain ⟨a, vs, rfl, f, q, rr⟩ := r
    have h : (pyTs ts).map PyData.list = some p := h
    cases e : pyTs ts with
    | none => (rw [e] at h; cases h)
    | some ps =>
      rw [e] at h
      cases h
      exact .lst (SqL.of q) (dps_of ts ps vs e rr)
  | .scr ts, p, v, h, r => by
    obtain ⟨a, vs, rfl, q, rr⟩ := r
    have h : (pyTs ts).map PyData.list = some p := h
    cases e : pyTs ts with
    | none => (rw [e] at h; cases h)
    | some ps =>
      rw [e] at h
      cases h
      exact .lst q.sq (dps_of ts ps vs e rr)
  | .glb _, p, v, h, r => by cases h
  | .ty _, p, v, h, r => by cases h
theorem dps_of {K : PySem.W.Frag} {F : Addr → Prop} {H : Hp} : ∀ (ts : List T) (ps : List PyData) (vs : List V), pyTs ts = some ps → RelTs K F H ts vs → DpAll K H vs ps
  | [], ps, vs, h, r => by cases h; cases r; exact .nil
  | t :: ts, ps, vs, h, r => by
    obtain ⟨v, u, rfl, r1, r2⟩ := r
    have h : ((pyT t).bind fun p => (pyTs ts).map (p :: ·)) = some ps := h
    cases e : pyT t with
    | none => (rw [e] at h; cases h)
    | some p =>
      rw [e] at h
      have h : (pyTs ts).map (p :: ·) = some ps := h
      cases e2 : pyTs ts with
      | none => rw [e2] at h; cases h
      | some qs =>
        rw [e2] at h
        cases h
        exact .cons (dp_of t p v e r1) (dps_of ts qs u e2 r2)
end
theorem dpD_of {K : PySem.W.Frag} {W : Wd} {H : Hp} {st : Sto} (R : Rl K W st H) {d : D} {p : PyData} {v : V} (h : pyD st d = some p) (r : RelD K W H d v) : Dp K H v p := by
  cases d with
  | t x => exact dp_of x p v h r
  | x => cases h
  | r n =>
    have h : ((items st (.r n)).bind fun ds => (plains ds).bind fun ts => (pyTs ts).map PyData.list) = some p := h
    cases e1 : items st (.r n) with
    | none => rw [e1] at h; cases h
    | some ds =>
      rw [e1] at h
      have h : ((plains ds).bind fun ts => (pyTs ts).map PyData.list) = some p := h
      cases e2 : plains ds with
      | none => rw [e2] at h; cases h
      | some ts =>
        rw [e2] at h
        have h : (pyTs ts).map PyData.list = some p := h
        cases e3 : pyTs ts with
        | none => rw [e3] at h; cases h
        | some ps =>
          rw [e3] at h
          cases h
          have r0 := r
          obtain ⟨a, e4, rfl⟩ := r
          have e1 : (match st[n]? with | some (.lst ds) => some ds | _ => none) = some ds := e1
          split at e1
          · rename_i ds' q
            cases e1
            obtain ⟨vs, q1, q2⟩ := R.live n a _ e4 q
            exact .lst (SqL.of q1) (dps_of ts ps vs e3 (relTs_of e2 q2))
          · cases e1
/-- == by plain values -/
def eqB (d e : D) (st : Sto) : Option Bool := match d, e with
  | .t .non, .t .non => some true
  | .t (.bl x), .t (.bl y) => some (decide (x = y))
  | .t (.int x), .t (.int y) => some (decide (x = y))
  | .t (.str x), .t (.str y) => some (decide (x = y))
  | .t .non, .t (.int _) => some false
  | .t .non, .t (.str _) => some false
  | .t .non, .t (.bl _) => some false
  | .t (.int _), .t .non => some false
  | .t (.str _), .t .non => some false
  | .t (.bl _), .t .non => some false
  | .t (.int _), .t (.str _) => some false
  | .t (.str _), .t (.int _) => some false
  | .t (.bl _), .t (.str _) => some false
  | .t (.str _), .t (.bl _) => some false
  | d, e => (pyD st d).bind fun p => (pyD st e).bind fun q => if (SeqAt.shaped p && SeqAt.shaped q) = true then some (PyData.eqv p q) else none
def eqM (d e : D) (st : Sto) : Option D := (eqB d e st).map bD
def neM (d e : D) (st : Sto) : Option D := (eqB d e st).map fun b => bD (!b)
theorem eqB_rel {K : PySem.W.Frag} {W : Wd} {H : Hp} {st : Sto} (R : Rl K W st H) {d e : D} {b : Bool} {x y : V} (h : eqB d e st = some b) (r1 : RelD K W H d x) (r2 : RelD K W H e y) :
    (scal x y = true ∧ decide (x = y) = b) ∨ ∃ p q, Dp K H x p ∧ Dp K H y q ∧ SeqAt.shaped p = true ∧ SeqAt.shaped q = true ∧ PyData.eqv p q = b := by
  unfold eqB at h
  split at h
  case h_15 =>
    right
    cases e1 : pyD st d with
    | none => rw [e1] at h; cases h
    | some p =>
      cases e2 : pyD st e with
      | none => rw [e1, e2] at h; cases h
      | some q =>
        rw [e1, e2] at h
        have h : (if (SeqAt.shaped p && SeqAt.shaped q) = true then some (PyData.eqv p q) else none) = some b := h
        split at h
        · rename_i c
          rw [Bool.and_eq_true] at c
          exact ⟨p, q, dpD_of R e1 r1, dpD_of R e2 r2, c.1, c.2, Option.some.inj h⟩
        · cases h
  all_goals (left; cases h; cases r1; cases r2; exact ⟨rfl, by first | rfl | simp⟩)
theorem o_eq (hu : X.A.units + 64 < cLine) : OpR X (compareOp .Eq) (rM X.K eqM) := by
  have ho : OpR X (compareOp .Eq) _ := OpR.or op_eq (op_eqD hu)
  refine op_of ho fun W st d e x y H Q z R r1 r2 h q => ?_
  unfold eqM at h
  cases e1 : eqB d e st with
  | none => rw [e1] at h; cases h
  | some b =>
    rw [e1] at h
    cases h
    rcases eqB_rel R e1 r1 r2 with ⟨h1, h2⟩ | ⟨p, k, h1, h2, h3, h4, h5⟩
    · exact .inl ⟨h1, by rw [h2]; exact q W H _ .refl R rfl⟩
    · exact .inr ⟨p, k, h1, h2, h3, h4, by rw [h5]; exact q W H _ .refl R rfl⟩
theorem o_ne (hu : X.A.units + 64 < cLine) : OpR X (compareOp .NotEq) (rM X.K neM) := by
  have ho : OpR X (compareOp .NotEq) _ := OpR.or op_ne (op_neD hu)
  refine op_of ho fun W st d e x y H Q z R r1 r2 h q => ?_
  unfold neM at h
  cases e1 : eqB d e st with
  | none => rw [e1] at h; cases h
  | some b =>
    rw [e1] at h
    cases h
    rcases eqB_rel R e1 r1 r2 with ⟨h1, h2⟩ | ⟨p, k, h1, h2, h3, h4, h5⟩
    · exact .inl ⟨h1, by rw [h2]; exact q W H _ .refl R rfl⟩
    · exact .inr ⟨p, k, h1, h2, h3, h4, by rw [h5]; exact q W H _ .refl R rfl⟩
/-! ### is -/
def isB (d e : D) : Option Bool := match d, e with
  | .t (.bl x), .t (.bl y) => some (decide (x = y))
  | .t .non, .t .non => some true
  | .t (.bl _), .t .non => some false
  | .t (.int _), .t .non => some false
  | .t (.str _), .t .non => some false
  | .t (.tup _), .t .non => some false
  | .t (.lst _), .t .non => some false
  | .r _, .t .non => some false
  | _, _ => none
def isM (d e : D) (_ : Sto) : Option D := (isB d e).map bD
def isntM (d e : D) (_ : Sto) : Option D := (isB d e).map fun b => bD (!b)
theorem isB_rel {K : PySem.W.Frag} {W : Wd} {H : Hp} {d e : D} {b : Bool} {x y : V} (h : isB d e = some b) (r1 : RelD K W H d x) (r2 : RelD K W H e y) :
    (∃ p q, x = .bl p ∧ y = .bl q ∧ decide (p = q) = b) ∨ (y = .non ∧ decide (x = .non) = b) := by
  unfold isB at h
  split at h
  · cases h; cases r1; cases r2; exact .inl ⟨_, _, rfl, rfl, rfl⟩
  · cases h; cases r1; cases r2; exact .inr ⟨rfl, rfl⟩
  · cases h; cases r1; cases r2; exact .inr ⟨rfl, rfl⟩
  · cases h; cases r1; cases r2; exact .inr ⟨rfl, rfl⟩
  · cases h; cases r1; cases r2; exact .inr ⟨rfl, rfl⟩
  · cases h; obtain ⟨a, vs, rfl, _⟩ := r1; cases r2; exact .inr ⟨rfl, rfl⟩
  · cases h; obtain ⟨a, vs, rfl, _⟩ := r1; cases r2; exact .inr ⟨rfl, rfl⟩
  · cases h; obtain ⟨a, _, rfl⟩ := r1; cases r2; exact .inr ⟨rfl, rfl⟩
  · cases h
theorem o_is : OpR X (compareOp .Is) (rM X.K isM) := by
  have ho : OpR X (compareOp .Is) _ := OpR.or op_is_bl op_isN
  refine op_of ho fun W st d e x y H Q z R r1 r2 h q => ?_
  unfold isM at h
  cases e1 : isB d e with
  | none => rw [e1] at h; cases h
  | some b =>
    rw [e1] at h
    cases h
    rcases isB_rel e1 r1 r2 with ⟨p, k, rfl, rfl, h2⟩ | ⟨rfl, h2⟩
    · exact .inl ⟨p, k, rfl, rfl, by rw [h2]; exact q W H _ .refl R rfl⟩
    · exact .inr ⟨rfl, by rw [h2]; exact q W H _ .refl R rfl⟩
theorem o_isnt : OpR X (compareOp .IsNot) (rM X.K isntM) := by
  have ho : OpR X (compareOp .IsNot) _ := OpR.or op_isnot_bl op_notN
  refine op_of ho fun W st d e x y H Q z R r1 r2 h q => ?_
  unfold isntM at h
  cases e1 : isB d e with
  | none => rw [e1] at h; cases h
  | some b =>
    rw [e1] at h
    cases h
    rcases isB_rel e1 r1 r2 with ⟨p, k, rfl, rfl, h2⟩ | ⟨rfl, h2⟩
    · exact .inl ⟨p, k, rfl, rfl, by rw [h2]; exact q W H _ .refl R rfl⟩
    · exact .inr ⟨rfl, by rw [h2]; exact q W H _ .refl R rfl⟩
/-! ### in -/
def tV : T → Option V
  | .non => some .non
  | .bl b => some (.bl b)
  | .int i => some (.int i)
  | .str x => some (.str x)
  | _ => none
def tVs : List D → Option (List V)
  | [] => some []
  | .t x :: r => (tV x).bind fun v => (tVs r).map (v :: ·)
  | .r _ :: _ => none
  | .x .. :: _ => none
theorem tV_rel {K : PySem.W.Frag} {F : Addr → Prop} {H : Hp} {t : T} {v w : V} (h : tV t = some v) (r : RelT K F H t w) : w = v ∧ flatV v = true := by
  cases t <;> cases h <;> cases r <;> exact ⟨rfl, rfl⟩
theorem tVs_rel {K : PySem.W.Frag} {W : Wd} {H : Hp} : ∀ {ds : List D} {vs ws : List V}, tVs ds = some vs → RelDs K W H ds ws → ws = vs ∧ vs.all flatV = true
  | [], vs, ws, h, r => by cases h; cases r; exact ⟨rfl, rfl⟩
  | .r n :: ds, vs, ws, h, r => by cases h
  | .x .. :: ds, vs, ws, h, r => by cases h
  | .t x :: ds, vs, ws, h, r => by
    obtain ⟨w, u, rfl, r1, r2⟩ := r
    have h : ((tV x).bind fun v => (tVs ds).map (v :: ·)) = some vs := h
    cases e : tV x with
    | none => (rw [e] at h; cases h)
    | some v =>
      rw [e] at h
      have h : (tVs ds).map (v :: ·) = some vs := h
      cases e2 : tVs ds with
      | none => rw [e2] at h; cases h
      | some us =>
        rw [e2] at h
        cases h
        obtain ⟨e3, f3⟩ := tV_rel e r1
        obtain ⟨e4, f4⟩ := tVs_rel e2 r2
        subst e3; subst e4
        exact ⟨rfl, by rw [List.all_cons, f3, f4]; rfl⟩
def inB (d e : D) (st : Sto) : Option Bool := match d, e with
  | .t (.str x), .t (.str y) => some (!(Builtin.Str.occurrences y x 0 y.length 1).isEmpty)
  | .t x, e => (tV x).bind fun v => (items st e).bind fun ds => (tVs ds).map fun vs => inV v vs
  | _, _ => none
def inM (d e : D) (st : Sto) : Option D := (inB d e st).map bD
def notInM (d e : D) (st : Sto) : Option D := (inB d e st).map fun b => bD (!b)
theorem inB_rel {K : PySem.W.Frag} {W : Wd} {H : Hp} {st : Sto} (R : Rl K W st H) {d e : D} {b : Bool} {x y : V} (h : inB d e st = some b) (r1 : RelD K W H d x) (r2 : RelD K W H e y) :
    (∃ i j, x = .str i ∧ y = .str j ∧ (!(Builtin.Str.occurrences j i 0 j.length 1).isEmpty) = b) ∨ ∃ p xs, y = .ref p ∧ (SqL K H p xs ∨ SqT K H p xs) ∧ flatV x = true ∧ xs.all flatV = true ∧ inV x xs = b := by
  unfold inB at h
  split at h
  · cases h; cases r1; cases r2; exact .inl ⟨_, _, rfl, rfl, rfl⟩
  · rename_i t _
    right
    cases e1 : tV t with
    | none => rw [e1] at h; cases h
    | some v =>
      cases e2 : items st e with
      | none => rw [e1, e2] at h; cases h
      | some ds =>
        rw [e1, e2] at h
        have h : (tVs ds).map (fun vs => inV v vs) = some b := h
        cases e3 : tVs ds with
        | none => rw [e3] at h; cases h
        | some vs =>
          rw [e3] at h
          cases h
          obtain ⟨a, ws, rfl, sq, rr⟩ := items_seq R e2 r2
          obtain ⟨rfl, f1⟩ := tV_rel e1 r1
          obtain ⟨rfl, f2⟩ := tVs_rel e3 rr
          exact ⟨a, _, rfl, sq, f1, f2, rfl⟩
  · cases h
theorem o_in : OpR X (compareOp .In) (rM X.K inM) := by
  have ho : OpR X (compareOp .In) _ := OpR.or op_in_str op_in_seq
  refine op_of ho fun W st d e x y H Q z R r1 r2 h q => ?_
  unfold inM at h
  cases e1 : inB d e st with
  | none => rw [e1] at h; cases h
  | some b =>
    rw [e1] at h
    cases h
    rcases inB_rel R e1 r1 r2 with ⟨p, k, rfl, rfl, h2⟩ | ⟨p, xs, rfl, h1, h2, h3, h4⟩
    · exact .inl ⟨p, k, rfl, rfl, by rw [h2]; exact q W H _ .refl R rfl⟩
    · exact .inr ⟨p, xs, rfl, h1, h2, h3, by rw [h4]; exact q W H _ .refl R rfl⟩
theorem o_notIn : OpR X (compareOp .NotIn) (rM X.K notInM) := by
  have ho : OpR X (compareOp .NotIn) _ := OpR.or op_notIn_str op_notIn_seq
  refine op_of ho fun W st d e x y H Q z R r1 r2 h q => ?_
  unfold notInM at h
  cases e1 : inB d e st with
  | none => rw [e1] at h; cases h
  | some b =>
    rw [e1] at h
    cases h
    rcases inB_rel R e1 r1 r2 with ⟨p, k, rfl, rfl, h2⟩ | ⟨p, xs, rfl, h1, h2, h3, h4⟩
    · exact .inl ⟨p, k, rfl, rfl, by rw [h2]; exact q W H _ .refl R rfl⟩
    · exact .inr ⟨p, xs, rfl, h1, h2, h3, by rw [h4]; exact q W H _ .refl R rfl⟩
end
end Mi
/-! Mir4 -/
namespace Mi
open L2 PySem PySem.Spec PyProof.Rows
section
variable {X : Cx} {Wx : WX} {a b c e o : Expr} {fa fb f : Env → Sto → Res D} {fs : List (Env → Sto → Res D)} {es : List Expr} {pos p p2 : Pos}

/-! ### subscripts -/
def ixM (d e : D) (st : Sto) : Option D := match d, e with
  | .t (.str x), .t (.int i) => if x.length ≤ LIM then (atI x.cps.toList i).map fun c => sD ⟨#[c]⟩ else none
  | d, .t (.int i) => (items st d).bind fun ds => atI ds i
  | _, _ => none
theorem atI_rel {K : PySem.W.Frag} {W : Wd} {H : Hp} {ds : List D} {vs : List V} {i : Int} {z : D} (r : RelDs K W H ds vs) (h : atI ds i = some z) : ∃ v, atI vs i = some v ∧ RelD K W H z v := by
  unfold atI at h
  cases q : ixN ds.length i with
  | none => rw [q] at h; cases h
  | some j =>
    rw [q] at h
    obtain ⟨v, e1, r1⟩ := relDs_get r (show ds[j]? = some z from h)
    refine ⟨v, ?_, r1⟩
    unfold atI
    rw [relDs_len r, q]
    exact e1
theorem x_ix : IxR X (rM X.K ixM) := by
  intro value slice pins s σ H x y v u Q I rx ry ⟨W, st, d, e, R, r1, r2, z, h, q⟩ hs
  unfold ixM at h
  split at h
  · split at h
    · rename_i t i hl
      cases r1; cases r2
      cases e1 : atI t.cps.toList i with
      | none => rw [e1] at h; cases h
      | some c =>
        rw [e1] at h
        cases h
        exact ix_str value slice pins s σ H _ _ v u Q I rx ry ⟨t, i, c, rfl, rfl, lim_size hl, e1, q W H _ .refl R rfl⟩ hs
    · cases h
  · rename_i i _
    cases r2
    cases e1 : items st d with
    | none => rw [e1] at h; cases h
    | some ds =>
      rw [e1] at h
      obtain ⟨a, vs, rfl, sq, rr⟩ := items_seq R e1 r1
      obtain ⟨w, e2, r3⟩ := atI_rel rr h
      have qq := q W H _ .refl R r3
      rcases sq with sq | sq
      · exact ix_list value slice pins s σ H _ _ v u Q I rx ry ⟨a, vs, i, w, rfl, rfl, sq, e2, qq⟩ hs
      · exact ix_tup value slice pins s σ H _ _ v u Q I rx ry ⟨a, vs, i, w, rfl, rfl, sq, e2, qq⟩ hs
  · cases h
theorem re_ix {g : D → D → Sto → Option D} (hr : IxR X (rM X.K g)) (ha : RE X Wx a fa) (hb : RE X Wx b fb) (hs : PlainIx b := by exact fun _ _ => rfl) : RE X Wx (.Subscript a b pos) (bin g fa fb) :=
  PE.conv (pe_ix hr ha hb hs) fun _ _ _ h => two h
/-! ### slices -/
def cutG {α : Type} (xs : List α) (lo hi : Option Int) : List α := (xs.drop (HT.sIx xs.length 0 lo)).take (HT.sIx xs.length xs.length hi - HT.sIx xs.length 0 lo)
theorem cutG_V (xs : List V) (lo hi : Option Int) : cutG xs lo hi = cutV xs lo hi := rfl
theorem relTs_cut {K : PySem.W.Frag} {F : Addr → Prop} {H : Hp} {ts : List T} {vs : List V} {lo hi : Option Int} (r : RelTs K F H ts vs) : RelTs K F H (cutG ts lo hi) (cutV vs lo hi) := by
  unfold cutG cutV
  rw [relTs_len r]
  exact relTs_take _ (relTs_drop _ r)
def tO (K : PySem.W.Frag) (Wx : WX) (f : Env → Sto → Res (Option Int)) : TO := fun σ H Q => ∃ W env st, Rl K W st H ∧ EnvR K W H env σ ∧
  (f env st).Holds (fun o st' => ∀ W' H', Ext W H W' H' → Rl K W' st' H' → Q o H') (OkX K W H fun c o H' => Wx c o σ H')
abbrev RO (X : Cx) (Wx : WX) (e : Option Expr) (f : Env → Sto → Res (Option Int)) : Prop := PO X e (tO X.K Wx f)
theorem PO.conv {e : Option Expr} {t t' : TO} (h : PO X e t) (g : ∀ σ H Q, t' σ H Q → t σ H Q) : PO X e t' := ⟨fun pins s σ H Q I q => h.run pins s σ H Q I (g σ H Q q)⟩
def oNone (_ : Env) (st : Sto) : Res (Option Int) := .ok none st
def oSome (f : Env → Sto → Res D) (env : Env) (st : Sto) : Res (Option Int) := (f env st).bind fun d st1 => match d with
  | .t (.int i) => .ok (some i) st1
  | _ => .bad
theorem ro_none : RO X Wx none oNone := PO.conv po_none fun σ H Q ⟨W, env, st, R, Ev, h⟩ => h W H .refl R
theorem ro_some (he : RE X Wx e f) : RO X Wx (some e) (oSome f) := by
  refine PO.conv (po_some he) fun σ H Q ⟨W, env, st, R, Ev, h⟩ => ⟨W, env, st, R, Ev, split h (fun d st1 h1 W1 H1 v E1 R1 r1 => ?_) fun C fs st' hx => hx⟩
  split at h1
  · cases r1; exact ⟨_, rfl, h1 W1 H1 E1 R1⟩
  · exact h1.elim
def slM (d : D) (lo hi : Option Int) (st : Sto) : Option D := match d with
  | .t (.tup ts) => some (.t (.tup (cutG ts lo hi)))
  | d => (lsq st d).bind fun ds => (plains ds).map fun ts => .t (.lst (cutG ts lo hi))
def sliceM (f : Env → Sto → Res D) (fl fh : Env → Sto → Res (Option Int)) (env : Env) (st : Sto) : Res D := (f env st).bind fun d st1 => (fl env st1).bind fun lo st2 => (fh env st2).bind fun hi st3 => optR (slM d lo hi st3) st3
theorem sIx_all {n : Nat} {lo hi : Option Int} (h : HT.sIx n 0 lo = 0 ∧ HT.sIx n n hi = n) {α : Type} {xs : List α} (hl : xs.length = n) : cutG xs lo hi = xs := by
  unfold cutG
  rw [hl, h.1, h.2, List.drop_zero, Nat.sub_zero, ← hl, List.take_length]
theorem sl_any : SlR X (fun x lo hi H Q => ∃ W st d, Rl X.K W st H ∧ RelD X.K W H d x ∧ ∃ z, slM d lo hi st = some z ∧ OkD X.K W H Q z st) := by
  intro pins s σ H x v vl vu lo hi sl Q I rx hs pl pu ⟨W, st, d, R, r1, z, h, q⟩
  unfold slM at h
  split at h
  · rename_i ts
    cases h
    obtain ⟨a, vs, rfl, sq, rr⟩ := id r1
    have l := relTs_len rr
    refine sl_tupA pins s σ H _ v vl vu lo hi sl Q I rx hs pl pu ⟨a, vs, rfl, sq.sq, fun hw => ?_, fun _ p hp => ?_⟩
    · refine q W H _ .refl R ?_
      rw [sIx_all hw l.symm]
      exact r1
    · exact q W _ _ (R.more hp) (R.rest hp) ⟨p, _, rfl, Or.inl upd_same, (R.more hp).relTs R _ _ (relTs_cut rr)⟩
  · cases e1 : lsq st d with
    | none => rw [e1] at h; cases h
    | some ds =>
      rw [e1] at h
      have h : (plains ds).map (fun ts => D.t (.lst (cutG ts lo hi))) = some z := h
      cases e2 : plains ds with
      | none => rw [e2] at h; cases h
      | some ts =>
        rw [e2] at h
        cases h
        obtain ⟨a, vs, rfl, nt, rr⟩ := lsq_rel R e1 r1
        exact sl_list pins s σ H _ v vl vu lo hi sl Q I rx hs pl pu ⟨a, vs, rfl, nt, fun p hp => q (W.fix p) _ _ (Ext.fix W hp) (R.fix hp) ⟨p, _, rfl, .inr rfl, upd_same, (Ext.fix W hp).relTs R _ _ (relTs_cut (relTs_of e2 rr))⟩⟩
theorem re_slice {lo hi : Option Expr} {fl fh : Env → Sto → Res (Option Int)} (he : RE X Wx e f) (hl : RO X Wx lo fl) (hh : RO X Wx hi fh) : RE X Wx (.Subscript e (.Slice lo hi none p2) pos) (sliceM f fl fh) := by
  refine PE.conv (pe_slice sl_any he hl hh) fun σ H Q ⟨W, env, st, R, Ev, h⟩ => ⟨W, env, st, R, Ev, split h (fun d st1 h1 W1 H1 v E1 R1 r1 => ?_) fun C fs st' hx => hx⟩
  refine ⟨W1, env, st1, R1, Ev.mono E1 R, split h1 (fun lo st2 h2 W2 H2 E2 R2 => ?_) fun C fs st' hx => hx.mono E1⟩
  refine ⟨W2, env, st2, R2, (Ev.mono E1 R).mono E2 R1, split h2 (fun hi st3 h3 W3 H3 E3 R3 => ?_) fun C fs st' hx => hx.mono (E1.trans E2)⟩
  obtain ⟨z, e1, q⟩ := optR_holds h3
  exact ⟨W3, st3, d, R3, (E2.trans E3).relD R1 r1, z, e1, q.mono (E1.trans (E2.trans E3))⟩

/-! ### built-in functions and types by name -/
def rC (K : PySem.W.Frag) (g : List D → Sto → Option D) : List V → Hp → VK → Prop := fun xs H Q => ∃ W st ds, Rl K W st H ∧ RelDs K W H ds xs ∧ ∃ z, g ds st = some z ∧ OkD K W H Q z st
def callB (g : List D → Sto → Option D) (fs : List (Env → Sto → Res D)) (env : Env) (st : Sto) : Res D := (argsM fs env st).bind fun ds st1 => optR (g ds st1) st1
theorem callB_conv {K : PySem.W.Frag} {g : List D → Sto → Option D} {σ : L2.St} {H : Hp} {Q : VK} (h : tE K Wx (callB g fs) σ H Q) : tCB (rC K g) (tA K Wx (argsM fs)) σ H Q := by
  obtain ⟨W, env, st, R, Ev, h⟩ := h
  refine ⟨W, env, st, R, Ev, split h (fun ds st1 h1 W1 H1 vs E1 R1 r1 => ?_) fun C fs st' hx => hx⟩
  obtain ⟨z, e1, q⟩ := optR_holds h1
  exact ⟨W1, st1, ds, R1, r1, z, e1, q.mono E1⟩
theorem re_callB {x : Str} {id : String} {g : List D → Sto → Option D} (hc : CallR X (.builtin id) (rC X.K g)) (hg : Gl X x) (hm : X.mg x = none) (hv : bootBuiltins x = some (.builtin id)) (ha : RA X Wx (e :: es) (argsM fs)) (hn : x ≠ "__name__" := by decide) (hdb : (x == ("__debug__" : Str)) = false := by decide)
    (he : starEach (e :: es) X.env = (false, eval e X.env) :: starEach es X.env := by rfl) (hpl : (backTo pos (starEach es X.env)).any (·.1) = false := by rfl) : RE X Wx (.Call (.Name x p) (e :: es) [] pos) (callB g fs) :=
  PE.conv (pe_callB hc hg hm hv ha hn hdb he hpl) fun _ _ _ h => callB_conv h
theorem re_callTy {x : Str} {n : String} {g : List D → Sto → Option D} (hc : CallR X (.type n) (rC X.K g)) (hg : Gl X x) (hm : X.mg x = none) (hv : bootBuiltins x = some (.type n)) (ha : RA X Wx (e :: es) (argsM fs)) (hn : x ≠ "__name__" := by decide) (hdb : (x == ("__debug__" : Str)) = false := by decide)
    (he : starEach (e :: es) X.env = (false, eval e X.env) :: starEach es X.env := by rfl) (hpl : (backTo pos (starEach es X.env)).any (·.1) = false := by rfl) : RE X Wx (.Call (.Name x p) (e :: es) [] pos) (callB g fs) :=
  PE.conv (pe_callTy hc hg hm hv ha hn hdb he hpl) fun _ _ _ h => callB_conv h
theorem call_of {fv : Value} {g : List D → Sto → Option D} {r : List V → Hp → VK → Prop} (ho : CallR X fv r)
    (h : ∀ W st ds xs H Q z, Rl X.K W st H → RelDs X.K W H ds xs → g ds st = some z → OkD X.K W H Q z st → r xs H Q) : CallR X fv (rC X.K g) := by
  intro pins s σ H xs us Q I rx ⟨W, st, ds, R, r1, z, e1, q⟩
  exact ho pins s σ H xs us Q I rx (h W st ds xs H Q z R r1 e1 q)
theorem rel1 {K : PySem.W.Frag} {W : Wd} {H : Hp} {d : D} {xs : List V} (r : RelDs K W H [d] xs) : ∃ v, xs = [v] ∧ RelD K W H d v := by
  obtain ⟨v, u, rfl, r1, rfl⟩ := r
  exact ⟨v, rfl, r1⟩
theorem rel2 {K : PySem.W.Frag} {W : Wd} {H : Hp} {d e : D} {xs : List V} (r : RelDs K W H [d, e] xs) : ∃ v w, xs = [v, w] ∧ RelD K W H d v ∧ RelD K W H e w := by
  obtain ⟨v, u, rfl, r1, w, u2, rfl, r2, rfl⟩ := r
  exact ⟨v, w, rfl, r1, r2⟩
def lenB (ds : List D) (st : Sto) : Option D := match ds with
  | [.t (.str x)] => if x.length ≤ LIM then some (iD x.length) else none
  | [d] => (items st d).map fun is => iD is.length
  | _ => none
theorem c_len : CallR X (.builtin "len") (rC X.K lenB) := call_of call_len fun W st ds xs H Q z R r h q => by
  unfold lenB at h
  split at h
  · split at h
    · rename_i x hl
      cases h
      obtain ⟨v, rfl, r1⟩ := rel1 r
      cases r1
      exact ⟨_, _, rfl, ⟨lim_size hl, rfl⟩, q W H _ .refl R rfl⟩
    · cases h
  · rename_i d _
    obtain ⟨v, rfl, r1⟩ := rel1 r
    cases e1 : items st d with
    | none => rw [e1] at h; cases h
    | some is =>
      rw [e1] at h
      cases h
      obtain ⟨a, vs, rfl, sq, rr⟩ := items_seq R e1 r1
      refine ⟨_, is.length, rfl, ?_, q W H _ .refl R rfl⟩
      rcases sq with sq | sq
      · exact .inl ⟨vs, sq, (relDs_len rr).symm⟩
      · exact .inr ⟨vs, sq, (relDs_len rr).symm⟩
  · cases h
def absB (ds : List D) (_ : Sto) : Option D := match ds with
  | [.t (.int i)] => some (iD (if i < 0 then -i else i))
  | _ => none
theorem c_abs : CallR X (.builtin "abs") (rC X.K absB) := call_of call_abs fun W st ds xs H Q z R r h q => by
  unfold absB at h
  split at h
  · cases h; obtain ⟨v, rfl, r1⟩ := rel1 r; cases r1; exact ⟨_, rfl, q W H _ .refl R rfl⟩
  · cases h
def intB (ds : List D) (_ : Sto) : Option D := match ds with
  | [.t (.int i)] => some (iD i)
  | [.t (.bl k)] => some (iD (if k then 1 else 0))
  | _ => none
theorem c_int : CallR X (.type "int") (rC X.K intB) := call_of call_int1 fun W st ds xs H Q z R r h q => by
  unfold intB at h
  split at h
  · cases h; obtain ⟨v, rfl, r1⟩ := rel1 r; cases r1; exact .inl ⟨_, rfl, q W H _ .refl R rfl⟩
  · cases h; obtain ⟨v, rfl, r1⟩ := rel1 r; cases r1; exact .inr ⟨_, rfl, q W H _ .refl R rfl⟩
  · cases h
/-- whole numbers, truth values of a list -/
def intsOf : List D → Option (List Int)
  | [] => some []
  | .t (.int i) :: r => (intsOf r).map (i :: ·)
  | _ => none
def blsOf : List D → Option (List Bool)
  | [] => some []
  | .t (.bl i) :: r => (blsOf r).map (i :: ·)
  | _ => none
theorem intsOf_rel {K : PySem.W.Frag} {W : Wd} {H : Hp} : ∀ {ds : List D} {ns : List Int} {vs : List V}, intsOf ds = some ns → RelDs K W H ds vs → vs = ns.map V.int
  | [], ns, vs, h, r => by cases h; exact r
  | d :: ds, ns, vs, h, r => by
    obtain ⟨v, u, rfl, r1, r2⟩ := r
    unfold intsOf at h
    split at h
    · rename_i heq; cases heq
    · rename_i i r' heq
      cases heq
      cases e : intsOf ds with
      | none => (rw [e] at h; cases h)
      | some ms =>
        rw [e] at h
        cases h
        cases r1
        rw [intsOf_rel e r2]; rfl
    · cases h
theorem blsOf_rel {K : PySem.W.Frag} {W : Wd} {H : Hp} : ∀ {ds : List D} {ns : List Bool} {vs : List V}, blsOf ds = some ns → RelDs K W H ds vs → vs = ns.map V.bl
  | [], ns, vs, h, r => by cases h; exact r
  | d :: ds, ns, vs, h, r => by
    obtain ⟨v, u, rfl, r1, r2⟩ := r
    unfold blsOf at h
    split at h
    · rename_i heq; cases heq
    · rename_i i r' heq
      cases heq
      cases e : blsOf ds with
      | none => (rw [e] at h; cases h)
      | some ms =>
        rw [e] at h
        cases h
        cases r1
        rw [blsOf_rel e r2]; rfl
    · cases h
def allB (ds : List D) (st : Sto) : Option D := match ds with
  | [d] => (lsq st d).bind fun is => (blsOf is).map fun bs => bD (bs.all id)
  | _ => none
def anyB (ds : List D) (st : Sto) : Option D := match ds with
  | [d] => (lsq st d).bind fun is => (blsOf is).map fun bs => bD (bs.any id)
  | _ => none
theorem c_all (hc : X.calm = true) : CallR X (.builtin "all") (rC X.K allB) := call_of (cr_all hc) fun W st ds xs H Q z R r h q => by
  unfold allB at h
  split at h
  · rename_i d
    obtain ⟨v, rfl, r1⟩ := rel1 r
    cases e1 : lsq st d with
    | none => rw [e1] at h; cases h
    | some is =>
      rw [e1] at h
      have h : (blsOf is).map (fun bs => bD (bs.all id)) = some z := h
      cases e2 : blsOf is with
      | none => rw [e2] at h; cases h
      | some bs =>
        rw [e2] at h
        cases h
        obtain ⟨a, vs, rfl, sq, rr⟩ := lsq_rel R e1 r1
        exact ⟨a, bs, rfl, by rw [← blsOf_rel e2 rr]; exact sq, q W H _ .refl R rfl⟩
  · cases h
theorem c_any (hc : X.calm = true) : CallR X (.builtin "any") (rC X.K anyB) := call_of (cr_any hc) fun W st ds xs H Q z R r h q => by
  unfold anyB at h
  split at h
  · rename_i d
    obtain ⟨v, rfl, r1⟩ := rel1 r
    cases e1 : lsq st d with
    | none => rw [e1] at h; cases h
    | some is =>
      rw [e1] at h
      have h : (blsOf is).map (fun bs => bD (bs.any id)) = some z := h
      cases e2 : blsOf is with
      | none => rw [e2] at h; cases h
      | some bs =>
        rw [e2] at h
        cases h
        obtain ⟨a, vs, rfl, sq, rr⟩ := lsq_rel R e1 r1
        exact ⟨a, bs, rfl, by rw [← blsOf_rel e2 rr]; exact sq, q W H _ .refl R rfl⟩
  · cases h
def sumB (ds : List D) (st : Sto) : Option D := match ds with
  | [d] => (lsq st d).bind fun is => (intsOf is).map fun bs => iD bs.sum
  | _ => none
theorem c_sum (hc : X.calm = true) : CallR X (.builtin "sum") (rC X.K sumB) := call_of (cr_sum hc) fun W st ds xs H Q z R r h q => by
  unfold sumB at h
  split at h
  · rename_i d
    obtain ⟨v, rfl, r1⟩ := rel1 r
    cases e1 : lsq st d with
    | none => rw [e1] at h; cases h
    | some is =>
      rw [e1] at h
      have h : (intsOf is).map (fun bs => iD bs.sum) = some z := h
      cases e2 : intsOf is with
      | none => rw [e2] at h; cases h
      | some bs =>
        rw [e2] at h
        cases h
        obtain ⟨a, vs, rfl, sq, rr⟩ := lsq_rel R e1 r1
        exact ⟨a, bs, rfl, by rw [← intsOf_rel e2 rr]; exact sq, q W H _ .refl R rfl⟩
  · cases h
/-- the greatest, the least -/
def top : List Int → Int
  | [] => 0
  | [x] => x
  | x :: y :: r => top ((if x < y then y else x) :: r)
termination_by l => l.length
def bot : List Int → Int
  | [] => 0
  | [x] => x
  | x :: y :: r => bot ((if y < x then y else x) :: r)
termination_by l => l.length
theorem top_mem : ∀ (n : Nat) (l : List Int), l.length = n + 1 → top l ∈ l ∧ ∀ y ∈ l, y ≤ top l
  | 0, [x], _ => by rw [top]; exact ⟨by simp, fun y h => by simp at h; omega⟩
  | n + 1, x :: y :: r, h => by
    rw [top]
    by_cases c : x < y
    · rw [if_pos c]
      obtain ⟨h1, h2⟩ := top_mem n (y :: r) (by simpa using h)
      refine ⟨List.mem_cons_of_mem _ h1, fun z hz => ?_⟩
      have h3 := h2 y List.mem_cons_self
      rcases List.mem_cons.mp hz with e | e
      · omega
      · exact h2 z e
    · rw [if_neg c]
      obtain ⟨h1, h2⟩ := top_mem n (x :: r) (by simpa using h)
      have h3 := h2 x List.mem_cons_self
      refine ⟨?_, fun z hz => ?_⟩
      · rcases List.mem_cons.mp h1 with e | e
        · rw [e]; exact List.mem_cons_self
        · exact List.mem_cons_of_mem _ (List.mem_cons_of_mem _ e)
      · rcases List.mem_cons.mp hz with e | e
        · omega
        · (rcases List.mem_cons.mp e with e | e)
          · omega
          · exact h2 z (List.mem_cons_of_mem _ e)
theorem bot_mem : ∀ (n : Nat) (l : List Int), l.length = n + 1 → bot l ∈ l ∧ ∀ y ∈ l, bot l ≤ y
  | 0, [x], _ => by rw [bot]; exact ⟨by simp, fun y h => by simp at h; omega⟩
  | n + 1, x :: y :: r, h => by
    rw [bot]
    by_cases c : y < x
    · rw [if_pos c]
      obtain ⟨h1, h2⟩ := bot_mem n (y :: r) (by simpa using h)
      refine ⟨List.mem_cons_of_mem _ h1, fun z hz => ?_⟩
      have h3 := h2 y List.mem_cons_self
      rcases List.mem_cons.mp hz with e | e
      · omega
      · exact h2 z e
    · rw [if_neg c]
      obtain ⟨h1, h2⟩ := bot_mem n (x :: r) (by simpa using h)
      have h3 := h2 x List.mem_cons_self
      refine ⟨?_, fun z hz => ?_⟩
      · rcases List.mem_cons.mp h1 with e | e
        · rw [e]; exact List.mem_cons_self
        · exact List.mem_cons_of_mem _ (List.mem_cons_of_mem _ e)
      · rcases List.mem_cons.mp hz with e | e
        · omega
        · (rcases List.mem_cons.mp e with e | e)
          · omega
          · exact h2 z (List.mem_cons_of_mem _ e)
def maxB (ds : List D) (st : Sto) : Option D := match ds with
  | [.t (.int i), .t (.int j)] => some (iD (if j > i then j else i))
  | [d] => (lsq st d).bind fun is => (intsOf is).bind fun bs => if 0 < bs.length then some (iD (top bs)) else none
  | _ => none
def minB (ds : List D) (st : Sto) : Option D := match ds with
  | [.t (.int i), .t (.int j)] => some (iD (if j < i then j else i))
  | [d] => (lsq st d).bind fun is => (intsOf is).bind fun bs => if 0 < bs.length then some (iD (bot bs)) else none
  | _ => none
theorem c_max (hc : X.calm = true) : CallR X (.builtin "max") (rC X.K maxB) := call_of (CallR.or (call_max2 hc) (cr_max hc)) fun W st ds xs H Q z R r h q => by
  unfold maxB at h
  split at h
  · cases h; obtain ⟨v, w, rfl, r1, r2⟩ := rel2 r; cases r1; cases r2; exact .inl ⟨_, _, rfl, q W H _ .refl R rfl⟩
  · rename_i d
    obtain ⟨v, rfl, r1⟩ := rel1 r
    cases e1 : lsq st d with
    | none => rw [e1] at h; cases h
    | some is =>
      rw [e1] at h
      have h : (intsOf is).bind (fun bs => if 0 < bs.length then some (iD (top bs)) else none) = some z := h
      cases e2 : intsOf is with
      | none => rw [e2] at h; cases h
      | some bs =>
        rw [e2] at h
        have h : (if 0 < bs.length then some (iD (top bs)) else none) = some z := h
        split at h
        · rename_i hl
          cases h
          obtain ⟨a, vs, rfl, sq, rr⟩ := lsq_rel R e1 r1
          refine .inr ⟨a, bs, rfl, by rw [← intsOf_rel e2 rr]; exact sq, hl, fun m hm hu => ?_⟩
          obtain ⟨k1, k2⟩ := top_mem (bs.length - 1) bs (by omega)
          have em : m = top bs := Int.le_antisymm (k2 m hm) (hu _ k1)
          rw [em]
          exact q W H _ .refl R rfl
        · cases h
  · cases h
theorem c_min (hc : X.calm = true) : CallR X (.builtin "min") (rC X.K minB) := call_of (CallR.or (call_min2 hc) (cr_min hc)) fun W st ds xs H Q z R r h q => by
  unfold minB at h
  split at h
  · cases h; obtain ⟨v, w, rfl, r1, r2⟩ := rel2 r; cases r1; cases r2; exact .inl ⟨_, _, rfl, q W H _ .refl R rfl⟩
  · rename_i d
    obtain ⟨v, rfl, r1⟩ := rel1 r
    cases e1 : lsq st d with
    | none => rw [e1] at h; cases h
    | some is =>
      rw [e1] at h
      have h : (intsOf is).bind (fun bs => if 0 < bs.length then some (iD (bot bs)) else none) = some z := h
      cases e2 : intsOf is with
      | none => rw [e2] at h; cases h
      | some bs =>
        rw [e2] at h
        have h : (if 0 < bs.length then some (iD (bot bs)) else none) = some z := h
        split at h
        · rename_i hl
          cases h
          obtain ⟨a, vs, rfl, sq, rr⟩ := lsq_rel R e1 r1
          refine .inr ⟨a, bs, rfl, by rw [← intsOf_rel e2 rr]; exact sq, hl, fun m hm hu => ?_⟩
          obtain ⟨k1, k2⟩ := bot_mem (bs.length - 1) bs (by omega)
          have em : m = bot bs := Int.le_antisymm (hu _ k1) (k2 m hm)
          rw [em]
          exact q W H _ .refl R rfl
        · cases h
  · cases h
/-- tuple(xs), list(xs) -/
def tupB (ds : List D) (st : Sto) : Option D := match ds with
  | [.t (.tup ts)] => some (.t (.tup ts))
  | [d] => (lsq st d).bind fun is => (plains is).map fun ts => .t (.tup ts)
  | _ => none
theorem c_tup : CallR X (.type "tuple") (rC X.K tupB) := call_of call_tuple_of fun W st ds xs H Q z R r h q => by
  unfold tupB at h
  split at h
  · rename_i ts
    cases h
    obtain ⟨v, rfl, r1⟩ := rel1 r
    obtain ⟨a, vs, rfl, sq, rr⟩ := id r1
    exact ⟨a, vs, rfl, .inr ⟨sq.sq, q W H _ .refl R r1⟩⟩
  · rename_i d _
    obtain ⟨v, rfl, r1⟩ := rel1 r
    cases e1 : lsq st d with
    | none => rw [e1] at h; cases h
    | some is =>
      rw [e1] at h
      have h : (plains is).map (fun ts => D.t (.tup ts)) = some z := h
      cases e2 : plains is with
      | none => rw [e2] at h; cases h
      | some ts =>
        rw [e2] at h
        cases h
        obtain ⟨a, vs, rfl, sq, rr⟩ := lsq_rel R e1 r1
        have rt := relTs_of e2 rr
        exact ⟨a, vs, rfl, .inl ⟨sq, fun p hp => q W _ _ (R.more hp) (R.rest hp) ⟨p, _, rfl, Or.inl upd_same, (R.more hp).relTs R _ _ rt⟩⟩⟩
  · cases h
def lstB (ds : List D) (st : Sto) : Option D := match ds with
  | [d] => (items st d).bind fun is => (plains is).map fun ts => .t (.lst ts)
  | _ => none
theorem c_lst : CallR X (.type "list") (rC X.K lstB) := call_of call_list_of fun W st ds xs H Q z R r h q => by
  unfold lstB at h
  split at h
  · rename_i d
    obtain ⟨v, rfl, r1⟩ := rel1 r
    cases e1 : items st d with
    | none => rw [e1] at h; cases h
    | some is =>
      rw [e1] at h
      have h : (plains is).map (fun ts => D.t (.lst ts)) = some z := h
      cases e2 : plains is with
      | none => rw [e2] at h; cases h
      | some ts =>
        rw [e2] at h
        cases h
        obtain ⟨a, vs, rfl, sq, rr⟩ := items_seq R e1 r1
        have rt := relTs_of e2 rr
        exact ⟨a, vs, rfl, sq, fun p hp => q (W.fix p) _ _ (Ext.fix W hp) (R.fix hp) ⟨p, _, rfl, .inr rfl, upd_same, (Ext.fix W hp).relTs R _ _ rt⟩⟩
  · cases h
/-! ### isinstance -/
def tyName (st : Sto) (d : D) : Option String := match d with
  | .t .non => some "NoneType"
  | .t (.bl _) => some "bool"
  | .t (.int _) => some "int"
  | .t (.str _) => some "str"
  | .t (.tup _) => some "tuple"
  | .t (.lst _) => some "list"
  | .t (.scr _) => some "list"
  | .t (.dk ..) => some "dict"
  | .t (.dt ..) => some "dict"
  | .r n => match st[n]? with
    |  some (.lst _) => some "list"
    | some (.dk ..) => some "dict"
    | some (.dt _) => some "dict"
    | _ => none
  | _ => none
def isaB (s n : String) : Option Bool := if n = "int" ∨ n = "str" ∨ n = "bool" ∨ n = "tuple" ∨ n = "list" ∨ n = "dict" ∨ n = "bytes" then some (decide (s = n) || (decide (s = "bool") && decide (n = "int"))) else none
def isaAll (s : String) : List T → Option Bool
  | [] => some false
  | .ty n :: r => (isaB s n).bind fun b => (isaAll s r).map fun c => b || c
  | _ => none
def isiB (ds : List D) (st : Sto) : Option D := match ds with
  | [d, .t (.ty n)] => (tyName st d).bind fun s => (isaB s n).map bD
  | [d, .t (.tup ts)] => (tyName st d).bind fun s => (isaAll s ts).map bD
  | _ => none
theorem isaB_ok {s n : String} {b : Bool} (h : isaB s n = some b) (hs : s = "NoneType" ∨ s = "bool" ∨ s = "int" ∨ s = "str" ∨ s = "tuple" ∨ s = "list" ∨ s = "dict") : kitB s n = some b := by
  unfold isaB at h
  split at h
  · rename_i hn
    cases h
    rcases hs with rfl | rfl | rfl | rfl | rfl | rfl | rfl <;> rcases hn with rfl | rfl | rfl | rfl | rfl | rfl | rfl <;> decide +kernel
  · cases h
theorem tyName_rel {K : PySem.W.Frag} {W : Wd} {H : Hp} {st : Sto} (R : Rl K W st H) {d : D} {s : String} {v : V} (h : tyName st d = some s) (r : RelD K W H d v) :
    (s = "NoneType" ∨ s = "bool" ∨ s = "int" ∨ s = "str" ∨ s = "tuple" ∨ s = "list" ∨ s = "dict") ∧ TyX K H v (.type s) := by
  cases d with
  | x => cases h
  | r n =>
    obtain ⟨a, e, rfl⟩ := r
    have h : (match st[n]? with | some (.lst _) => some "list" | some (.dk ..) => some "dict" | some (.dt _) => some "dict" | _ => none) = some s := h
    split at h
    · rename_i ds' q
      cases h
      obtain ⟨vs, q1, q2⟩ := R.live n a _ e q
      exact ⟨by simp, .base (.lst q1)⟩
    · rename_i lk kvs q
      cases h
      obtain ⟨vs, q1, q2⟩ := R.live n a _ e q
      refine ⟨by simp, ?_⟩
      cases lk with
      | true => rw [if_pos rfl] at q1; obtain ⟨o, q1⟩ := q1; exact .fDict q1
      | false => rw [if_neg (by decide)] at q1; exact .base (.dK q1)
    · rename_i kvs q
      cases h
      obtain ⟨vs, q1, q2⟩ := R.live n a _ e q
      exact ⟨by simp, .base (.dT q1)⟩
    · cases h
  | t x =>
    cases x with
    | non => cases h; cases r; exact ⟨by simp, .base .non⟩
    | bl b => cases h; cases r; exact ⟨by simp, .base (.bl b)⟩
    | int b => cases h; cases r; exact ⟨by simp, .base (.int b)⟩
    | str b => cases h; cases r; exact ⟨by simp, .base (.str b)⟩
    | tup ts =>
      cases h
      obtain ⟨a, vs, rfl, sq, rr⟩ := r
      refine ⟨by simp, ?_⟩
      rcases sq with sq | ⟨o, sq⟩ | ⟨o, its, n, hk, hc, _⟩
      · exact .base (.tup sq)
      · exact .fTuple sq
      · exact .kTuple hk hc
    | lst ts =>
      cases h
      obtain ⟨a, vs, rfl, _, sq, rr⟩ := r
      exact ⟨by simp, .base (.lst sq)⟩
    | scr ts =>
      cases h
      obtain ⟨a, vs, rfl, q, rr⟩ := r
      refine ⟨by simp, ?_⟩
      rcases q with ⟨o, q⟩ | ⟨o, its, n, hk, hc, _⟩
      · exact .base (.frz q)
      · exact .kList hk hc
    | dk ks ts =>
      cases h
      obtain ⟨a, vs, rfl, _, q, _⟩ := r
      exact ⟨by simp, q.elim fun o q => .fDict q⟩
    | dt ks ts =>
      cases h
      obtain ⟨a, vs, rfl, _, q, _⟩ := r
      exact ⟨by simp, .base (.dT q)⟩
    | _ => cases h
theorem isaAll_ok {K : PySem.W.Frag} {F : Addr → Prop} {H : Hp} {s : String} (hs : s = "NoneType" ∨ s = "bool" ∨ s = "int" ∨ s = "str" ∨ s = "tuple" ∨ s = "list" ∨ s = "dict") : ∀ {ts : List T} {vs : List V} {b : Bool}, isaAll s ts = some b → RelTs K F H ts vs →
    ∃ us, Paired ClsV vs us ∧ PySem.W.kitAny K (.type s) us = some b
  | [], vs, b, h, r => by cases h; cases r; exact ⟨[], .nil, kitAny_nil⟩
  | t :: ts, vs, b, h, r => by
    obtain ⟨v, u, rfl, r1, r2⟩ := r
    cases t with
    | ty n =>
      cases r1
      have h : ((isaB s n).bind fun b => (isaAll s ts).map fun c => b || c) = some b := h
      cases e1 : isaB s n with
      | none => rw [e1] at h; cases h
      | some k =>
        rw [e1] at h
        have h : ((isaAll s ts).map fun c => k || c) = some b := h
        cases e2 : isaAll s ts with
        | none => rw [e2] at h; cases h
        | some c =>
          rw [e2] at h
          cases h
          obtain ⟨us, p1, p2⟩ := isaAll_ok hs e2 r2
          refine ⟨.type n :: us, .cons (.ty n) p1, kitAny_cons (kit_ty (isaB_ok e1 hs)) (fun hk => ?_) (fun hk => ?_)⟩
          · rw [hk]; exact p2
          · rw [hk]; rfl
    | _ => cases h
theorem call_isiF : CallR X (.builtin "isinstance") (fun xs H Q => ∃ (x : V) (tp : Addr) (ob : Obj) (cs : List V) (t : Value) (ws : List Value) (b : Bool), xs = [x, .ref tp] ∧ H tp = some (.frz ob (.tup cs)) ∧ Paired ClsV cs ws ∧ TyX X.K H x t ∧ PySem.W.kitAny X.K t ws = some b ∧ Q (.bl b) H) := by
  intro  pins s σ H xs us Q I r h
  obtain ⟨x, tp, ob, cs, t, ws, b, rfl, hT, k, ty, e, q⟩ := h
  obtain  ⟨u1, u2, rfl, r1, r2⟩ := vals2 r
  cases  (show u2 = Value.ref tp from r2)
  obtain  ⟨P, Z, p, hx⟩ := kit_of I r1 ty
  obtain ⟨_, _, its, rv, o, h1, h2, n, h3⟩ := (show ObjOk X.prog X.w H s.heap tp (.frz ob (.tup cs)) from I.hok tp _ hT)
  have e3 := ClsV.all k rv
  subst e3
  obtain ⟨oc, od, dt, sl⟩ := o
  simp only at h2 h3
  subst h2 h3
  exact  PySem.W.kia_tup Z I.kIn p h1 e hx fun tk => ⟨.bl b, H, I.tok tk, rfl, q⟩
theorem c_isi : CallR X (.builtin "isinstance") (rC X.K isiB) := call_of (CallR.or call_isi (CallR.or call_isiT (CallR.or call_isiK call_isiF))) fun W st ds xs H Q z R r h q => by
  unfold isiB at h
  split at h
  · rename_i d n
    obtain ⟨v, w, rfl, r1, r2⟩ := rel2 r
    cases r2
    cases e1 : tyName st d with
    | none => rw [e1] at h; cases h
    | some s =>
      rw [e1] at h
      have h : (isaB s n).map bD = some z := h
      cases e2 : isaB s n with
      | none => rw [e2] at h; cases h
      | some b =>
        rw [e2] at h
        cases h
        obtain ⟨hs, ty⟩ := tyName_rel R e1 r1
        exact .inl ⟨v, .ty n, _, _, b, rfl, .ty n, ty, kit_ty (isaB_ok e2 hs), q W H _ .refl R rfl⟩
  · rename_i d ts
    obtain ⟨v, w, rfl, r1, r2⟩ := rel2 r
    cases e1 : tyName st d with
    | none => rw [e1] at h; cases h
    | some s =>
      rw [e1] at h
      have h : (isaAll s ts).map bD = some z := h
      cases e2 : isaAll s ts with
      | none => rw [e2] at h; cases h
      | some b =>
        rw [e2] at h
        cases h
        obtain ⟨hs, ty⟩ := tyName_rel R e1 r1
        obtain ⟨a, vs, rfl, sq, rr⟩ := r2
        obtain ⟨us, p1, p2⟩ := isaAll_ok hs e2 rr
        rcases sq with sq | ⟨ob, sq⟩ | ⟨o, its, n, hk, hc, hd, hz, hv⟩
        · exact .inr (.inl ⟨v, a, vs, _, us, b, rfl, sq, p1, ty, p2, q W H _ .refl R rfl⟩)
        · exact .inr (.inr (.inr ⟨v, a, ob, vs, _, us, b, rfl, sq, p1, ty, p2, q W H _ .refl R rfl⟩))
        · have ev := ClsV.all p1 hv
          obtain ⟨oc, od, dt, sl⟩ := o
          simp only at hc hd
          subst hc hd
          exact .inr (.inr (.inl ⟨v, a, od, us, n, sl, _, b, rfl, by rw [hk, ← ev], ty, p2, q W H _ .refl R rfl⟩))
  · cases h
end
end Mi
/-! Mir5 -/
namespace Mi
open L2 PySem PySem.Spec PyProof.Rows
section
variable {X : Cx} {Wx : WX} {a b c e o : Expr} {fa fb f fo fi : Env → Sto → Res D} {fs : List (Env → Sto → Res D)} {es : List Expr} {pos p p2 : Pos}

/-! ### methods of lists and texts -/
def rMt (K : PySem.W.Frag) (g : D → List D → Sto → Option (D × Sto)) : V → List V → Hp → VK → Prop := fun x xs H Q => ∃ W st d ds, Rl K W st H ∧ RelD K W H d x ∧ RelDs K W H ds xs ∧ ∃ z, g d ds st = some z ∧ OkD K W H Q z.1 z.2
def tyOk (n : String) (st : Sto) (d : D) : Bool := match d with
  | .t (.str _) => decide (n = "str")
  | .t (.lst _) => decide (n = "list")
  | .t (.scr _) => decide (n = "list")
  | .r m => decide (n = "list") && (items st (.r m)).isSome
  | _ => false
theorem tyOk_rel {K : PySem.W.Frag} {W : Wd} {H : Hp} {st : Sto} (R : Rl K W st H) {n : String} {d : D} {v : V} (h : tyOk n st d = true) (r : RelD K W H d v) : tyV K n v H := by
  unfold tyOk at h
  split at h
  · cases r
    have h2 : n = "str" := of_decide_eq_true h
    exact h2
  · obtain ⟨a, vs, rfl, _, q, rr⟩ := r
    exact .inl ⟨of_decide_eq_true h, vs, SqL.of q⟩
  · obtain ⟨a, vs, rfl, q, rr⟩ := r
    exact .inl ⟨of_decide_eq_true h, vs, q.sq⟩
  · rw [Bool.and_eq_true] at h
    cases e1 : items st (.r _) with
    | none => rw [e1] at h; cases h.2
    | some ds =>
      obtain ⟨a, vs, rfl, sq, rr⟩ := lsq_rel R (show lsq st (.r _) = some ds from e1) r
      exact .inl ⟨of_decide_eq_true h.1, vs, sq⟩
  · cases h
def optS (o : Option (D × Sto)) : Res D := match o with
  | some z => .ok z.1 z.2
  | none => .bad
def methM (n : String) (g : D → List D → Sto → Option (D × Sto)) (fo : Env → Sto → Res D) (fs : List (Env → Sto → Res D)) (env : Env) (st : Sto) : Res D := (fo env st).bind fun d st1 =>
  if tyOk n st1 d = true then (argsM fs env st1).bind fun ds st2 => optS (g d ds st2) else .bad
theorem optS_holds {o : Option (D × Sto)} {A : D → Sto → Prop} {B : Addr → List (Str × T) → Sto → Prop} (h : (optS o).Holds A B) : ∃ z, o = some z ∧ A z.1 z.2 := by
  cases o with
  | none => exact h.elim
  | some z => exact ⟨z, rfl, h⟩
variable {name : Str} {apos cpos : Pos} {id n : String} {g : D → List D → Sto → Option (D × Sto)}
theorem re_bm (pa : PlainAttrs n) (slot : Slot n name id) (hty : typeOf (.builtin id) = pure (.type "method_descriptor")) (hm : MtR X id (rMt X.K g)) (ho : RE X Wx o fo) (ha : RA X Wx (e :: es) (argsM fs))
    (hbase : attributeBase o name X.env (eval o X.env) = eval o X.env := by rfl) (hfew : ((backTo cpos (starEach (e :: es) X.env)).all (fun x => !x.1) && (backToKw cpos (keywordEach [] X.env)).all (fun x => x.1.isSome) && decide ((e :: es).length + ([] : List Keyword).length + (if ([] : List Keyword).isEmpty then 0 else 1) < 30)) = true := by rfl) (hline : (apos.endLine == cpos.line) = true := by rfl)
    (hs : starEach (e :: es) X.env = (false, eval e X.env) :: starEach es X.env := by rfl) (hplain : (backTo cpos (starEach es X.env)).any (·.1) = false := by rfl) :
    RE X Wx (.Call (.Attribute o name apos) (e :: es) [] cpos) (methM n g fo fs) := by
  refine PE.conv (pe_bm pa slot hty hm ho ha hbase hfew hline hs hplain) fun σ H Q ⟨W, env, st, R, Ev, h⟩ => ⟨W, env, st, R, Ev, split h (fun d st1 h1 W1 H1 v E1 R1 r1 => ?_) fun C fs st' hx => hx⟩
  split at h1
  · rename_i ht
    refine ⟨tyOk_rel R1 ht r1, W1, env, st1, R1, Ev.mono E1 R, Mi.split h1 (fun ds st2 h2 W2 H2 vs E2 R2 r2 => ?_) fun C fs st' hx => hx.mono E1⟩
    obtain ⟨z, e1, q⟩ := optS_holds h2
    exact ⟨W2, st2, d, ds, R2, E2.relD R1 r1, r2, z, e1, q.mono (E1.trans E2)⟩
  · exact h1.elim
theorem re_bm0 (pa : PlainAttrs n) (slot : Slot n name id) (hty : typeOf (.builtin id) = pure (.type "method_descriptor")) (hm : MtR X id (rMt X.K g)) (ho : RE X Wx o fo)
    (hbase : attributeBase o name X.env (eval o X.env) = eval o X.env := by rfl) (hline : (apos.endLine == cpos.line) = true := by rfl) : RE X Wx (.Call (.Attribute o name apos) [] [] cpos) (methM n g fo []) := by
  refine PE.conv (pe_bm0 pa slot hty hm ho hbase hline) fun σ H Q ⟨W, env, st, R, Ev, h⟩ => ⟨W, env, st, R, Ev, split h (fun d st1 h1 W1 H1 v E1 R1 r1 => ?_) fun C fs st' hx => hx⟩
  split at h1
  · rename_i ht
    refine ⟨tyOk_rel R1 ht r1, ?_⟩
    obtain ⟨z, e1, q⟩ := optS_holds (show (optS (g d [] st1)).Holds _ _ from h1)
    exact ⟨W1, st1, d, [], R1, r1, rfl, z, e1, q.mono E1⟩
  · exact h1.elim
/-- l.append(x) -/
def appG (d : D) (ds : List D) (st : Sto) : Option (D × Sto) := match d, ds with
  | .r n, [x] => match st[n]? with
    | some (.lst xs) => if xs.length < LIM then some (.t .non, st.set n (.lst (xs ++ [x]))) else none
    | _ => none
  | _, _ => none
theorem m_append : MtR X "list.append" (rMt X.K appG) := by
  intro pins s σ H x xs v us Q I rx rs ⟨W, st, d, ds, R, r1, r2, z, h, q⟩
  unfold appG at h
  split at h
  · rename_i n y
    split at h
    · rename_i ys hn
      split at h
      · rename_i hl
        cases h
        obtain ⟨w, rfl, r3⟩ := rel1 r2
        obtain ⟨p, vs, rfl, hp, hH, rr⟩ := rel_lst R hn r1
        refine mt_append pins s σ H _ _ v us Q I rx rs ⟨p, vs, w, rfl, rfl, hH, ?_, ?_⟩
        · rw [relDs_len rr]; exact lim_lt (Nat.le_of_lt hl)
        · exact q W _ _ (Ext.put hp hH) (R.put (ds := ys) hp hH (relDs_append rr ⟨w, [], rfl, r3, rfl⟩)) rfl
      · cases h
    · cases h
  · cases h
/-- l.extend(xs) -/
def extG (d : D) (ds : List D) (st : Sto) : Option (D × Sto) := match d, ds with
  | .r n, [x] => match st[n]? with
    | some (.lst xs) => (litems st x).bind fun ys => if xs.length + ys.length ≤ LIM then some (.t .non, st.set n (.lst (xs ++ ys))) else none
    | _ => none
  | _, _ => none
theorem m_extend : MtR X "list.extend" (rMt X.K extG) := by
  intro pins s σ H x xs v us Q I rx rs ⟨W, st, d, ds, R, r1, r2, z, h, q⟩
  unfold extG at h
  split at h
  · rename_i n y
    split at h
    · rename_i ys hn
      cases e1 : litems st y with
      | none => rw [e1] at h; cases h
      | some zs =>
        rw [e1] at h
        have h : (if ys.length + zs.length ≤ LIM then some (D.t .non, st.set n (.lst (ys ++ zs))) else none) = some z := h
        split at h
        · rename_i hl
          cases h
          obtain ⟨w, rfl, r3⟩ := rel1 r2
          obtain ⟨p, vs, rfl, hp, hH, rr⟩ := rel_lst R hn r1
          obtain ⟨p2, ws, rfl, hH2, rr2⟩ := litems_rel R e1 r3
          refine mt_extend pins s σ H _ _ v us Q I rx rs ⟨p, p2, vs, ws, rfl, rfl, hH, hH2, ?_, ?_⟩
          · rw [relDs_len rr, relDs_len rr2]; exact lim_size hl
          · exact q W _ _ (Ext.put hp hH) (R.put (ds := ys) hp hH (relDs_append rr rr2)) rfl
        · cases h
    · cases h
  · cases h
/-- l.pop() -/
def popG (d : D) (ds : List D) (st : Sto) : Option (D × Sto) := match d, ds with
  | .r n, [] => match st[n]? with
    | some (.lst xs) => (xs[xs.length - 1]?).map fun y => (y, st.set n (.lst xs.dropLast))
    | _ => none
  | _, _ => none
theorem m_pop : MtR X "list.pop" (rMt X.K popG) := by
  intro pins s σ H x xs v us Q I rx rs ⟨W, st, d, ds, R, r1, r2, z, h, q⟩
  unfold popG at h
  split at h
  · rename_i n
    split at h
    · rename_i ys hn
      cases e1 : ys[ys.length - 1]? with
      | none => rw [e1] at h; cases h
      | some y =>
        rw [e1] at h
        cases h
        obtain rfl : xs = [] := r2
        obtain ⟨p, vs, rfl, hp, hH, rr⟩ := rel_lst R hn r1
        obtain ⟨w, e2, r3⟩ := relDs_get rr e1
        refine mt_pop pins s σ H _ _ v us Q I rx rs ⟨p, vs, w, rfl, rfl, hH, by rw [relDs_len rr]; exact e2, ?_⟩
        have E : Ext W H W (upd H p (.lst vs.dropLast)) := Ext.put hp hH
        exact q W _ _ E (R.put (ds := ys) hp hH (relDs_dropLast rr)) (E.relD R r3)
    · cases h
  · cases h
/-- l[i] = x -/
def setItM (fo fi f : Env → Sto → Res D) (env : Env) (st : Sto) : Out := (f env st).out env fun x s => (fo env s).out env fun d s1 => (fi env s1).out env fun i s2 => match d, i with
  | .r n, .t (.int k) => match s2[n]? with
    | some (.lst xs) => match ixN xs.length k with
      | some j => .nx env (s2.set n (.lst (xs.set j x)))
      | none => .bad
    | _ => .bad
  | _, _ => .bad
theorem rs_setItem {i : Expr} {tpos : Pos} (ho : RE X Wx o fo) (hi : RE X Wx i fi) (he : RE X Wx e f) (hs : swapsWithSole [.Subscript o i tpos] e pos.line X.env = pure false := by rfl) (hw : swappedStores [.Subscript o i tpos] e X.env = pure none := by rfl)
    (h1 : (assignEach [.Subscript o i tpos] X.env).map (·.2) = [assign (.Subscript o i tpos) X.env] := by rfl)
    (ha : ∀ v, assign (.Subscript o i tpos) X.env v = (do let ov ← holding [v] (eval o X.env); let iv ← holding [v, ov] (eval i X.env); standAt tpos; holding [v, ov, iv] (setItem ov iv v); release [v, ov, iv] []) := by intro _; rfl) : RS X Wx (.Assign [.Subscript o i tpos] e pos) (setItM fo fi f) := by
  refine PS.conv (ps_asg he (pg_sub ho hi set_list ha) hs hw h1) fun E σ H ⟨W, env, st, R, Ev, h⟩ => ⟨W, env, st, R, Ev, out_split h Ev R fun x s h1 W1 H1 v E1 R1 r1 => ?_⟩
  have Ev1 := Ev.mono E1 R
  refine ⟨W1, env, s, R1, Ev1, out_split (Out.Holds.mono h1 E1) Ev1 R1 fun d s1 h2 W2 H2 w E2 R2 r2 => ?_⟩
  have Ev2 := Ev1.mono E2 R1
  refine ⟨W2, env, s1, R2, Ev2, out_split (Out.Holds.mono h2 E2) Ev2 R2 fun i s2 h3 W3 H3 u E3 R3 r3 => ?_⟩
  split at h3
  · rename_i n k
    split at h3
    · rename_i xs hn
      split at h3
      · rename_i j hj
        cases r3
        obtain ⟨p, vs, e4, hp, hH, rr⟩ := rel_lst R3 hn (E3.relD R2 r2)
        subst e4
        refine ⟨p, vs, k, j, rfl, rfl, hH, by rw [relDs_len rr]; exact hj, ?_⟩
        have E4 : Ext W3 H3 W3 (upd H3 p (.lst (vs.set j v))) := Ext.put hp hH
        exact h3 W3 σ _ (E3.trans E4) (R3.put (ds := xs) hp hH (relDs_set j rr (E3.relD R2 (E2.relD R1 r1)))) ((Ev2.mono E3 R2).mono E4 R3)
      · exact h3.elim
    · exact h3.elim
  · exact h3.elim

/-! ### comprehensions -/
def wipeE (env : Env) : List Nat → Env
  | [] => env
  | v :: vs => (wipeE env vs).set v none
theorem wipeE_len (env : Env) : ∀ vs : List Nat, (wipeE env vs).length = env.length
  | [] => rfl
  | v :: vs => by unfold wipeE; rw [List.length_set, wipeE_len env vs]
theorem wipeE_some {env : Env} {i : Nat} {x : D} : ∀ {vs : List Nat}, (wipeE env vs)[i]? = some (some x) → env[i]? = some (some x) ∧ i ∉ vs
  | [], h => ⟨h, by simp⟩
  | v :: vs, h => by
    unfold wipeE at h
    by_cases hi : v = i
    · subst hi
      by_cases hv : v < (wipeE env vs).length
      · (rw [List.getElem?_set_self hv] at h; cases h)
      · (rw [List.getElem?_eq_none (by simpa using hv)] at h; cases h)
    · (rw [List.getElem?_set_ne hi] at h)
      obtain ⟨h1, h2⟩ := wipeE_some h
      (exact ⟨h1, by simp only [List.mem_cons, not_or]; exact ⟨fun e => hi e.symm, h2⟩⟩)
theorem EnvR.wipe {K : PySem.W.Frag} {W : Wd} {H : Hp} {env : Env} {σ : L2.St} (h : EnvR K W H env σ) (vs : List Nat) : EnvR K W H (wipeE env vs) (wipe σ vs) := by
  refine ⟨by rw [wipe_length, wipeE_len]; exact h.len, fun i d q => ?_⟩
  obtain ⟨h1, h2⟩ := wipeE_some q
  obtain ⟨v, e, r⟩ := h.get i d h1
  exact ⟨v, by rw [wipe_out h2]; exact e, r⟩
theorem wipe_in {σ : L2.St} {i : Nat} (hl : i < σ.length) : ∀ {vs : List Nat}, i ∈ vs → (wipe σ vs)[i]? = some none
  | v :: vs, h => by
    unfold wipe
    by_cases e : v = i
    · subst e; exact List.getElem?_set_self (by rw [wipe_length]; exact hl)
    · rw [List.getElem?_set_ne e]
      exact wipe_in hl ((List.mem_cons.mp h).resolve_left fun z => e z.symm)
theorem Agree.wipe {vs : List Nat} {σ σ' : L2.St} (h : Agree vs (L2.wipe σ vs) σ') : L2.wipe σ' vs = L2.wipe σ vs := by
  apply List.ext_getElem?
  intro i
  have hl : σ'.length = σ.length := by rw [h.1, wipe_length]
  by_cases hi : i ∈ vs
  · by_cases hb : i < σ.length
    · rw [wipe_in (by omega) hi, wipe_in hb hi]
    · rw [List.getElem?_eq_none (by rw [wipe_length]; omega), List.getElem?_eq_none (by rw [wipe_length]; omega)]
  · rw [wipe_out hi]
    exact h.2 i hi
def lcI (ga : D → Env → Option Env) (gt : Env → Sto → Res Bool) (fe : Env → Sto → Res D) (it : ItM) (env0 : Env) : Nat → Nat → Sto → List D → Option (List D × Sto)
  | 0, i, st, acc => match it.nth st i with
    | some none => some (acc, st)
    | _ => none
  | m + 1, i, st, acc => match it.nth st i with
    | some none => some (acc, st)
    | some (some d) => match ga d env0 with
      | some env1 => match gt env1 st with
        | .ok true st1 => match fe env1 st1 with
          | .ok z st2 => if acc.length < LIM then lcI ga gt fe it env0 m (i + 1) st2 (acc ++ [z]) else none
          | _ => none
        | .ok false st1 => lcI ga gt fe it env0 m (i + 1) st1 acc
        | _ => none
      | none => none
    | none => none
/-- [..]: a plain list; a list that will be changed -/
def lcM (us : List Nat) (fi : Env → Sto → Res ItM) (ga : D → Env → Option Env) (gt : Env → Sto → Res Bool) (fe : Env → Sto → Res D) (env : Env) (st : Sto) : Res D := (fi env st).bind fun it s =>
  match lcI ga gt fe it (wipeE env us) it.most 0 s [] with
  | some (acc, s2) => optR ((plains acc).map fun ts => .t (.lst ts)) s2
  | none => .bad
def lcN (us : List Nat) (fi : Env → Sto → Res ItM) (ga : D → Env → Option Env) (gt : Env → Sto → Res Bool) (fe : Env → Sto → Res D) (env : Env) (st : Sto) : Res D := (fi env st).bind fun it s =>
  match lcI ga gt fe it (wipeE env us) it.most 0 s [] with
  | some (acc, s2) => .ok (.r s2.length) (s2 ++ [.lst acc])
  | none => .bad
def W0 : WX := fun _ _ _ _ => False
/-- the world within a comprehension: the new list at L is nobody's -/
structure LcW (K : PySem.W.Frag) (W1 : Wd) (H1 : Hp) (L : Addr) (W : Wd) (st : Sto) (H : Hp) (acc : List D) (vs : List V) : Prop where
  E : Ext W1 H1 W H
  R : Rl K W st H
  at_ : H L = some (.lst vs)
  nr : L ∉ W.ρ
  nF : ¬ W.F L
  rr : RelDs K W H acc vs
theorem LcW.step {K : PySem.W.Frag} {W1 W W' : Wd} {H1 H H' : Hp} {L : Addr} {st st' : Sto} {acc : List D} {vs : List V} (w : LcW K W1 H1 L W st H acc vs) (E : Ext W H W' H') (R : Rl K W' st' H') : LcW K W1 H1 L W' st' H' acc vs := by
  refine ⟨w.E.trans E, R, E.keep _ _ w.at_ w.nr, fun hm => ?_, fun hm => ?_, E.relDs w.R w.rr⟩
  · rcases E.new _ hm with h | h
    · exact w.nr h
    · rw [w.at_] at h; cases h
  · rcases E.nF _ hm with h | h
    · exact w.nF h
    · rw [w.at_] at h; cases h
theorem LcW.put {K : PySem.W.Frag} {W1 W : Wd} {H1 H : Hp} {L : Addr} {st : Sto} {acc : List D} {vs : List V} {z : D} {y : V} (w : LcW K W1 H1 L W st H acc vs) (hL : H1 L = none) (r : RelD K W H z y) : LcW K W1 H1 L W st (upd H L (.lst (vs ++ [y]))) (acc ++ [z]) (vs ++ [y]) := by
  have k : KeepT W.F H W.F (upd H L (.lst (vs ++ [y]))) := ⟨fun _ h => h, fun a xs f q => by rw [upd_ne (fun e => w.nF (by rw [← e]; exact f))]; exact q, fun a xs q => by
    rw [upd_ne (fun e => by subst e; rw [w.at_] at q; cases q)]; exact q, fun a o xs q => by
    rw [upd_ne (fun e => by subst e; rw [w.at_] at q; cases q)]; exact q, fun a xs q => by
    rw [upd_ne (fun e => by subst e; rw [w.at_] at q; cases q)]; exact q⟩
  have R : Rl K W st (upd H L (.lst (vs ++ [y]))) := w.R.keep k rfl (fun a ha => upd_ne fun e => w.nr (by rw [← e]; exact ha)) w.R.sep fun a ha => by
    obtain ⟨xs, q⟩ := w.R.fz a ha
    exact ⟨xs, by rw [upd_ne (fun e => w.nF (by rw [← e]; exact ha))]; exact q⟩
  refine ⟨⟨w.E.pre, w.E.new, w.E.fF, w.E.nF, fun a u q hm => by rw [upd_ne (ne_of_none q hL)]; exact w.E.keep a u q hm, fun a u q => ?_, fun a o kvs q => by rw [upd_ne (ne_of_none q hL)]; exact w.E.lk a o kvs q⟩, R, upd_same, w.nr, w.nF, ?_⟩
  · obtain ⟨u', q'⟩ := w.E.there a u q
    exact ⟨u', by rw [upd_ne (ne_of_none q hL)]; exact q'⟩
  · exact k.relDs (List.prefix_refl _) (relDs_append w.rr ⟨y, [], rfl, r, rfl⟩)
/-- the core: from any world the turns lead to the end -/
theorem lc_run {K : PySem.W.Frag} {tg : TG} {tt : TT} {te : TE} {us : List Nat} {ga : D → Env → Option Env} {gt : Env → Sto → Res Bool} {fe : Env → Sto → Res D} {σ : L2.St} {W1 : Wd} {H1 : Hp} {J : It} {it : ItM} {env : Env} {s : Sto} {Q : VK}
    (hg : tg = tG K us ga) (ht : tt = tT K W0 gt) (he : te = tE K W0 fe) (R1 : Rl K W1 s H1) (Ev : EnvR K W1 H1 env σ) (j : JOk K J it W1 H1) {acc' : List D} {s' : Sto} (hr : lcI ga gt fe it (wipeE env us) it.most 0 s [] = some (acc', s'))
    (fin : ∀ L W H vs, H1 L = none → LcW K W1 H1 L W s' H acc' vs → Q (.ref L) H) :
    ∀ D, H1 D = none → ∃ Wn : Nat → Nat → Hp → Prop, (∃ m, Wn 0 m (upd H1 D (.lst []))) ∧ ∀ i m H, Wn i m H →
      (J.stop i H ∧ Q (.ref D) H) ∨ (J.go i H ∧ ∃ Nx : Hp → Prop, (∀ H', Nx H' → ∃ m', m' < m ∧ Wn (i + 1) m' H') ∧ ∀ x H', J.yld i H x H' → tg x (wipe σ us) H' fun σ2 H2 => wipe σ2 us = wipe σ us ∧ tt σ2 H2 fun b H3 => if b = true then te σ2 H3 fun y H4 => ∃ acc, H4 D = some (.lst acc) ∧ acc.length < sizeLine ∧ Nx (upd H4 D (.lst (acc ++ [y]))) else Nx H3) := by
  subst hg ht he
  intro L hL
  refine ⟨fun i m H => ∃ W st acc vs, LcW K W1 H1 L W st H acc vs ∧ lcI ga gt fe it (wipeE env us) m i st acc = some (acc', s'), ⟨it.most, W1, s, [], [], ⟨R1.more hL, R1.rest hL, upd_same, fun hm => ?_, fun hf => ?_, rfl⟩, hr⟩, ?_⟩
  · obtain ⟨u, q⟩ := R1.mem hm; rw [hL] at q; cases q
  · obtain ⟨u, q⟩ := R1.fz _ hf; rw [hL] at q; cases q
  rintro i m H ⟨W, st, acc, vs, w, h⟩
  obtain ⟨j1, j2⟩ := j W H st i w.E w.R
  have stop : it.nth st i = some none → lcI ga gt fe it (wipeE env us) m i st acc = some (acc, st) := fun q => by
    cases m with
    | zero => unfold lcI; rw [q]
    | succ m => unfold lcI; rw [q]
  cases q : it.nth st i with
  | none =>
    exfalso
    cases m with
    | zero => unfold lcI at h; rw [q] at h; cases h
    | succ m => unfold lcI at h; rw [q] at h; cases h
  | some od =>
    cases od with
    | none =>
      rw [stop q] at h
      cases h
      exact .inl ⟨j1 q, fin L W H vs hL w⟩
    | some d =>
      cases m with
      | zero => exfalso; unfold lcI at h; rw [q] at h; cases h
      | succ m =>
        obtain ⟨jg, jy⟩ := j2 d q
        refine .inr ⟨jg, fun H' => ∃ W st acc vs, LcW K W1 H1 L W st H' acc vs ∧ lcI ga gt fe it (wipeE env us) m (i + 1) st acc = some (acc', s'), fun H' h => ⟨m, Nat.lt_succ_self m, h⟩, fun x H3 hy => ?_⟩
        obtain ⟨W3, E3, R3, r3⟩ := jy x H3 hy
        have w3 := w.step E3 R3
        unfold lcI at h
        simp only [q] at h
        cases q2 : ga d (wipeE env us) with
        | none => rw [q2] at h; cases h
        | some env1 =>
          simp only [q2] at h
          refine ⟨W3, wipeE env us, st, d, env1, R3, (Ev.mono w3.E R1).wipe us, r3, q2, fun σ3 Ev3 ag => ⟨ag.wipe, W3, env1, st, R3, Ev3, ?_⟩⟩
          cases q3 : gt env1 st with
          | bad => simp only [q3] at h; cases h
          | exc C x y => simp only [q3] at h; cases h
          | ok k st1 =>
            intro W4 H4 E4 R4
            have w4 := w3.step E4 R4
            cases k with
            | false =>
              simp only [q3] at h
              exact ite_ff ⟨W4, st1, acc, vs, w4, h⟩
            | true =>
              simp only [q3] at h
              refine ite_tt ⟨W4, env1, st1, R4, Ev3.mono E4 R3, ?_⟩
              cases q4 : fe env1 st1 with
              | bad => simp only [q4] at h; cases h
              | exc C x y => simp only [q4] at h; cases h
              | ok z st2 =>
                simp only [q4] at h
                split at h
                · rename_i hl
                  intro W5 H5 y E5 R5 r5
                  have w5 := w4.step E5 R5
                  exact ⟨vs, w5.at_, by rw [relDs_len w5.rr]; exact lim_lt (Nat.le_of_lt hl), W5, st2, acc ++ [z], vs ++ [y], w5.put hL r5, h⟩
                · cases h
theorem LcW.fixed {K : PySem.W.Frag} {W1 W : Wd} {H1 H : Hp} {L : Addr} {st : Sto} {acc : List D} {vs : List V} (w : LcW K W1 H1 L W st H acc vs) (hL : H1 L = none) : Ext W1 H1 (W.fix L) H ∧ Rl K (W.fix L) st H ∧ KeepT W.F H (W.fix L).F H := by
  have k : KeepT W.F H (W.fix L).F H := ⟨fun _ h => .inl h, fun _ _ _ q => q, fun _ _ q => q, fun _ _ _ q => q, fun _ _ q => q⟩
  refine ⟨⟨w.E.pre, w.E.new, fun a h => .inl (w.E.fF a h), fun a h => ?_, w.E.keep, w.E.there, w.E.lk⟩, ?_, k⟩
  · rcases h with h | h
    · exact w.E.nF a h
    · rw [h]; exact .inr hL
  · exact w.R.keep k rfl (fun _ _ => rfl) (fun a ha h => h.elim (w.R.sep a ha) fun e => w.nr (by rw [← e]; exact ha)) fun a ha => by
      rcases ha with ha | rfl
      · exact w.R.fz a ha
      · exact ⟨_, w.at_⟩
theorem LcW.added {K : PySem.W.Frag} {W1 W : Wd} {H1 H : Hp} {L : Addr} {st : Sto} {acc : List D} {vs : List V} (w : LcW K W1 H1 L W st H acc vs) (hL : H1 L = none) : Ext W1 H1 (W.add L) H ∧ Rl K (W.add L) (st ++ [.lst acc]) H := by
  have k : KeepT W.F H (W.add L).F H := ⟨fun _ h => h, fun _ _ _ q => q, fun _ _ q => q, fun _ _ _ q => q, fun _ _ q => q⟩
  have pre : W.ρ <+: (W.add L).ρ := List.prefix_append _ _
  refine ⟨⟨w.E.pre.trans pre, fun a h => ?_, w.E.fF, w.E.nF, w.E.keep, w.E.there, w.E.lk⟩, ?_, ?_, fun n a o h1 h2 => ?_, fun a ha h => ?_, w.R.fz⟩
  · (rcases List.mem_append.mp h with h | h)
    · exact w.E.new a h
    · rw [List.mem_singleton] at h; rw [h]; exact .inr hL
  · show (W.ρ ++ [L]).length = _
    rw [List.length_append, List.length_append, w.R.len]; rfl
  · show (W.ρ ++ [L]).Nodup
    rw [List.nodup_append]
    exact ⟨w.R.nd, by simp, fun a ha b hb e => by rw [List.mem_singleton] at hb; subst hb; subst e; exact w.nr ha⟩
  · have h1 : (W.ρ ++ [L])[n]? = some a := h1
    by_cases hn : n < W.ρ.length
    · rw [List.getElem?_append_left hn] at h1
      rw [List.getElem?_append_left (by rw [← w.R.len]; exact hn)] at h2
      have q := w.R.live n a o h1 h2
      exact k.soOk pre rfl q
    · rw [List.getElem?_append_right (by omega)] at h1
      rw [List.getElem?_append_right (by rw [← w.R.len]; omega)] at h2
      have hz : n - W.ρ.length = 0 := by
        cases e : n - W.ρ.length with
        | zero => rfl
        | succ k => rw [e] at h1; simp at h1
      rw [hz] at h1
      rw [← w.R.len, hz] at h2
      have e1 : L = a := by simpa using h1
      have e2 : SO.lst acc = o := by simpa using h2
      subst e1; subst e2
      exact ⟨vs, w.at_, k.relDs pre w.rr⟩
  · (rcases List.mem_append.mp ha with ha | ha)
    · exact w.R.sep a ha h
    · rw [List.mem_singleton] at ha; subst ha; exact w.nF h
variable {elt tg iter : Expr} {ifs : List Expr} {scope : Scope} {own : List (Str × Nat)} {us : List Nat} {ga : D → Env → Option Env} {gt : Env → Sto → Res Bool} {fe : Env → Sto → Res D} {fit : Env → Sto → Res ItM}
abbrev RTs (X : Cx) (ifs : List Expr) (gt : Env → Sto → Res Bool) : Prop := PTs X ifs (tT X.K W0 gt)
def yesM (_ : Env) (st : Sto) : Res Bool := .ok true st
theorem rts_nil : RTs X [] yesM := ⟨fun pins s σ H Q I ⟨W, env, st, R, Ev, h⟩ => pts_nil.run pins s σ H Q I (h W H .refl R)⟩
theorem rts_one (h : RT X W0 c gt) : RTs X [c] gt := pts_one h
theorem re_lc (hc : X.calm = true) (hN : X.N.Nodup) (hi : RI X Wx tg iter fit) (ok : BlkOk X.N X.env.scope scope own)
    (hg : ∀ (s : Shared) (H : Hp) (C : Addr) (cl : List (Str × Addr)) (fp : List Addr), RG (X.blk s H scope (compEnvC scope cl C X.env) fp) (own.map (·.2)) tg ga) (ht : ∀ (s : Shared) (H : Hp) (C : Addr) (cl : List (Str × Addr)) (fp : List Addr), RTs (X.blk s H scope (compEnvC scope cl C X.env) fp) ifs gt)
    (he : ∀ (s : Shared) (H : Hp) (C : Addr) (cl : List (Str × Addr)) (fp : List Addr), RE (X.blk s H scope (compEnvC scope cl C X.env) fp) W0 elt fe) (hs : ∀ x, foldedSetIterable iter X.env x = pure x := by intro _; rfl) :
    RE X Wx (.ListComp elt [⟨tg, iter, ifs, 0⟩] scope pos) (lcM (own.map (·.2)) fit ga gt fe) := by
  refine PE.conv (pe_lc (g := tG X.K (own.map (·.2)) ga) (tt := tT X.K W0 gt) (te := tE X.K W0 fe) hc hN hi ok hg ht he hs) fun σ H Q ⟨W, env, st, R, Ev, h⟩ => ⟨W, env, st, R, Ev, split h (fun it s h1 W1 H1 J E1 R1 j => ?_) fun C fs st' hx => hx⟩
  split at h1
  · rename_i acc s2 hr
    obtain ⟨z, e1, q⟩ := optR_holds h1
    cases e2 : plains acc with
    | none => rw [e2] at e1; cases e1
    | some ts =>
      rw [e2] at e1
      cases e1
      refine lc_run rfl rfl rfl R1 (Ev.mono E1 R) j hr fun L W2 H2 vs hL w => ?_
      obtain ⟨a1, a2, a3⟩ := w.fixed hL
      exact q _ H2 _ (E1.trans a1) a2 ⟨L, vs, rfl, .inr rfl, w.at_, a3.relTs _ _ (relTs_of e2 w.rr)⟩
  · exact h1.elim
theorem re_lcN (hc : X.calm = true) (hN : X.N.Nodup) (hi : RI X Wx tg iter fit) (ok : BlkOk X.N X.env.scope scope own)
    (hg : ∀ (s : Shared) (H : Hp) (C : Addr) (cl : List (Str × Addr)) (fp : List Addr), RG (X.blk s H scope (compEnvC scope cl C X.env) fp) (own.map (·.2)) tg ga) (ht : ∀ (s : Shared) (H : Hp) (C : Addr) (cl : List (Str × Addr)) (fp : List Addr), RTs (X.blk s H scope (compEnvC scope cl C X.env) fp) ifs gt)
    (he : ∀ (s : Shared) (H : Hp) (C : Addr) (cl : List (Str × Addr)) (fp : List Addr), RE (X.blk s H scope (compEnvC scope cl C X.env) fp) W0 elt fe) (hs : ∀ x, foldedSetIterable iter X.env x = pure x := by intro _; rfl) :
    RE X Wx (.ListComp elt [⟨tg, iter, ifs, 0⟩] scope pos) (lcN (own.map (·.2)) fit ga gt fe) := by
  refine PE.conv (pe_lc (g := tG X.K (own.map (·.2)) ga) (tt := tT X.K W0 gt) (te := tE X.K W0 fe) hc hN hi ok hg ht he hs) fun σ H Q ⟨W, env, st, R, Ev, h⟩ => ⟨W, env, st, R, Ev, split h (fun it s h1 W1 H1 J E1 R1 j => ?_) fun C fs st' hx => hx⟩
  split at h1
  · rename_i acc s2 hr
    refine lc_run rfl rfl rfl R1 (Ev.mono E1 R) j hr fun L W2 H2 vs hL w => ?_
    obtain ⟨a1, a2⟩ := w.added hL
    exact h1 _ H2 _ (E1.trans a1) a2 ⟨L, by
      show (W2.ρ ++ [L])[s2.length]? = some L
      rw [← w.R.len, List.getElem?_append_right (Nat.le_refl _), Nat.sub_self]; rfl, rfl⟩
  · exact h1.elim
/-- x = [..] -/
theorem rs_setLc {i : Nat} {y : Str} {py spos : Pos} (hc : X.calm = true) (hN : X.N.Nodup) (hy : X.N[i]? = some y) (hyl : X.env.scope.names.lookup y = some .local)
    (hsw : swapsWith (.ListComp elt [⟨tg, iter, ifs, 0⟩] scope pos) (some (.Name y py)) spos.line X.env = pure true) (hi : RI X Wx tg iter fit) (ok : BlkOk X.N X.env.scope scope own)
    (hg : ∀ (s : Shared) (H : Hp) (C : Addr) (cl : List (Str × Addr)) (fp : List Addr), RG (X.blk s H scope (compEnvC scope cl C X.env) fp) (own.map (·.2)) tg ga) (ht : ∀ (s : Shared) (H : Hp) (C : Addr) (cl : List (Str × Addr)) (fp : List Addr), RTs (X.blk s H scope (compEnvC scope cl C X.env) fp) ifs gt)
    (he : ∀ (s : Shared) (H : Hp) (C : Addr) (cl : List (Str × Addr)) (fp : List Addr), RE (X.blk s H scope (compEnvC scope cl C X.env) fp) W0 elt fe) (hs : ∀ x, foldedSetIterable iter X.env x = pure x := by intro _; rfl) :
    RS X Wx (.Assign [.Name y py] (.ListComp elt [⟨tg, iter, ifs, 0⟩] scope pos) spos) (setM i (lcM (own.map (·.2)) fit ga gt fe)) := by
  refine PS.conv (ps_setLc (g := tG X.K (own.map (·.2)) ga) (tt := tT X.K W0 gt) (te := tE X.K W0 fe) hc hN hy hyl hsw hi ok hg ht he hs) fun E σ H ⟨W, env, st, R, Ev, h⟩ => ?_
  have hh := out_split h Ev R (A := fun d s => Out.Holds X.K Wx E W H (.nx (env.set i (some d)) s)) fun d s q => q
  refine ⟨W, env, st, R, Ev, split hh (fun it s h1 W1 H1 J E1 R1 j => ?_) fun C fs st' hx => hx⟩
  split at h1
  · rename_i acc s2 hr
    obtain ⟨z, e1, q⟩ := optR_holds h1
    cases e2 : plains acc with
    | none => rw [e2] at e1; cases e1
    | some ts =>
      rw [e2] at e1
      cases e1
      refine lc_run (Q := fun x H1 => gName _ x σ H1 E.nx) rfl rfl rfl R1 (Ev.mono E1 R) j hr fun L W2 H2 vs hL w => ?_
      obtain ⟨a1, a2, a3⟩ := w.fixed hL
      exact q _ _ H2 (E1.trans a1) a2 (((Ev.mono E1 R).mono a1 R1).set i ⟨L, vs, rfl, .inr rfl, w.at_, a3.relTs _ _ (relTs_of e2 w.rr)⟩)
  · exact h1.elim
theorem rs_setLcN {i : Nat} {y : Str} {py spos : Pos} (hc : X.calm = true) (hN : X.N.Nodup) (hy : X.N[i]? = some y) (hyl : X.env.scope.names.lookup y = some .local)
    (hsw : swapsWith (.ListComp elt [⟨tg, iter, ifs, 0⟩] scope pos) (some (.Name y py)) spos.line X.env = pure true) (hi : RI X Wx tg iter fit) (ok : BlkOk X.N X.env.scope scope own)
    (hg : ∀ (s : Shared) (H : Hp) (C : Addr) (cl : List (Str × Addr)) (fp : List Addr), RG (X.blk s H scope (compEnvC scope cl C X.env) fp) (own.map (·.2)) tg ga) (ht : ∀ (s : Shared) (H : Hp) (C : Addr) (cl : List (Str × Addr)) (fp : List Addr), RTs (X.blk s H scope (compEnvC scope cl C X.env) fp) ifs gt)
    (he : ∀ (s : Shared) (H : Hp) (C : Addr) (cl : List (Str × Addr)) (fp : List Addr), RE (X.blk s H scope (compEnvC scope cl C X.env) fp) W0 elt fe) (hs : ∀ x, foldedSetIterable iter X.env x = pure x := by intro _; rfl) :
    RS X Wx (.Assign [.Name y py] (.ListComp elt [⟨tg, iter, ifs, 0⟩] scope pos) spos) (setM i (lcN (own.map (·.2)) fit ga gt fe)) := by
  refine PS.conv (ps_setLc (g := tG X.K (own.map (·.2)) ga) (tt := tT X.K W0 gt) (te := tE X.K W0 fe) hc hN hy hyl hsw hi ok hg ht he hs) fun E σ H ⟨W, env, st, R, Ev, h⟩ => ?_
  have hh := out_split h Ev R (A := fun d s => Out.Holds X.K Wx E W H (.nx (env.set i (some d)) s)) fun d s q => q
  refine ⟨W, env, st, R, Ev, split hh (fun it s h1 W1 H1 J E1 R1 j => ?_) fun C fs st' hx => hx⟩
  split at h1
  · rename_i acc s2 hr
    refine lc_run (Q := fun x H1 => gName _ x σ H1 E.nx) rfl rfl rfl R1 (Ev.mono E1 R) j hr fun L W2 H2 vs hL w => ?_
    obtain ⟨a1, a2⟩ := w.added hL
    exact h1 _ _ H2 (E1.trans a1) a2 (((Ev.mono E1 R).mono a1 R1).set i ⟨L, by
      show (W2.ρ ++ [L])[s2.length]? = some L
      rw [← w.R.len, List.getElem?_append_right (Nat.le_refl _), Nat.sub_self]; rfl, rfl⟩)
  · exact h1.elim
end
end Mi
/-! Mir6 -/
namespace Mi
open L2 PySem PySem.Spec PyProof.Rows

/-! ### defs: a promise kept wherever nothing is being shown by repr -/
structure FnG (P : Program) (w : World) (K : PySem.W.Frag) (mg : Str → Option Value) (base : Heap) (k : Nat) (f : Addr) (fd : FuncData) (ps : List Str) (sp : Sp) : Prop where
  count : ∀ vs H Q E, sp vs H Q E → vs.length = ps.length
  go : ∀ (A : Around) (outer : List PySem.Env) (s : Shared) (H : Hp) (args : Args) (us : List Value) (vs : List V) (Q : VK) (E : XK),
    Room k A → A.guards = some [] → Env0 P w K mg base A outer s H → BindsTo s fd args (ps.zip us) → Vals vs us → sp vs H Q E →
    codeAny (model P w) A (.call (.ref f) args) (CR (L2.CX P w) outer P w H s Q E) s
theorem FnG.mono {P : Program} {w : World} {K : PySem.W.Frag} {mg : Str → Option Value} {base : Heap} {j k : Nat} {f : Addr} {fd : FuncData} {ps : List Str} {sp : Sp} (F : FnG P w K mg base j f fd ps sp) (h : j ≤ k) : FnG P w K mg base k f fd ps sp :=
  ⟨F.count, fun A outer s H args us vs Q E room => F.go A outer s H args us vs Q E (room.mono h)⟩
section
variable {P : Program} {w : World}  {K : PySem.W.Frag}  {mg : Str → Option Value}  {base : Heap}
/-- a def of the text keeps its promise if its body does -/
theorem def_ok {x qual : Str} {st : Stmt} {f : Addr} {fd : FuncData} {N ps : List Str} {k : Nat} {sp : Sp} (F : Fun K x qual st f fd) (S : FnScope N ps (defScope st)) (cnt : ∀ vs H Q E, sp vs H Q E → vs.length = ps.length)
    (body : ∀ (cd : Value) (A : Around) (outer : List PySem.Env) (s : Shared) (H : Hp) (vs : List V) (Q : VK) (E : XK), Room k (A.deeper (envOfC qual (defScope st) s.heap.objs.size f cd)) → A.guards = some [] → sp vs H Q E →
      ∃ t, PSs (cxOf (L2.CX P w) P w K mg base N qual (defScope st) f cd A outer s H E) (defBody st) t ∧ t ⟨fun _ H' => Q .non H', Q, fun _ _ => False, fun _ _ => False⟩ (L2.start N vs) H) : FnG P w K mg base (k + 1) f fd ps sp := by
  obtain ⟨oc, od, kV, doc, pm, an, cd, ct, osl, rfl, look, code⟩ := F.ex
  refine ⟨cnt, ?_⟩
  intro A outer s H args us vs Q E room gd e0 bnd rel ask
  have many := cnt vs H Q E ask
  have stay : ∀ b o, base.get? b = some o → s.heap.get? b = some o := fun b o q => (e0.bs b o q).left
  have inK : K.In s.heap := e0.mod.kin.keeps stay
  have places : ∀ y ∈ ps.zip us, (defScope st).names.lookup y.1 = some .local ∨
      ((defScope st).names.lookup y.1 = some .cell ∧ ((cellsFrom (s.heap.objs.size + 1) (defScope st).names []).lookup y.1).isSome = true) := by
    intro y hy
    have hm : y.1 ∈ ps := (List.of_mem_zip (a := y.1) (b := y.2) hy).left
    rcases S.par y.1 hm with q | q
    · exact Or.inl q
    · exact Or.inr ⟨q, PySem.W.cellsFrom_some _ _ _ (Or.inl q)⟩
  refine codeAny_call_function room.depth (inK f _ look) rfl
    S.co S.gen rfl (PySem.W.codeRec_of inK code) (bnd _ _ _ _ ?_)
  refine wpAny_newFunctionEnv_cells S.kind places ?_
  intro env he s1 x
  subst he
  refine ⟨(e0.mod.nolimit.keeps stay).keeps x.toInCall.keep, ?_⟩
  refine codeAny_func ?_
  obtain ⟨t, ht, hq⟩ := body cd A outer s H vs Q E (room.deeper _) gd ask
  have I0 := inv_start (CX := L2.CX P w) (E := E) S room.hd e0 many rel x
  have run := ht.run [] s1 (L2.start N vs) H _ I0 hq
  refine wpAny_mono run (fun fl s' hs => ?_) fun e s' q => q
  cases fl with
  | ret u =>
    (obtain ⟨v, σ', H', J, rv, q⟩ := hs)
    exact ⟨v, H', J.os, J.bare, J.base, J.hok, rv, q⟩
  | next =>
    obtain ⟨σ', H', J, q⟩ := hs
    exact ⟨.non, H', J.os, J.bare, J.base, J.hok, rfl, q⟩
  | brk => obtain ⟨_, _, _, q⟩ := hs; exact q.elim
  | cont => obtain ⟨_, _, _, q⟩ := hs; exact q.elim
end
section
variable {X : Cx} {Wx : WX} {k : Nat} {f : Addr} {fd : FuncData} {ps : List Str} {sp : Sp} {x : Str} {p pos : Pos} {e : Expr} {es : List Expr}
/-- the callee runs -/
theorem run_g {pins : List (Addr × Obj)} {σ : L2.St} {H : Hp} {s : Shared} {Q : VK} {us : List Value} {vs : List V} (G : FnG X.prog X.w X.K X.mg X.base k f fd ps sp) (room : Room k X.A) (gd : X.A.guards = some [])
    (tk : Takes X Wx) (hb : Binds X.K fd ps []) (I : Inv X pins σ H s) (r : Vals vs us) (h : sp vs H Q (fun c o H' => Wx c o σ H')) : wpAny (model X.prog X.w) X.A (call (.ref f) us) (EP X pins σ Q) X.xe s := by
  have many : us.length = ps.length := r.length.symm.trans (G.count _ _ _ _ h)
  have bnd := hb s us I.kIn (by rw [List.append_nil, many])
  rw [List.append_nil] at bnd
  have run := G.go X.A X.stack s H ⟨us, []⟩ us vs Q _ room gd I.env0 bnd r h
  refine wpAny_call (codeAny_mono run ?_)
  intro res s' hq
  cases res with
  | error e => exact passAt tk σ pins H s e s' I hq
  | ok fl =>
    cases fl with
    | ret u => exact I.after hq
    | next => exact hq.elim
    | brk => exact hq.elim
    | cont => exact hq.elim
def tCallG (sp : Sp) (Wx : WX) (t : TA) : TE := fun σ H Q => t σ H fun vs H1 => sp vs H1 Q fun c o H' => Wx c o σ H'
theorem pe_g (G : FnG X.prog X.w X.K X.mg X.base k f fd ps sp) (room : Room k X.A) (gd : X.A.guards = some []) (tk : Takes X Wx) (hg : Gl X x) (hm : X.mg x = some (.ref f)) (hk : PySem.W.keepIn X.K (.ref f) = true) (hb : Binds X.K fd ps [])
    {t : TA} (ha : PA X (e :: es) t) (hdb : (x == ("__debug__" : Str)) = false := by decide) (he : starEach (e :: es) X.env = (false, eval e X.env) :: starEach es X.env := by rfl)
    (hpl : (backTo pos (starEach es X.env)).any (·.1) = false := by rfl) : PE X (.Call (.Name x p) (e :: es) [] pos) (tCallG sp Wx t) := by
  (refine ⟨fun pins s σ H Q I h => ?_⟩)
  refine wpAny_Call_Name_kw (ld_glob I hg hm (PySem.W.callWith_K (h₀ := X.base) I.ok.mod.kin hk ?_ he hpl) hdb)
  refine thn (ha.run pos pins s σ H _ I h) ?_
  rintro us s1 ⟨vs, H1, I1, r, q⟩
  exact ⟨I1.kIn, run_g G room gd tk hb I1 r q⟩
theorem pe_g0 (G : FnG X.prog X.w X.K X.mg X.base k f fd ps sp) (room : Room k X.A) (gd : X.A.guards = some []) (tk : Takes X Wx) (hg : Gl X x) (hm : X.mg x = some (.ref f)) (hk : PySem.W.keepIn X.K (.ref f) = true) (hb : Binds X.K fd ps [])
    (hdb : (x == ("__debug__" : Str)) = false := by decide) : PE X (.Call (.Name x p) [] [] pos) (tCallG sp Wx tNil) := by
  (refine ⟨fun pins s σ H Q I h => ?_⟩)
  refine wpAny_Call_Name_kw (ld_glob I hg hm (PySem.W.callWith_K0 I.kIn hk ?_) hdb)
  exact run_g (us := []) (vs := []) G room gd tk hb I .nil h

/-! ### the two kinds of promises -/
inductive Rp where
  | ok (t : T) | exc (C : Addr) (fs : List (Str × T)) | bad
abbrev Fz (F : Addr → Prop) (H : Hp) : Prop := ∀ a, F a → ∃ o, H a = some o
/-- a def of plain values: F says what it gives -/
def spP (K : PySem.W.Frag) (n : Nat) (F : List T → Rp) : Sp := fun vs H Q E => ∃ (S : Addr → Prop) (ts : List T), Fz S H ∧ RelTs K S H ts vs ∧ ts.length = n ∧ (match F ts with
  | .ok t => ∀ S' H' v, Ext ⟨[], S⟩ H ⟨[], S'⟩ H' → Fz S' H' → RelT K S' H' t v → Q v H'
  | .exc C fs => ∀ S' H' o, Ext ⟨[], S⟩ H ⟨[], S'⟩ H' → Fz S' H' → ExD K ⟨[], S'⟩ H' fs o → E (.ref C) o H'
  | .bad => False)
/-- a def that changes objects -/
def spG (K : PySem.W.Frag) (n : Nat) (F : List D → Sto → Res D) : Sp := fun vs H Q E => ∃ W st ds, Rl K W st H ∧ RelDs K W H ds vs ∧ ds.length = n ∧ (F ds st).Holds (OkD K W H Q) (OkX K W H E)
theorem spP_count {K : PySem.W.Frag} {n : Nat} {F : List T → Rp} {ps : List Str} (hn : ps.length = n) : ∀ vs H Q E, spP K n F vs H Q E → vs.length = ps.length := fun vs H Q E ⟨S, ts, _, r, l, _⟩ => by rw [relTs_len r, l, hn]
theorem spG_count {K : PySem.W.Frag} {n : Nat} {F : List D → Sto → Res D} {ps : List Str} (hn : ps.length = n) : ∀ vs H Q E, spG K n F vs H Q E → vs.length = ps.length := fun vs H Q E ⟨W, st, ds, _, r, l, _⟩ => by rw [relDs_len r, l, hn]

/-! ### their calls -/
def callP (F : List T → Rp) (fs : List (Env → Sto → Res D)) (env : Env) (st : Sto) : Res D := (argsM fs env st).bind fun ds st1 => match plains ds with
  | some ts => match F ts with
    | .ok t => .ok (.t t) st1
    | .exc C x => .exc C x st1
    | .bad => .bad
  | none => .bad
def callG (F : List D → Sto → Res D) (fs : List (Env → Sto → Res D)) (env : Env) (st : Sto) : Res D := (argsM fs env st).bind fun ds st1 => F ds st1
/-- behind a call of plain values the changed objects stand as they stood -/
theorem back {K : PySem.W.Frag} {W : Wd} {H H' : Hp} {st : Sto} {S' : Addr → Prop} (R : Rl K W st H) (E : Ext ⟨[], W.F⟩ H ⟨[], S'⟩ H') (fz : Fz S' H') : Ext W H ⟨W.ρ, S'⟩ H' ∧ Rl K ⟨W.ρ, S'⟩ st H' := by
  have E2 : Ext W H ⟨W.ρ, S'⟩ H' := ⟨List.prefix_refl _, fun a h => .inl h, E.fF, E.nF, fun a o h _ => E.keep a o h (by simp), E.there, E.lk⟩
  refine ⟨E2, R.mono E2 rfl (fun a ha => ?_) (fun a ha h => ?_) fz⟩
  · obtain ⟨o, q⟩ := R.mem ha
    rw [q]; exact E.keep a o q (by simp)
  · rcases E.nF a h with h | h
    · exact R.sep a ha h
    · obtain ⟨o, q⟩ := R.mem ha
      have h : H a = none := h
      rw [q] at h; cases h
variable {fs : List (Env → Sto → Res D)}
theorem callP_conv {K : PySem.W.Frag} {n : Nat} {F : List T → Rp} {σ : L2.St} {H : Hp} {Q : VK} (hl : fs.length = n) (h : tE K Wx (callP F fs) σ H Q) : tCallG (spP K n F) Wx (tA K Wx (argsM fs)) σ H Q := by
  obtain ⟨W, env, st, R, Ev, h⟩ := h
  refine ⟨W, env, st, R, Ev, splitA h (fun ds st1 e0 h1 W1 H1 vs E1 R1 r1 => ?_) fun C fs st' hx => hx⟩
  split at h1
  · rename_i ts e1
    have rt := relTs_of e1 r1
    have l : ts.length = n := by
      have l1 := relTs_len rt
      have l2 := relDs_len r1
      have l3 := argsM_len e0
      omega
    refine ⟨W1.F, ts, R1.fz, rt, l, ?_⟩
    cases e2 : F ts with
    | ok t =>
      rw [e2] at h1
      intro S' H' v E' fz r'
      obtain ⟨a1, a2⟩ := back R1 E' fz
      exact h1 _ H' v (E1.trans a1) a2 r'
    | exc C x =>
      rw [e2] at h1
      intro S' H' o E' fz r'
      obtain ⟨a1, a2⟩ := back R1 E' fz
      refine h1 _ H' o (E1.trans a1) a2 ?_
      rcases r' with r' | ⟨a, us, q1, q2, q3⟩
      · exact .inl r'
      · refine .inr ⟨a, us, q1, q2, ?_⟩
        clear q2 q1 e2 h1
        induction x generalizing us with
        | nil => exact q3
        | cons y r ih =>
          obtain ⟨nm, t⟩ := y
          obtain ⟨v, u, c1, c2, c3⟩ := q3
          exact ⟨v, u, c1, c2, ih u c3⟩
    | bad => rw [e2] at h1; exact h1.elim
  · exact h1.elim
theorem callG_conv {K : PySem.W.Frag} {n : Nat} {F : List D → Sto → Res D} {σ : L2.St} {H : Hp} {Q : VK} (hl : fs.length = n) (h : tE K Wx (callG F fs) σ H Q) : tCallG (spG K n F) Wx (tA K Wx (argsM fs)) σ H Q := by
  obtain ⟨W, env, st, R, Ev, h⟩ := h
  refine ⟨W, env, st, R, Ev, splitA h (fun ds st1 e0 h1 W1 H1 vs E1 R1 r1 => ?_) fun C fs st' hx => hx⟩
  exact ⟨W1, st1, ds, R1, r1, by rw [argsM_len e0, hl], Res.Holds.imp h1 (fun _ _ q => q.mono E1) fun _ _ _ q => q.mono E1⟩
theorem re_callP {n : Nat} {F : List T → Rp} (G : FnG X.prog X.w X.K X.mg X.base k f fd ps (spP X.K n F)) (room : Room k X.A) (gd : X.A.guards = some []) (tk : Takes X Wx) (hg : Gl X x) (hm : X.mg x = some (.ref f)) (hk : PySem.W.keepIn X.K (.ref f) = true) (hb : Binds X.K fd ps [])
    (ha : RA X Wx (e :: es) (argsM fs)) (hl : fs.length = n := by rfl) (hdb : (x == ("__debug__" : Str)) = false := by decide) (he : starEach (e :: es) X.env = (false, eval e X.env) :: starEach es X.env := by rfl)
    (hpl : (backTo pos (starEach es X.env)).any (·.1) = false := by rfl) : RE X Wx (.Call (.Name x p) (e :: es) [] pos) (callP F fs) :=
  PE.conv (pe_g G room gd tk hg hm hk hb ha hdb he hpl) fun _ _ _ h => callP_conv hl h
theorem re_callG {n : Nat} {F : List D → Sto → Res D} (G : FnG X.prog X.w X.K X.mg X.base k f fd ps (spG X.K n F)) (room : Room k X.A) (gd : X.A.guards = some []) (tk : Takes X Wx) (hg : Gl X x) (hm : X.mg x = some (.ref f)) (hk : PySem.W.keepIn X.K (.ref f) = true) (hb : Binds X.K fd ps [])
    (ha : RA X Wx (e :: es) (argsM fs)) (hl : fs.length = n := by rfl) (hdb : (x == ("__debug__" : Str)) = false := by decide) (he : starEach (e :: es) X.env = (false, eval e X.env) :: starEach es X.env := by rfl)
    (hpl : (backTo pos (starEach es X.env)).any (·.1) = false := by rfl) : RE X Wx (.Call (.Name x p) (e :: es) [] pos) (callG F fs) :=
  PE.conv (pe_g G room gd tk hg hm hk hb ha hdb he hpl) fun _ _ _ h => callG_conv hl h
theorem re_callP0 {F : List T → Rp} (G : FnG X.prog X.w X.K X.mg X.base k f fd ps (spP X.K 0 F)) (room : Room k X.A) (gd : X.A.guards = some []) (tk : Takes X Wx) (hg : Gl X x) (hm : X.mg x = some (.ref f)) (hk : PySem.W.keepIn X.K (.ref f) = true) (hb : Binds X.K fd ps [])
    (hdb : (x == ("__debug__" : Str)) = false := by decide) : RE X Wx (.Call (.Name x p) [] [] pos) (callP F []) := by
  refine PE.conv (pe_g0 G room gd tk hg hm hk hb hdb) fun σ H Q h => ?_
  obtain ⟨W, env, st, R, Ev, q⟩ := callP_conv (fs := []) rfl h
  exact q W H [] .refl R rfl
end

/-! ### the body of a def -/
def startE (n : Nat) (ds : List D) : Env := ds.map some ++ List.replicate (n - ds.length) none
theorem startE_rel {K : PySem.W.Frag} {W : Wd} {H : Hp} {N : List Str} {ds : List D} {vs : List V} (r : RelDs K W H ds vs) : EnvR K W H (startE N.length ds) (L2.start N vs) := by
  have l := relDs_len r
  unfold startE L2.start
  refine ⟨by rw [List.length_append, List.length_append, List.length_map, List.length_map, List.length_replicate, List.length_replicate, l], fun i d q => ?_⟩
  by_cases hi : i < ds.length
  · rw [List.getElem?_append_left (by simpa using hi), List.getElem?_map] at q
    cases e : ds[i]? with
    | none => rw [e] at q; cases q
    | some d2 =>
      rw [e] at q
      cases q
      obtain ⟨v, e2, rv⟩ := relDs_get r e
      exact ⟨v, by rw [List.getElem?_append_left (by rw [List.length_map, l]; exact hi), List.getElem?_map, e2]; rfl, rv⟩
  · rw [List.getElem?_append_right (by simpa using hi), List.getElem?_replicate] at q
    split at q <;> cases q
/-- an object of the store and what it holds, as a plain value: nobody changes it from here on; those below n are not touched -/
def optAll {α : Type} : List (Option α) → Option (List α)
  | [] => some []
  | x :: r => x.bind fun a => (optAll r).map (a :: ·)
def fzD : Nat → Nat → Sto → D → Option T
  | 0, _, _, _ => none
  | m + 1, n, st, d => match d with
    | .t x => some x
    | .x .. => none
    | .r j => if j < n then none else match st[j]? with
      | some (.lst ds) => (optAll (ds.map (fzD m n st))).map .lst
      | some (.ins C fs) => (optAll (fs.map fun p => fzD m n st p.2)).map (.ins C (fs.map (·.1)))
      | some (.dk _ kvs) => (optAll (kvs.map fun p => fzD m n st p.2)).map (.dk (kvs.map (·.1)))
      | some (.dt kvs) => (optAll (kvs.map fun p => fzD m n st p.2)).map (.dt (kvs.map (·.1)))
      | some (.exc ..) => none
      | none => none
theorem optAll_rel {K : PySem.W.Frag} {F : Addr → Prop} {W : Wd} {H : Hp} {f : D → Option T} (hf : ∀ d t v, f d = some t → RelD K W H d v → RelT K F H t v) : ∀ {ds : List D} {ts : List T} {vs : List V}, optAll (ds.map f) = some ts → RelDs K W H ds vs → RelTs K F H ts vs
  | [], ts, vs, h, r => by cases h; exact r
  | d :: ds, ts, vs, h, r => by
    obtain ⟨v, u, rfl, r1, r2⟩ := r
    have h : ((f d).bind fun a => (optAll (ds.map f)).map (a :: ·)) = some ts := h
    cases e1 : f d with
    | none => rw [e1] at h; cases h
    | some t =>
      rw [e1, Option.bind_some] at h
      cases e2 : optAll (ds.map f) with
      | none => rw [e2] at h; cases h
      | some us =>
        rw [e2] at h
        cases h
        exact ⟨v, u, rfl, hf d t v e1 r1, optAll_rel hf e2 r2⟩
theorem optAll_relK {κ : Type} {K : PySem.W.Frag} {F : Addr → Prop} {W : Wd} {H : Hp} {f : D → Option T} (hf : ∀ d t v, f d = some t → RelD K W H d v → RelT K F H t v) : ∀ {fs : List (κ × D)} {ts : List T} {vs : List (κ × V)}, optAll (fs.map fun p => f p.2) = some ts → RelKs K W H fs vs →
    ∃ us, vs = (fs.map (·.1)).zip us ∧ (fs.map (·.1)).length = ts.length ∧ RelTs K F H ts us
  | [], ts, vs, h, r => by cases h; cases r; exact ⟨[], rfl, rfl, rfl⟩
  | (k, d) :: ds, ts, vs, h, r => by
    obtain ⟨v, u, rfl, r1, r2⟩ := r
    have h : ((f d).bind fun a => (optAll (ds.map fun p => f p.2)).map (a :: ·)) = some ts := h
    cases e1 : f d with
    | none => rw [e1] at h; cases h
    | some t =>
      rw [e1, Option.bind_some] at h
      cases e2 : optAll (ds.map fun p => f p.2) with
      | none => rw [e2] at h; cases h
      | some us =>
        rw [e2] at h
        cases h
        obtain ⟨ws, q1, q2, q3⟩ := optAll_relK hf e2 r2
        exact ⟨v :: ws, by rw [q1]; rfl, by rw [List.map_cons, List.length_cons, List.length_cons, q2], v, ws, rfl, hf d t v e1 r1, q3⟩
/-! ### new dicts are locked where what was made stays as it is: nobody sees it, but a walk over them is safe -/
def lkO : SO → SO
  | .dk _ kvs => .dk true kvs
  | o => o
def lkS (n : Nat) (st : Sto) : Sto := st.take n ++ (st.drop n).map lkO
theorem lkS_get (n : Nat) (st : Sto) (j : Nat) : (lkS n st)[j]? = if j < n then st[j]? else (st[j]?).map lkO := by
  unfold lkS
  by_cases h : j < n
  · rw [if_pos h]
    by_cases h2 : j < st.length
    · rw [List.getElem?_append_left (by rw [List.length_take]; omega), List.getElem?_take_of_lt h]
    · rw [List.getElem?_append_right (by rw [List.length_take]; omega), List.getElem?_eq_none (l := st) (by omega), List.getElem?_eq_none (by rw [List.length_map, List.length_drop, List.length_take]; omega)]
  · rw [if_neg h]
    by_cases h2 : n ≤ st.length
    · rw [List.getElem?_append_right (by rw [List.length_take]; omega), List.getElem?_map, List.getElem?_drop, List.length_take, Nat.min_eq_left h2, show n + (j - n) = j by omega]
    · rw [List.getElem?_append_right (by rw [List.length_take]; omega), List.getElem?_eq_none (l := st) (by omega), List.getElem?_eq_none (by rw [List.length_map, List.length_drop, List.length_take]; omega)]
      rfl
theorem lkS_take (n : Nat) (st : Sto) : (lkS n st).take n = st.take n := by
  refine  List.ext_getElem? fun j => ?_
  by_cases h : j < n
  · rw [List.getElem?_take_of_lt h, List.getElem?_take_of_lt h, lkS_get, if_pos h]
  · rw [List.getElem?_eq_none (by rw [List.length_take]; omega), List.getElem?_eq_none (by rw [List.length_take]; omega)]
theorem lkS_no (n : Nat) (st : Sto) (j : Nat) (kvs : List (L2.Key × D)) (h : n ≤ j) : (lkS n st)[j]? ≠ some (.dk false kvs) := by
  rw [lkS_get, if_neg (by omega)]
  cases st[j]? with
  | none => intro z; cases z
  | some so => cases so <;> (intro z; cases z)
theorem fzD_lk (n : Nat) (st : Sto) : ∀ (m : Nat) (d : D), fzD m n (lkS n st) d = fzD m n st d
  | 0, _ => rfl
  | m + 1, .t _ => rfl
  | m + 1, .x .. => rfl
  | m + 1, .r j => by
    have ih : fzD m n (lkS n st) = fzD m n st := funext (fzD_lk n st m)
    unfold fzD
    dsimp only
    by_cases hj : j < n
    · rw [if_pos hj, if_pos hj]
    · rw [if_neg hj, if_neg hj, lkS_get, if_neg hj]
      cases st[j]? with
      | none => rfl
      | some so => cases so <;> simp only [Option.map_some, lkO, ih]
/-- the dicts from place n on are locked -/
theorem lock_all {X : Cx} {pins : List (Addr × Obj)} {σ : L2.St} {H : Hp} {s : Shared} {K : PySem.W.Frag} {W : Wd} {st : Sto} (n : Nat) (I : Inv X pins σ H s) (R : Rl K W st H) : ∃ H2, Inv X pins σ H2 s ∧ Rl K W (lkS n st) H2 ∧ Ext W H W H2 := by
  have key : ∀ k : Nat, ∃ H2 st2, Inv X pins σ H2 s ∧ Rl K W st2 H2 ∧ Ext W H W H2 ∧ st2.length = st.length ∧ ∀ j : Nat, st2[j]? = if n ≤ j ∧ j < n + k then (st[j]?).map lkO else st[j]? := by
    intro k
    induction k with
    | zero => exact ⟨H, st, I, R, .refl, rfl, fun j => by rw [if_neg (by omega)]⟩
    | succ k ih =>
      obtain ⟨H2, st2, I2, R2, E2, hl, hg⟩ := ih
      have same : st2[n + k]? = st[n + k]? := by rw [hg, if_neg (by omega)]
      have keepit : (st[n + k]?).map lkO = st[n + k]? → ∃ H2 st2, Inv X pins σ H2 s ∧ Rl K W st2 H2 ∧ Ext W H W H2 ∧ st2.length = st.length ∧ ∀ j : Nat, st2[j]? = if n ≤ j ∧ j < n + (k + 1) then (st[j]?).map lkO else st[j]? := fun e =>
        ⟨H2, st2, I2, R2, E2, hl, fun j => by
          by_cases ej : j = n + k
          · subst ej; rw [same, if_pos (by omega), e]
          · rw [hg]
            by_cases hj : n ≤ j ∧ j < n + k
            · rw [if_pos hj, if_pos (by omega)]
            · rw [if_neg hj, if_neg (by omega)]⟩
      cases q : st[n + k]? with
      | none => exact keepit (by rw [q]; rfl)
      | some so =>
        cases so with
        | lst => exact keepit (by rw [q]; rfl)
        | ins => exact keepit (by rw [q]; rfl)
        | dt => exact keepit (by rw [q]; rfl)
        | exc => exact keepit (by rw [q]; rfl)
        | dk lk kvs =>
          cases lk with
          | true => exact keepit (by rw [q]; rfl)
          | false =>
            have q2 : st2[n + k]? = some (.dk false kvs) := same.trans q
            have hlt : n + k < st2.length := (List.getElem?_eq_some_iff.mp q2).1
            obtain ⟨a, ea⟩ : ∃ a, W.ρ[n + k]? = some a := ⟨_, List.getElem?_eq_getElem (by rw [R2.len]; exact hlt)⟩
            obtain ⟨vs, q1, q3⟩ := R2.live (n + k) a _ ea q2
            rw [if_neg (by decide)] at q1
            obtain ⟨od, I3⟩ := I2.lock q1 True.intro
            have E3 : Ext W H2 W (upd H2 a (.frz od (.dK vs))) := Ext.put ea q1
            have R3 := R2.putO (so := .dk true kvs) ea q1 ⟨vs, by rw [if_pos rfl]; exact ⟨od, upd_same⟩, (E3.kt R2).relKs (List.prefix_refl _) q3⟩
            refine ⟨_, _, I3, R3, E2.trans E3, by rw [List.length_set, hl], fun j => ?_⟩
            by_cases ej : j = n + k
            · subst ej
              rw [List.getElem?_set_self hlt, if_pos (by omega), q]
              rfl
            · rw [List.getElem?_set_ne (Ne.symm ej), hg]
              by_cases hj : n ≤ j ∧ j < n + k
              · rw [if_pos hj, if_pos (by omega)]
              · rw [if_neg hj, if_neg (by omega)]
  obtain ⟨H2, st2, I2, R2, E2, hl, hg⟩ := key st.length
  have e : st2 = lkS n st := List.ext_getElem? fun j => by
    rw [hg, lkS_get]
    by_cases hj : j < n
    · rw [if_neg (by omega), if_pos hj]
    · rw [if_neg hj]
      by_cases h2 : j < n + st.length
      · rw [if_pos (by omega)]
      · rw [if_neg (by omega), List.getElem?_eq_none (by omega)]; rfl
  exact ⟨H2, I2, e ▸ R2, E2⟩
/-- wherever the heap is told so, it may be told otherwise -/
def Gh (X : Cx) (Q : VK) : VK := fun v H => ∀ (pins : List (Addr × Obj)) (σ : L2.St) (s : Shared), Inv X pins σ H s → ∃ H2, Inv X pins σ H2 s ∧ Q v H2
theorem Gh.of {X : Cx} {Q : VK} {v : V} {H : Hp} (h : Q v H) : Gh X Q v H := fun _ _ _ I => ⟨H, I, h⟩
theorem pe_ghost {X : Cx} {e : Expr} {te : TE} (he : PE X e te) : PE X e (fun σ H Q => te σ H (Gh X Q)) :=
  ⟨fun pins s σ H Q I h => thn (he.run pins s σ H _ I h) fun u s1 ⟨v, H1, I1, rv, q⟩ => let ⟨H2, I2, q2⟩ := q pins σ s1 I1; ⟨v, H2, I2, rv, q2⟩⟩
theorem pss_ghost {X : Cx} {ss : List Stmt} {t : TS} (h : PSs X ss t) : PSs X ss (fun D σ H => t ⟨D.nx, Gh X D.rt, D.bk, D.ct⟩ σ H) :=
  ⟨fun pins s σ H D I hq => thn (h.run pins s σ H _ I hq) fun f s1 q => by
    cases f with
    | next => exact q
    | brk => exact q
    | cont => exact q
    | ret u => obtain ⟨v, σ', H1, I1, rv, q⟩ := q; obtain ⟨H2, I2, q2⟩ := q pins σ' s1 I1; exact ⟨v, σ', H2, I2, rv, q2⟩⟩
theorem fzD_rel {K : PySem.W.Frag} {F : Addr → Prop} {W : Wd} {H : Hp} {st : Sto} {n : Nat} (R : Rl K W st H) (k : KeepT W.F H F H) (hF : ∀ j a, n ≤ j → W.ρ[j]? = some a → F a) (hk : ∀ j kvs, n ≤ j → st[j]? ≠ some (.dk false kvs)) : ∀ (m : Nat) (d : D) (t : T) (v : V), fzD m n st d = some t → RelD K W H d v → RelT K F H t v
  | 0, d, t, v, h, r => by cases h
  | m + 1, d, t, v, h, r => by
    have ih := fzD_rel R k hF hk m
    cases d with
    | t x => cases h; exact k.relT _ v r
    | x => cases h
    | r j =>
      obtain ⟨a, ea, rfl⟩ := r
      unfold fzD at h
      dsimp only at h
      by_cases hj : j < n
      · rw [if_pos hj] at h; cases h
      · rw [if_neg hj] at h
        have fa : F a := hF j a (by omega) ea
        cases e1 : st[j]? with
        | none => simp only [e1] at h; cases h
        | some so =>
          have live := R.live j a so ea e1
          cases so with
          | lst ds =>
            simp only [e1] at h
            cases e2 : optAll (ds.map (fzD m n st)) with
            | none => rw [e2] at h; cases h
            | some ts =>
              rw [e2] at h
              cases h
              obtain ⟨vs, h1, h2⟩ := live
              exact ⟨a, vs, rfl, fa, h1, optAll_rel ih e2 h2⟩
          | ins C fs =>
            simp only [e1] at h
            cases e2 : optAll (fs.map fun p => fzD m n st p.2) with
            | none => rw [e2] at h; cases h
            | some ts =>
              rw [e2] at h
              cases h
              obtain ⟨dx, vs, h1, h2⟩ := live
              obtain ⟨us, q1, q2, q3⟩ := optAll_relK ih e2 h2
              exact ⟨a, dx, us, rfl, fa, by rw [← q1]; exact h1, q2, q3⟩
          | dk lk fs =>
            simp only [e1] at h
            cases e2 : optAll (fs.map fun p => fzD m n st p.2) with
            | none => rw [e2] at h; cases h
            | some ts =>
              rw [e2] at h
              cases h
              obtain ⟨vs, h1, h2⟩ := live
              obtain ⟨us, q1, q2, q3⟩ := optAll_relK ih e2 h2
              refine ⟨a, us, rfl, fa, ?_, q2, q3⟩
              rw [← q1]
              cases lk with
              | true => rw [if_pos rfl] at h1; exact h1
              | false => exact absurd e1 (hk j fs (by omega))
          | exc => simp only [e1] at h; cases h
          | dt fs =>
            simp only [e1] at h
            cases e2 : optAll (fs.map fun p => fzD m n st p.2) with
            | none => rw [e2] at h; cases h
            | some ts =>
              rw [e2] at h
              cases h
              obtain ⟨vs, h1, h2⟩ := live
              obtain ⟨us, q1, q2, q3⟩ := optAll_relK ih e2 h2
              exact ⟨a, us, rfl, fa, by rw [← q1]; exact h1, q2, q3⟩
def rpO (o : Option T) : Rp := match o with
  | some t => .ok t
  | none => .bad
/-- what a def of plain values hands back -/
def exitP (o : Out) : Rp := match o with
  | .rt (.t x) _ => .ok x
  | .rt (.r n) st => match st[n]? with
    | some (.lst ds) => match plains ds with
      | some ts => .ok (.lst ts)
      | none => rpO (fzD 8 0 st (.r n))
    | _ => rpO (fzD 8 0 st (.r n))
  | .nx _ _ => .ok .non
  | .exc C fs _ _ => .exc C fs
  | _ => .bad
def defP (n : Nat) (g : Env → Sto → Out) (ts : List T) : Rp := exitP (g (startE n (ts.map .t)) [])
/-- a def that changes objects -/
def exitG (o : Out) : Res D := match o with
  | .rt d st => .ok d st
  | .nx _ st => .ok (.t .non) st
  | .exc C fs _ st => .exc C fs st
  | _ => .bad
def defG (n : Nat) (g : Env → Sto → Out) (ds : List D) (st : Sto) : Res D := exitG (g (startE n ds) st)
/-- .. and leaves no new ones -/
def D.below (n : Nat) : D → Bool
  | .t _ => true
  | .x .. => true
  | .r m => decide (m < n)
def SO.below (n : Nat) : SO → Bool
  | .lst ds => ds.all (D.below n)
  | .ins _ fs => fs.all fun p => p.2.below n
  | .dk _ fs => fs.all fun p => p.2.below n
  | .dt fs => fs.all fun p => p.2.below n
  | .exc _ fs => fs.all fun p => p.2.below n
def okO (o : Option T) (st : Sto) : Res D := match o with
  | some t => .ok (.t t) st
  | none => .bad
def trim (n : Nat) (d : D) (st : Sto) : Res D := if (st.take n).all (SO.below n) = true then (match d with
  | .t x => .ok (.t x) (st.take n)
  | .x .. => .bad
  | .r m => if m < n then .ok (.r m) (st.take n) else match st[m]? with
    | some (.lst ds) => match plains ds with
      | some ts => .ok (.t (.lst ts)) (st.take n)
      | none => okO (fzD 8 n st (.r m)) (st.take n)
    | _ => okO (fzD 8 n st (.r m)) (st.take n)) else .bad
def exitT (n : Nat) (o : Out) : Res D := match o with
  | .rt d st => trim n d st
  | .nx _ st => trim n (.t .non) st
  | .exc C fs _ st => if (st.take n).all (SO.below n) = true then .exc C fs (st.take n) else .bad
  | _ => .bad
def defT (n : Nat) (g : Env → Sto → Out) (ds : List D) (st : Sto) : Res D := exitT st.length (g (startE n ds) st)
section
variable {P : Program} {w : World} {K : PySem.W.Frag} {mg : Str → Option Value} {base : Heap} {x qual : Str} {st : Stmt} {f : Addr} {fd : FuncData} {N ps : List Str} {k : Nat} {g : Env → Sto → Out}
theorem relFs_F {K : PySem.W.Frag} {W W' : Wd} {H : Hp} (k : KeepT W.F H W'.F H) : ∀ {fs : List (Str × T)} {vs : List (Str × V)}, RelFs K W H fs vs → RelFs K W' H fs vs
  | [], vs, h => h
  | (n, t) :: r, vs, h => by
    obtain ⟨v, u, e, a, b⟩ := h
    exact ⟨v, u, e, k.relT t v a, relFs_F k b⟩
theorem exd_F {K : PySem.W.Frag} {W W' : Wd} {H : Hp} (k : KeepT W.F H W'.F H) {fs : List (Str × T)} {o : Option Addr} (h : ExD K W H fs o) : ExD K W' H fs o := by
  rcases h with h | ⟨a, vs, h1, h2, h3⟩
  · exact .inl h
  · exact .inr ⟨a, vs, h1, h2, relFs_F k h3⟩
abbrev WR (E : XK) : WX := fun c o _ H => E c o H
/-- the context of a body lets errors out as the def's promise says -/
theorem takes_def {cd : Value} {A : Around} {outer : List PySem.Env} {s : Shared} {H : Hp} {E : XK} : Takes (cxOf (L2.CX P w) P w K mg base N qual (defScope st) f cd A outer s H E) (WR E) := takes_of rfl rfl rfl rfl
theorem own_def {cd : Value} {A : Around} {outer : List PySem.Env} {s : Shared} {H : Hp} {E : XK} : PassesOwn (model P w) (A.deeper (envOfC qual (defScope st) s.heap.objs.size f cd)) (envOfC qual (defScope st) s.heap.objs.size f cd) (cxOf (L2.CX P w) P w K mg base N qual (defScope st) f cd A outer s H E).xe :=
  passes_of (X := cxOf (L2.CX P w) P w K mg base N qual (defScope st) f cd A outer s H E) (K := fun e s'' => L2.CX P w outer H s E e s'') rfl
theorem okP (F : Fun K x qual st f fd) (S : FnScope N ps (defScope st)) {n m : Nat} (hn : ps.length = n) (hm : N.length = m)
    (body : ∀ (cd : Value) (A : Around) (outer : List PySem.Env) (s : Shared) (H : Hp) (E : XK), Room k (A.deeper (envOfC qual (defScope st) s.heap.objs.size f cd)) → A.guards = some [] →
      RSs (cxOf (L2.CX P w) P w K mg base N qual (defScope st) f cd A outer s H E) (WR E) (defBody st) g) : FnG P w K mg base (k + 1) f fd ps (spP K n (defP m g)) := by
  refine def_ok F S (spP_count hn) fun cd A outer s H vs Q E room gd ask => ⟨_, pss_ghost (body cd A outer s H E room gd), ?_⟩
  obtain ⟨S0, ts, fz, rt, hl, ask⟩ := ask
  have R0 : Rl K ⟨[], S0⟩ [] H := ⟨rfl, List.nodup_nil, fun n a o h _ => by simp at h, fun a h => absurd h (by simp), fz⟩
  refine ⟨⟨[], S0⟩, startE m (ts.map .t), [], R0, by rw [← hm]; exact startE_rel (relDs_t (W := ⟨[], S0⟩) rt), ?_⟩
  unfold defP at ask
  have toF : ∀ {W' : Wd} {H' : Hp} {S' : Addr → Prop}, Ext ⟨[], S0⟩ H W' H' → (∀ a, W'.F a → S' a) → (∀ a, S' a → W'.F a ∨ a ∈ W'.ρ) → Ext ⟨[], S0⟩ H ⟨[], S'⟩ H' := fun {W' H' S'} E h1 h2 =>
    ⟨List.prefix_refl _, fun a h => absurd h (by simp), fun a h => h1 a (E.fF a h), fun a h => (h2 a h).elim (E.nF a) fun h => (E.new a h).elim (fun z => absurd z (by simp)) .inr, E.keep, E.there, E.lk⟩
  cases q : g (startE m (ts.map .t)) [] with
  | nx e s2 =>
    rw [q] at ask
    intro W' σ' H' E' R' _
    exact ask W'.F H' _ (toF E' (fun _ h => h) fun _ h => .inl h) R'.fz rfl
  | rt d s2 =>
    rw [q] at ask
    intro W' H' v E' R' r'
    cases d with
    | t y => exact Gh.of <| ask W'.F H' v (toF E' (fun _ h => h) fun _ h => .inl h) R'.fz r'
    | x => exact ask.elim
    | r j =>
      obtain ⟨a, ea, rfl⟩ := r'
      intro pins σ2 sh I
      obtain ⟨H2, I2, R2, E2⟩ := lock_all 0 I R'
      refine ⟨H2, I2, ?_⟩
      suffices q2 : ∀ {H' : Hp}, Rl K W' (lkS 0 s2) H' → Ext ⟨[], S0⟩ H W' H' → Q (.ref a) H' from q2 R2 (E'.trans E2)
      clear E' R' I R2 E2 I2 H2
      intro H' R' E'
      have ask : (match exitP (.rt (.r j) s2) with
        | .ok t => ∀ S' H' v, Ext ⟨[], S0⟩ H ⟨[], S'⟩ H' → Fz S' H' → RelT K S' H' t v → Q v H'
        | .exc C fs => ∀ S' H' o, Ext ⟨[], S0⟩ H ⟨[], S'⟩ H' → Fz S' H' → ExD K ⟨[], S'⟩ H' fs o → E (.ref C) o H'
        | .bad => False) := ask
      have all : ∀ y, RelT K (fun b => W'.F b ∨ b ∈ W'.ρ) H' y (.ref a) → (∀ S' H' v, Ext ⟨[], S0⟩ H ⟨[], S'⟩ H' → Fz S' H' → RelT K S' H' y v → Q v H') → Q (.ref a) H' := fun y ry hq =>
        hq (fun b => W'.F b ∨ b ∈ W'.ρ) H' (.ref a) (toF E' (fun _ h => .inl h) fun b h => h) (fun b hb => hb.elim (R'.fz b) R'.mem) ry
      have k : KeepT W'.F H' (fun b => W'.F b ∨ b ∈ W'.ρ) H' := ⟨fun _ h => .inl h, fun _ _ _ q => q, fun _ _ q => q, fun _ _ _ q => q, fun _ _ q => q⟩
      have hF : ∀ (i : Nat) (b : Addr), 0 ≤ i → W'.ρ[i]? = some b → W'.F b ∨ b ∈ W'.ρ := fun i b _ e => .inr (List.mem_of_getElem? e)
      have fzo : (match rpO (fzD 8 0 s2 (.r j)) with
        | .ok t => ∀ S' H' v, Ext ⟨[], S0⟩ H ⟨[], S'⟩ H' → Fz S' H' → RelT K S' H' t v → Q v H'
        | .exc C fs => ∀ S' H' o, Ext ⟨[], S0⟩ H ⟨[], S'⟩ H' → Fz S' H' → ExD K ⟨[], S'⟩ H' fs o → E (.ref C) o H'
        | .bad => False) → Q (.ref a) H' := fun z => by
        cases e2 : fzD 8 0 s2 (.r j) with
        | none => rw [e2] at z; exact z.elim
        | some y => rw [e2] at z; exact all y (fzD_rel R' k hF (lkS_no 0 s2) 8 (.r j) y (.ref a) ((fzD_lk 0 s2 8 _).trans e2) ⟨a, ea, rfl⟩) z
      unfold exitP at ask
      simp only at ask
      cases e1 : s2[j]? with
      | none => simp only [e1] at ask; exact fzo ask
      | some so =>
        cases so with
        | ins => simp only [e1] at ask; exact fzo ask
        | dk => simp only [e1] at ask; exact fzo ask
        | dt => simp only [e1] at ask; exact fzo ask
        | exc => simp only [e1] at ask; exact fzo ask
        | lst ds =>
          simp only [e1] at ask
          cases e2 : plains ds with
          | none => simp only [e2] at ask; exact fzo ask
          | some us =>
            simp only [e2] at ask
            obtain ⟨vs', h1, h2⟩ := R'.live j a _ ea (show (lkS 0 s2)[j]? = some (.lst ds) by rw [lkS_get, if_neg (Nat.not_lt_zero _), e1]; rfl)
            exact all (.lst us) ⟨a, vs', rfl, .inr (List.mem_of_getElem? ea), h1, k.relTs _ _ (relTs_of e2 h2)⟩ ask
  | exc C fs e s2 =>
    rw [q] at ask
    intro W' σ' H' o E' R' _ xx
    exact ask W'.F H' o (toF E' (fun _ h => h) fun _ h => .inl h) R'.fz (exd_F (K := K) (W := W') (W' := ⟨[], W'.F⟩) ⟨fun _ h => h, fun _ _ _ q => q, fun _ _ q => q, fun _ _ _ q => q, fun _ _ q => q⟩ xx)
  | bk e s2 => rw [q] at ask; exact ask.elim
  | ct e s2 => rw [q] at ask; exact ask.elim
  | bad => rw [q] at ask; exact ask.elim
theorem okG (F : Fun K x qual st f fd) (S : FnScope N ps (defScope st)) {n m : Nat} (hn : ps.length = n) (hm : N.length = m)
    (body : ∀ (cd : Value) (A : Around) (outer : List PySem.Env) (s : Shared) (H : Hp) (E : XK), Room k (A.deeper (envOfC qual (defScope st) s.heap.objs.size f cd)) → A.guards = some [] →
      RSs (cxOf (L2.CX P w) P w K mg base N qual (defScope st) f cd A outer s H E) (WR E) (defBody st) g) : FnG P w K mg base (k + 1) f fd ps (spG K n (defG m g)) := by
  refine def_ok F S (spG_count hn) fun cd A outer s H vs Q E room gd ask => ⟨_, body cd A outer s H E room gd, ?_⟩
  obtain ⟨W, s0, ds, R, r, hl, ask⟩ := ask
  refine ⟨W, startE m ds, s0, R, by rw [← hm]; exact startE_rel r, ?_⟩
  unfold defG at ask
  cases q : g (startE m ds) s0 with
  | nx e s2 => rw [q] at ask; exact fun W' σ' H' E' R' _ => ask W' H' _ E' R' rfl
  | rt d s2 => rw [q] at ask; exact ask
  | exc C fs e s2 => rw [q] at ask; exact fun W' σ' H' o E' R' _ xx => ask W' H' o E' R' xx
  | bk e s2 => rw [q] at ask; exact ask.elim
  | ct e s2 => rw [q] at ask; exact ask.elim
  | bad => rw [q] at ask; exact ask.elim
theorem below_rel {K : PySem.W.Frag} {W W' : Wd} {H : Hp} {n : Nat} (hp : W'.ρ = W.ρ.take n) (k : KeepT W.F H W'.F H) {d : D} {v : V} (hb : D.below n d = true) (r : RelD K W H d v) : RelD K W' H d v := by
  cases d with
  | t x => exact k.relT x v r
  | x a o C fs => exact ⟨r.1, k.exd r.2⟩
  | r m =>
    obtain ⟨a, e, rfl⟩ := r
    refine ⟨a, ?_, rfl⟩
    rw [hp, List.getElem?_take_of_lt (of_decide_eq_true hb)]
    exact e
theorem belows_rel {K : PySem.W.Frag} {W W' : Wd} {H : Hp} {n : Nat} (hp : W'.ρ = W.ρ.take n) (k : KeepT W.F H W'.F H) : ∀ {ds : List D} {vs : List V}, ds.all (D.below n) = true → RelDs K W H ds vs → RelDs K W' H ds vs
  | [], vs, _, h => h
  | d :: ds, vs, hb, h => by
    rw [List.all_cons, Bool.and_eq_true] at hb
    obtain ⟨v, u, e, a, b⟩ := h
    exact ⟨v, u, e, below_rel hp k hb.1 a, belows_rel hp k hb.2 b⟩
theorem belows_relK {κ : Type} {K : PySem.W.Frag} {W W' : Wd} {H : Hp} {n : Nat} (hp : W'.ρ = W.ρ.take n) (k : KeepT W.F H W'.F H) : ∀ {ds : List (κ × D)} {vs : List (κ × V)}, (ds.all fun p => p.2.below n) = true → RelKs K W H ds vs → RelKs K W' H ds vs
  | [], vs, _, h => h
  | (x, d) :: ds, vs, hb, h => by
    rw [List.all_cons, Bool.and_eq_true] at hb
    obtain ⟨v, u, e, a, b⟩ := h
    exact ⟨v, u, e, below_rel hp k hb.1 a, belows_relK hp k hb.2 b⟩
/-- the new objects are let go -/
theorem Rl.trim {K : PySem.W.Frag} {W W' : Wd} {H : Hp} {s : Sto} {n : Nat} (R : Rl K W s H) (hp : W'.ρ = W.ρ.take n) (k : KeepT W.F H W'.F H) (hb : (s.take n).all (SO.below n) = true) (hs : ∀ a ∈ W.ρ.take n, ¬ W'.F a) (hf : Fz W'.F H) : Rl K W' (s.take n) H := by
  refine ⟨by rw [hp, List.length_take, List.length_take, R.len], by rw [hp]; exact R.nd.sublist (List.take_sublist _ _), fun m a o h1 h2 => ?_, fun a ha => hs a (by rw [← hp]; exact ha), hf⟩
  rw [hp] at h1
  have hm : m < n := by
    have := (List.getElem?_eq_some_iff.mp h1).1
    rw [List.length_take] at this
    omega
  have hmem : o ∈ s.take n := List.mem_of_getElem? h2
  rw [List.getElem?_take_of_lt hm] at h1 h2
  have q := R.live m a o h1 h2
  have hbo : SO.below n o = true := List.all_eq_true.mp hb o hmem
  cases o with
  | lst ds => obtain ⟨vs, q1, q2⟩ := q; exact ⟨vs, q1, belows_rel hp k hbo q2⟩
  | ins C fs => obtain ⟨dx, vs, q1, q2⟩ := q; exact ⟨dx, vs, q1, belows_relK hp k hbo q2⟩
  | dk lk fs => obtain ⟨vs, q1, q2⟩ := q; exact ⟨vs, q1, belows_relK hp k hbo q2⟩
  | dt fs => obtain ⟨vs, q1, q2⟩ := q; exact ⟨vs, q1, belows_relK hp k hbo q2⟩
  | exc C fs => obtain ⟨d, vs, q1, q3, q2⟩ := q; exact ⟨d, vs, q1, q3, belows_relK hp k hbo q2⟩
theorem okT (F : Fun K x qual st f fd) (S : FnScope N ps (defScope st)) {n m : Nat} (hn : ps.length = n) (hm : N.length = m)
    (body : ∀ (cd : Value) (A : Around) (outer : List PySem.Env) (s : Shared) (H : Hp) (E : XK), Room k (A.deeper (envOfC qual (defScope st) s.heap.objs.size f cd)) → A.guards = some [] →
      RSs (cxOf (L2.CX P w) P w K mg base N qual (defScope st) f cd A outer s H E) (WR E) (defBody st) g) : FnG P w K mg base (k + 1) f fd ps (spG K n (defT m g)) := by
  refine def_ok F S (spG_count hn) fun cd A outer s H vs Q E room gd ask => ⟨_, pss_ghost (body cd A outer s H E room gd), ?_⟩
  obtain ⟨W, s0, ds, R, r, hl, ask⟩ := ask
  refine ⟨W, startE m ds, s0, R, by rw [← hm]; exact startE_rel r, ?_⟩
  unfold defT at ask
  -- the world without the new objects
  have cut : ∀ {W' : Wd} {H' : Hp} {s2 : Sto} {S' : Addr → Prop}, Ext W H W' H' → Rl K W' s2 H' → (∀ a, W'.F a → S' a) → (∀ a, S' a → W'.F a ∨ (a ∈ W'.ρ ∧ a ∉ W.ρ)) → Fz S' H' → (s2.take s0.length).all (SO.below s0.length) = true →
      Ext W H ⟨W.ρ, S'⟩ H' ∧ Rl K ⟨W.ρ, S'⟩ (s2.take s0.length) H' := fun {W' H' s2 S'} E' R' h1 h2 fz hb => by
    have hp : W.ρ = W'.ρ.take s0.length := by
      obtain ⟨t, ht⟩ := E'.pre
      rw [← ht, ← R.len, List.take_left]
    refine ⟨⟨List.prefix_refl _, fun a h => .inl h, fun a h => h1 a (E'.fF a h), fun a h => ?_, E'.keep, E'.there, E'.lk⟩, R'.trim hp ⟨h1, fun _ _ _ q => q, fun _ _ q => q, fun _ _ _ q => q, fun _ _ q => q⟩ hb (fun a ha h => ?_) fz⟩
    · rcases h2 a h with h | ⟨h, hn⟩
      · exact E'.nF a h
      · exact (E'.new a h).elim (fun z => absurd z hn) .inr
    · rw [← hp] at ha
      rcases h2 a h with h | ⟨h, hn⟩
      · exact R'.sep a (by
          obtain ⟨t, ht⟩ := E'.pre
          rw [← ht]; exact List.mem_append_left _ ha) h
      · exact hn ha
  have fin : ∀ {d : D} {s2 : Sto}, (trim s0.length d s2).Holds (OkD K W H Q) (OkX K W H E) → OkD K W H (Gh (cxOf (L2.CX P w) P w K mg base N qual (defScope st) f cd A outer s H E) Q) d s2 := fun {d s2} ask W' H' v E' R' r' => by
    unfold Mi.trim at ask
    split at ask
    · rename_i hb
      cases d with
      | t y =>
        obtain ⟨a1, a2⟩ := cut (S' := W'.F) E' R' (fun _ h => h) (fun _ h => .inl h) R'.fz hb
        exact Gh.of <| ask _ H' v a1 a2 r'
      | x => exact ask.elim
      | r j =>
        simp only at ask
        split at ask
        · rename_i hj
          obtain ⟨a1, a2⟩ := cut (S' := W'.F) E' R' (fun _ h => h) (fun _ h => .inl h) R'.fz hb
          obtain ⟨a, ea, rfl⟩ := r'
          refine Gh.of <| ask _ H' (.ref a) a1 a2 ⟨a, ?_, rfl⟩
          obtain ⟨t, ht⟩ := E'.pre
          rw [← ht, List.getElem?_append_left (by rw [R.len]; exact hj)] at ea
          exact ea
        · rename_i hj
          obtain ⟨a, ea, rfl⟩ := r'
          intro pins σ2 sh I
          obtain ⟨H2, I2, R2, E2⟩ := lock_all s0.length I R'
          refine ⟨H2, I2, ?_⟩
          have hb : ((lkS s0.length s2).take s0.length).all (SO.below s0.length) = true := by rw [lkS_take]; exact hb
          suffices q2 : ∀ {H' : Hp}, Rl K W' (lkS s0.length s2) H' → Ext W H W' H' → Q (.ref a) H' from q2 R2 (E'.trans E2)
          clear E' R' I R2 E2 I2 H2
          intro H' R' E'
          rw [← lkS_take s0.length s2] at ask
          have out : ∀ (i : Nat) (b : Addr), s0.length ≤ i → W'.ρ[i]? = some b → b ∈ W'.ρ ∧ b ∉ W.ρ := fun i b hi e => ⟨List.mem_of_getElem? e, fun hm => by
            obtain ⟨i2, hi2, e2⟩ := List.getElem_of_mem hm
            obtain ⟨t, ht⟩ := E'.pre
            have e3 : W'.ρ[i2]? = some b := by rw [← ht, List.getElem?_append_left hi2, List.getElem?_eq_getElem hi2, e2]
            obtain ⟨k1, z1⟩ := List.getElem?_eq_some_iff.mp e3
            obtain ⟨k2, z2⟩ := List.getElem?_eq_some_iff.mp e
            have : i2 = i := (List.getElem_inj R'.nd).mp (z1.trans z2.symm)
            rw [R.len] at hi2
            omega⟩
          have all : ∀ y, RelT K (fun b => W'.F b ∨ b ∈ W'.ρ ∧ b ∉ W.ρ) H' y (.ref a) → OkD K W H Q (.t y) ((lkS s0.length s2).take s0.length) → Q (.ref a) H' := fun y ry hq => by
            obtain ⟨a1, a2⟩ := cut (S' := fun b => W'.F b ∨ b ∈ W'.ρ ∧ b ∉ W.ρ) E' R' (fun _ h => .inl h) (fun b h => h) (fun b hb => hb.elim (R'.fz b) fun h => R'.mem h.1) hb
            exact hq _ H' (.ref a) a1 a2 ry
          have k : KeepT W'.F H' (fun b => W'.F b ∨ b ∈ W'.ρ ∧ b ∉ W.ρ) H' := ⟨fun _ h => .inl h, fun _ _ _ q => q, fun _ _ q => q, fun _ _ _ q => q, fun _ _ q => q⟩
          have fzo : (okO (fzD 8 s0.length s2 (.r j)) ((lkS s0.length s2).take s0.length)).Holds (OkD K W H Q) (OkX K W H E) → Q (.ref a) H' := fun z => by
            cases e2 : fzD 8 s0.length s2 (.r j) with
            | none => rw [e2] at z; exact z.elim
            | some y => rw [e2] at z; exact all y (fzD_rel R' k (fun i b hi e => .inr (out i b hi e)) (lkS_no _ s2) 8 (.r j) y (.ref a) ((fzD_lk _ s2 8 _).trans e2) ⟨a, ea, rfl⟩) z
          cases e1 : s2[j]? with
          | none => simp only [e1] at ask; exact fzo ask
          | some so =>
            cases so with
            | ins => simp only [e1] at ask; exact fzo ask
            | dk => simp only [e1] at ask; exact fzo ask
            | dt => simp only [e1] at ask; exact fzo ask
            | exc => simp only [e1] at ask; exact fzo ask
            | lst ds =>
              simp only [e1] at ask
              cases e2 : plains ds with
              | none => simp only [e2] at ask; exact fzo ask
              | some us =>
                simp only [e2] at ask
                obtain ⟨vs', h1, h2⟩ := R'.live j a _ ea (show (lkS s0.length s2)[j]? = some (.lst ds) by rw [lkS_get, if_neg hj, e1]; rfl)
                exact all (.lst us) ⟨a, vs', rfl, .inr (out j a (by omega) ea), h1, k.relTs _ _ (relTs_of e2 h2)⟩ ask
    · exact ask.elim
  have finT : ∀ {y : T} {s2 : Sto}, (trim s0.length (.t y) s2).Holds (OkD K W H Q) (OkX K W H E) → OkD K W H Q (.t y) s2 := fun {y s2} ask W' H' v E' R' r' => by
    unfold Mi.trim at ask
    split at ask
    · rename_i hb
      obtain ⟨a1, a2⟩ := cut (S' := W'.F) E' R' (fun _ h => h) (fun _ h => .inl h) R'.fz hb
      exact ask _ H' v a1 a2 r'
    · exact ask.elim
  cases q : g (startE m ds) s0 with
  | nx e s2 => rw [q] at ask; exact fun W' σ' H' E' R' _ => finT (y := .non) ask W' H' _ E' R' rfl
  | rt d s2 => rw [q] at ask; exact fin ask
  | exc C fs e s2 =>
    rw [q] at ask
    intro W' σ' H' o E' R' _ xx
    have ask : (if (s2.take s0.length).all (SO.below s0.length) = true then Res.exc (α := D) C fs (s2.take s0.length) else .bad).Holds (OkD K W H Q) (OkX K W H E) := ask
    split at ask
    · rename_i hb
      obtain ⟨a1, a2⟩ := cut (S' := W'.F) E' R' (fun _ h => h) (fun _ h => .inl h) R'.fz hb
      exact ask _ H' o a1 a2 (exd_F (K := K) (W := W') (W' := ⟨W.ρ, W'.F⟩) ⟨fun _ h => h, fun _ _ _ q => q, fun _ _ q => q, fun _ _ _ q => q, fun _ _ q => q⟩ xx)
    · exact ask.elim
  | bk e s2 => rw [q] at ask; exact ask.elim
  | ct e s2 => rw [q] at ask; exact ask.elim
  | bad => rw [q] at ask; exact ask.elim
end
end Mi
/-! Mir7 -/
namespace Mi
open L2 PySem PySem.Spec PyProof.Rows
section
variable {X : Cx} {Wx : WX} {k : Nat}
/-! ### str(x), repr(x) -/
def showB (p : PyData) : Option D := if p.showable = true ∧ p.hasDict = false ∧ p.depth ≤ 60 ∧ p.shown.length ≤ LIM then some (sD p.shown) else none
def strB (ds : List D) (st : Sto) : Option D := match ds with
  | [.t (.str x)] => some (sD x)
  | [.t (.int i)] => if i.natAbs.log2 < 1920 then some (sD (toString i)) else none
  | [.t (.tup ts)] => (pyT (.tup ts)).bind showB
  | [.t (.lst ts)] => (pyT (.lst ts)).bind showB
  | [.r n] => (pyD st (.r n)).bind showB
  | _ => none
theorem shown_call {fv : Value} (hf : ∀ (a : Addr) (d : PyData) (as : List Addr) (s : Shared) (Q : Value → Shared → Prop), Reads s.heap (.ref a) d as → d.showable = true → d.hasDict = false → d.depth ≤ 60 → d.shown.length ≤ sizeLine →
      (∀ h' u tk, (∀ b o, s.heap.get? b = some o → h'.get? b = some o) → Q (.str d.shown u) { s with heap := h', toks := tk }) → wpAny (model X.prog X.w) X.A (call fv [.ref a]) Q X.xe s) :
    CallR X fv (fun xs H Q => ∃ (a : Addr) (p : PyData), xs = [.ref a] ∧ Dp X.K H (.ref a) p ∧ p.showable = true ∧ p.hasDict = false ∧ p.depth ≤ 60 ∧ p.shown.length ≤ LIM ∧ Q (.str p.shown) H) := by
  intro pins s σ H xs us Q I r ⟨a, p, e, hd, h1, h2, h3, h4, q⟩
  subst e
  rw [Vals.ref1 r]
  obtain ⟨as, rd⟩ := Dp.reads I p (.ref a) (.ref a) hd rfl
  refine hf a p as s _ rd h1 h2 h3 (lim_size h4) fun h' u tk hk => ?_
  exact ⟨.str p.shown, H, I.kept hk, ⟨u, rfl⟩, q⟩
theorem c_str (room : Room k X.A) (gd : X.A.guards = some []) : CallR X (.type "str") (rC X.K strB) := by
  have hs : CallR X (.type "str") _ := shown_call (fv := .type "str") fun a d as s Q rd h1 h2 h3 h4 hq =>
    str_of_reads rd h1 (fun z => by rw [h2] at z; cases z) gd (by have := room.un; omega) (fun _ _ e => e) hq h4
  refine call_of (CallR.or SkE.call_str_str (CallR.or call_str_int hs)) fun W st ds xs H Q z R r h q => ?_
  have big : ∀ (d : D) (p : PyData), (∃ a, xs = [.ref a]) → (∃ v, xs = [v] ∧ Dp X.K H v p) → showB p = some z → ∃ (a : Addr) (p : PyData), xs = [.ref a] ∧ Dp X.K H (.ref a) p ∧ p.showable = true ∧ p.hasDict = false ∧ p.depth ≤ 60 ∧ p.shown.length ≤ LIM ∧ Q (.str p.shown) H := fun d p ⟨a, e1⟩ ⟨v, e2, hd⟩ hz => by
    unfold showB at hz
    split at hz
    · rename_i c
      cases hz
      rw [e1] at e2
      cases e2
      exact ⟨a, p, e1, hd, c.1, c.2.1, c.2.2.1, c.2.2.2, q W H _ .refl R rfl⟩
    · cases hz
  unfold strB at h
  split at h
  · cases h; obtain ⟨v, rfl, r1⟩ := rel1 r; cases r1; exact .inl ⟨_, rfl, q W H _ .refl R rfl⟩
  · split at h
    · rename_i i hl
      cases h; obtain ⟨v, rfl, r1⟩ := rel1 r; cases r1; exact .inr (.inl ⟨_, rfl, hl, q W H _ .refl R rfl⟩)
    · cases h
  · rename_i ts
    cases e1 : pyT (.tup ts) with
    | none => rw [e1] at h; cases h
    | some p =>
      rw [e1] at h
      obtain ⟨v, rfl, r1⟩ := rel1 r
      have hd := dp_of (.tup ts) p v e1 r1
      obtain ⟨a, vs, rfl, _⟩ := r1
      exact .inr (.inr (big (.t (.tup ts)) p ⟨a, rfl⟩ ⟨_, rfl, hd⟩ h))
  · rename_i ts
    cases e1 : pyT (.lst ts) with
    | none => rw [e1] at h; cases h
    | some p =>
      rw [e1] at h
      obtain ⟨v, rfl, r1⟩ := rel1 r
      have hd := dp_of (.lst ts) p v e1 r1
      obtain ⟨a, vs, rfl, _⟩ := r1
      exact .inr (.inr (big (.t (.lst ts)) p ⟨a, rfl⟩ ⟨_, rfl, hd⟩ h))
  · rename_i n
    cases e1 : pyD st (.r n) with
    | none => rw [e1] at h; cases h
    | some p =>
      rw [e1] at h
      obtain ⟨v, rfl, r1⟩ := rel1 r
      have hd := dpD_of R e1 r1
      obtain ⟨a, _, rfl⟩ := r1
      exact .inr (.inr (big (.r n) p ⟨a, rfl⟩ ⟨_, rfl, hd⟩ h))
  · cases h
def reprB (ds : List D) (st : Sto) : Option D := match ds with
  | [.t .non] => some (sD "None")
  | [.t (.bl b)] => some (sD (if b then "True" else "False"))
  | [.t (.str x)] => if (reprText x).length ≤ LIM then some (sD (reprText x)) else none
  | [.t (.int i)] => if i.natAbs.log2 < 1920 then some (sD (toString i)) else none
  | [.t (.tup ts)] => (pyT (.tup ts)).bind showB
  | [.t (.lst ts)] => (pyT (.lst ts)).bind showB
  | [.r n] => (pyD st (.r n)).bind showB
  | _ => none
theorem call_repr_flat : CallR X (.builtin "repr") (fun xs H Q => (xs = [.non] ∧ Q (.str "None") H) ∨ (∃ b, xs = [.bl b] ∧ Q (.str (if b then "True" else "False")) H) ∨ ∃ x, xs = [.str x] ∧ (reprText x).length ≤ LIM ∧ Q (.str (reprText x)) H) := by
  (intro pins s σ H xs us Q I r h)
  rcases h with ⟨rfl, q⟩ | ⟨b, rfl, q⟩ | ⟨x, rfl, hl, q⟩
  · cases r with
    | cons r1 rn => cases rn; cases r1; exact PySem.P.repr_of_none ⟨.str _, H, I.tok _, ⟨_, rfl⟩, q⟩
  · cases r with
    | cons r1 rn => cases rn; cases r1; exact PySem.P.repr_of_bool ⟨.str _, H, I.tok _, ⟨_, rfl⟩, q⟩
  · cases r with
    | cons r1 rn =>
      cases rn
      obtain ⟨t, rfl⟩ := r1
      exact PySem.P.repr_of_str ⟨.str _, H, I.tok _, ⟨_, rfl⟩, q⟩ (lim_size hl)
theorem c_reprU (room : X.A.units + 200 < cLine) (gd : X.A.guards = some []) : CallR X (.builtin "repr") (rC X.K reprB) := by
  have hs : CallR X (.builtin "repr") _ := shown_call (fv := .builtin "repr") fun a d as s Q rd h1 h2 h3 h4 hq =>
    repr_of_reads' rd h1 (fun z => by rw [h2] at z; cases z) gd (by omega) (fun _ _ e => e) hq h4
  refine call_of (CallR.or call_repr_flat (CallR.or SkE.call_repr_int hs)) fun W st ds xs H Q z R r h q => ?_
  have big : ∀ (d : D) (p : PyData), (∃ a, xs = [.ref a]) → (∃ v, xs = [v] ∧ Dp X.K H v p) → showB p = some z → ∃ (a : Addr) (p : PyData), xs = [.ref a] ∧ Dp X.K H (.ref a) p ∧ p.showable = true ∧ p.hasDict = false ∧ p.depth ≤ 60 ∧ p.shown.length ≤ LIM ∧ Q (.str p.shown) H := fun d p ⟨a, e1⟩ ⟨v, e2, hd⟩ hz => by
    unfold showB at hz
    split at hz
    · rename_i c
      cases hz
      rw [e1] at e2
      cases e2
      exact ⟨a, p, e1, hd, c.1, c.2.1, c.2.2.1, c.2.2.2, q W H _ .refl R rfl⟩
    · cases hz
  unfold reprB at h
  split at h
  · cases h; obtain ⟨v, rfl, r1⟩ := rel1 r; cases r1; exact .inl (.inl ⟨rfl, q W H _ .refl R rfl⟩)
  · cases h; obtain ⟨v, rfl, r1⟩ := rel1 r; cases r1; exact .inl (.inr (.inl ⟨_, rfl, q W H _ .refl R rfl⟩))
  · split at h
    · rename_i x hl
      cases h; obtain ⟨v, rfl, r1⟩ := rel1 r; cases r1; exact .inl (.inr (.inr ⟨_, rfl, hl, q W H _ .refl R rfl⟩))
    · cases h
  · split at h
    · rename_i i hl
      cases h; obtain ⟨v, rfl, r1⟩ := rel1 r; cases r1; exact .inr (.inl ⟨_, rfl, hl, q W H _ .refl R rfl⟩)
    · cases h
  · rename_i ts
    cases e1 : pyT (.tup ts) with
    | none => rw [e1] at h; cases h
    | some p =>
      rw [e1] at h
      obtain ⟨v, rfl, r1⟩ := rel1 r
      have hd := dp_of (.tup ts) p v e1 r1
      obtain ⟨a, vs, rfl, _⟩ := r1
      exact .inr (.inr (big (.t (.tup ts)) p ⟨a, rfl⟩ ⟨_, rfl, hd⟩ h))
  · rename_i ts
    cases e1 : pyT (.lst ts) with
    | none => rw [e1] at h; cases h
    | some p =>
      rw [e1] at h
      obtain ⟨v, rfl, r1⟩ := rel1 r
      have hd := dp_of (.lst ts) p v e1 r1
      obtain ⟨a, vs, rfl, _⟩ := r1
      exact .inr (.inr (big (.t (.lst ts)) p ⟨a, rfl⟩ ⟨_, rfl, hd⟩ h))
  · rename_i n
    cases e1 : pyD st (.r n) with
    | none => rw [e1] at h; cases h
    | some p =>
      rw [e1] at h
      obtain ⟨v, rfl, r1⟩ := rel1 r
      have hd := dpD_of R e1 r1
      obtain ⟨a, _, rfl⟩ := r1
      exact .inr (.inr (big (.r n) p ⟨a, rfl⟩ ⟨_, rfl, hd⟩ h))
  · cases h
/-! ### texts -/
theorem c_repr (room : Room k X.A) (gd : X.A.guards = some []) : CallR X (.builtin "repr") (rC X.K reprB) := c_reprU (by have := room.un; omega) gd
theorem relTs_strs {K : PySem.W.Frag} {F : Addr → Prop} {H : Hp} : ∀ ys : List Str, RelTs K F H (ys.map .str) (ys.map V.str)
  | [] => rfl
  | y :: ys => ⟨.str y, _, rfl, rfl, relTs_strs ys⟩
def splitG (d : D) (ds : List D) (st : Sto) : Option (D × Sto) := match d, ds with
  | .t (.str a), [.t (.str b)] => if (b.length == 0) = false ∧ a.length + 2 ≤ LIM then some (.t (.lst ((Txt.split a b).map .str)), st) else none
  | _, _ => none
theorem m_split : MtR X "str.split" (rMt X.K splitG) := by
  intro pins s σ H x xs v us Q I rx rs ⟨W, st, d, ds, R, r1, r2, z, h, q⟩
  unfold splitG at h
  split at h
  · rename_i a b
    split at h
    · rename_i c
      cases h
      obtain ⟨w, rfl, r3⟩ := rel1 r2
      cases r1; cases r3
      refine mt_split pins s σ H _ _ v us Q I rx rs ⟨a, b, rfl, rfl, c.1, lim_size c.2, fun p hp => ?_⟩
      exact q (W.fix p) _ _ (Ext.fix W hp) (R.fix hp) ⟨p, _, rfl, .inr rfl, upd_same, relTs_strs _⟩
    · cases h
  · cases h
/-- xs.count(y), flat -/
def rCntV (K : PySem.W.Frag) : V → List V → Hp → VK → Prop := fun x xs H Q => ∃ (p : Addr) (ys : List V) (y : V), x = .ref p ∧ xs = [y] ∧ SqL K H p ys ∧ flatV y = true ∧ ys.all flatV = true ∧ Q (.int ((ys.countP fun z => eqV z y : Nat) : Int)) H
theorem count_eqU {x : V} : ∀ {xs : List V} {us : List Value}, Vals xs us → xs.all flatV = true → us.countP (eqU x) = xs.countP fun y => eqV y x
  | _, _, .nil, _ => rfl
  | _, _, .cons r t, f => by
    (rw [List.all_cons, Bool.and_eq_true] at f)
    rw [List.countP_cons, List.countP_cons, count_eqU t f.2, eqU_of r f.1]
theorem mt_countV : MtR X "list.count" (rCntV X.K) := by
  intro pins s σ H x xs v us Q I rx rxs ⟨p, ys, y, e1, e2, hs, fy, fys, q⟩
  subst e1; subst e2
  cases rx
  (obtain ⟨u, rfl, ru⟩ := rxs.one)
  (obtain ⟨its, rv, ⟨⟨cls, dd, data, sl⟩, n, ho, hc, hdn, hd⟩, hlen⟩ := I.list hs)
  simp only at hc hd
  subst hc hd
  refine call_meets PySem.F.slot_list_count ⟨_, ho, rfl⟩ PySem.F.entry_list_count (PySem.F.args_list_count_2 _ _) (SeqAt.list_countAt p its.toArray n dd sl u (eqU y)) ⟨ho, fun z hz => mem_eqAt ru fy rv fys z (by simpa using hz), ?_⟩
  have e := count_eqU rv fys (x := y)
  refine ⟨.int ((ys.countP fun z => eqV z y : Nat) : Int), H, I.tok _, ⟨s.toks, ?_⟩, q⟩
  show Value.int ((its.toArray.toList.countP (eqU y) : Nat) : Int) s.toks = _
  rw [List.toList_toArray, e]
def countG (d : D) (ds : List D) (st : Sto) : Option (D × Sto) := match ds with
  | [.t y] => (tV y).bind fun w => (lsq st d).bind fun is => (tVs is).map fun vs => (iD ((vs.countP fun z => eqV z w : Nat) : Int), st)
  | _ => none
theorem m_count : MtR X "list.count" (rMt X.K countG) := by
  intro pins s σ H x xs v us Q I rx rs ⟨W, st, d, ds, R, r1, r2, z, h, q⟩
  unfold countG at h
  split at h
  · rename_i y
    cases e1 : tV y with
    | none => rw [e1] at h; cases h
    | some w =>
      cases e2 : lsq st d with
      | none => rw [e1, e2] at h; cases h
      | some is =>
        rw [e1, e2] at h
        have h : (tVs is).map (fun vs => (iD ((vs.countP fun z => eqV z w : Nat) : Int), st)) = some z := h
        cases e3 : tVs is with
        | none => rw [e3] at h; cases h
        | some vs =>
          rw [e3] at h
          cases h
          obtain ⟨u, rfl, r3⟩ := rel1 r2
          obtain ⟨a, ws, rfl, sq, rr⟩ := lsq_rel R e2 r1
          obtain ⟨rfl, f1⟩ := tV_rel e1 r3
          obtain ⟨rfl, f2⟩ := tVs_rel e3 rr
          exact mt_countV pins s σ H _ _ v us Q I rx rs ⟨a, _, _, rfl, rfl, sq, f1, f2, q W H _ .refl R rfl⟩
  · cases h
def strsOf : List D → Option (List Str)
  | [] => some []
  | .t (.str i) :: r => (strsOf r).map (i :: ·)
  | _ => none
theorem strsOf_rel {K : PySem.W.Frag} {W : Wd} {H : Hp} : ∀ {ds : List D} {ns : List Str} {vs : List V}, strsOf ds = some ns → RelDs K W H ds vs → vs = ns.map V.str
  | [], ns, vs, h, r => by cases h; exact r
  | d :: ds, ns, vs, h, r => by
    obtain ⟨v, u, rfl, r1, r2⟩ := r
    unfold strsOf at h
    split at h
    · rename_i heq; cases heq
    · rename_i i r' heq
      cases heq
      cases e : strsOf ds with
      | none => (rw [e] at h; cases h)
      | some ms =>
        rw [e] at h
        cases h
        cases r1
        rw [strsOf_rel e r2]; rfl
    · cases h
def joinG (d : D) (ds : List D) (st : Sto) : Option (D × Sto) := match d, ds with
  | .t (.str a), [y] => (items st y).bind fun is => (strsOf is).bind fun ys => if (ys.map (·.length)).sum + ys.length * a.length ≤ LIM then some (sD (Txt.join a ys), st) else none
  | _, _ => none
theorem m_join : MtR X "str.join" (rMt X.K joinG) := by
  intro pins s σ H x xs v us Q I rx rs ⟨W, st, d, ds, R, r1, r2, z, h, q⟩
  unfold joinG at h
  split at h
  · rename_i a y
    cases e1 : items st y with
    | none => rw [e1] at h; cases h
    | some is =>
      rw [e1] at h
      have h : ((strsOf is).bind fun ys => if (ys.map (·.length)).sum + ys.length * a.length ≤ LIM then some (sD (Txt.join a ys), st) else none) = some z := h
      cases e2 : strsOf is with
      | none => rw [e2] at h; cases h
      | some ys =>
        rw [e2] at h
        have h : (if (ys.map (·.length)).sum + ys.length * a.length ≤ LIM then some (sD (Txt.join a ys), st) else none) = some z := h
        split at h
        · rename_i c
          cases h
          obtain ⟨u, rfl, r3⟩ := rel1 r2
          cases r1
          obtain ⟨p, ws, rfl, sq, rr⟩ := items_seq R e1 r3
          have e3 := strsOf_rel e2 rr
          subst e3
          exact mt_join pins s σ H _ _ v us Q I rx rs ⟨a, p, ys, rfl, rfl, sq, Nat.le_trans c (by decide), q W H _ .refl R rfl⟩
        · cases h
  · cases h
end

/-! ### what the module has written -/
mutual
/-- the module's value says this -/
def repV (K : PySem.W.Frag) : Value → T → Bool
  | .none, .non => true
  | .bool b, .bl c => b == c
  | .int i _, .int j => i == j
  | .str x _, .str y => x == y
  | .type n, .ty m => n == m
  | .ref a, .glb b => a == b
  | .ref a, .tup ts => match K.lookup a with
    | some ⟨.type "tuple", _, .seq its _, _⟩ => decide (its.size ≤ sizeLine) && repVs K its.toList ts
    | _ => false
  | .ref a, .scr ts => match K.lookup a with
    | some ⟨.type "list", none, .seq its _, _⟩ => decide (its.size ≤ sizeLine) && repVs K its.toList ts
    | _ => false
  | _, _ => false
def repVs (K : PySem.W.Frag) : List Value → List T → Bool
  | [], [] => true
  | u :: us, t :: ts => repV K u t && repVs K us ts
  | _, _ => false
end
mutual
theorem repV_ok {K : PySem.W.Frag} : ∀ {u : Value} {t : T}, repV K u t = true → ∃ v, RelV v u ∧ ∀ F H, RelT K F H t v
  | u, .ins .., h => by cases u <;> (unfold repV at h; cases h)
  | u, .dk .., h => by cases u <;> (unfold repV at h; cases h)
  | u, .dt .., h => by cases u <;> (unfold repV at h; cases h)
  | u, .nt _, h => by cases u <;> (unfold repV at h; cases h)
  | u, .non, h => by cases u <;> first | exact ⟨.non, rfl, fun _ _ => rfl⟩ | (unfold repV at h; cases h)
  | u, .bl c, h => by
    cases u <;> first | (unfold repV at h; cases h; done) | skip
    rename_i b
    unfold repV at h
    have e : b = c := beq_iff_eq.mp h
    subst e
    exact ⟨.bl b, rfl, fun _ _ => rfl⟩
  | u, .int c, h => by
    cases u <;> first | (unfold repV at h; cases h; done) | skip
    rename_i b t
    unfold repV at h
    have e : b = c := beq_iff_eq.mp h
    subst e
    exact ⟨.int b, ⟨t, rfl⟩, fun _ _ => rfl⟩
  | u, .str c, h => by
    cases u <;> first | (unfold repV at h; cases h; done) | skip
    rename_i b t
    unfold repV at h
    have e : b = c := beq_iff_eq.mp h
    subst e
    exact ⟨.str b, ⟨t, rfl⟩, fun _ _ => rfl⟩
  | u, .ty c, h => by
    cases u <;> first | (unfold repV at h; cases h; done) | skip
    rename_i b
    unfold repV at h
    have e : b = c := beq_iff_eq.mp h
    subst e
    exact ⟨.ty b, rfl, fun _ _ => rfl⟩
  | u, .glb c, h => by
    cases u <;> first | (unfold repV at h; cases h; done) | skip
    rename_i b
    unfold repV at h
    have e : b = c := beq_iff_eq.mp h
    subst e
    exact ⟨.ref b, rfl, fun _ _ => rfl⟩
  | u, .lst c, h => by cases u <;> (unfold repV at h; cases h)
  | u, .tup ts, h => by
    cases u <;> first | (unfold repV at h; cases h; done) | skip
    rename_i a
    unfold repV at h
    split at h
    · rename_i dd its n sl hk
      rw [Bool.and_eq_true] at h
      obtain ⟨vs, h1, h2⟩ := repVs_ok h.2
      exact ⟨.ref a, rfl, fun F H => ⟨a, vs, rfl, .inr (.inr ⟨_, its, n, hk, rfl, rfl, of_decide_eq_true h.1, h1⟩), h2 F H⟩⟩
    · cases h
  | u, .scr ts, h => by
    cases u <;> first | (unfold repV at h; cases h; done) | skip
    rename_i a
    unfold repV at h
    split at h
    · rename_i its n sl hk
      rw [Bool.and_eq_true] at h
      obtain ⟨vs, h1, h2⟩ := repVs_ok h.2
      exact ⟨.ref a, rfl, fun F H => ⟨a, vs, rfl, .inr ⟨_, its, n, hk, rfl, rfl, rfl, of_decide_eq_true h.1, h1⟩, h2 F H⟩⟩
    · cases h
theorem repVs_ok {K : PySem.W.Frag} : ∀ {us : List Value} {ts : List T}, repVs K us ts = true → ∃ vs, Vals vs us ∧ ∀ F H, RelTs K F H ts vs
  | [], [], _ => ⟨[], .nil, fun _ _ => rfl⟩
  | u :: us, t :: ts, h => by
    unfold repVs at h
    rw [Bool.and_eq_true] at h
    obtain ⟨v, h1, h2⟩ := repV_ok h.1
    obtain ⟨vs, h3, h4⟩ := repVs_ok h.2
    exact ⟨v :: vs, .cons h1 h3, fun F H => ⟨v, vs, rfl, h2 F H, h4 F H⟩⟩
  | [], _ :: _, h => by unfold repVs at h; cases h
  | _ :: _, [], h => by unfold repVs at h; cases h
end
/-- a constant of the module -/
def Con (K : PySem.W.Frag) (mg : Str → Option Value) (x : Str) (t : T) : Prop := ∃ u v, mg x = some u ∧ RelV v u ∧ ∀ F H, RelT K F H t v
theorem con_of {K : PySem.W.Frag} {mg : Str → Option Value} {x : Str} {u : Value} {t : T} (hm : mg x = some u) (h : repV K u t = true) : Con K mg x t := by
  obtain ⟨v, h1, h2⟩ := repV_ok h
  exact ⟨u, v, hm, h1, h2⟩
/-- a table of the module: text keys -/
def tabEs (K : PySem.W.Frag) : List DictEntry → List (Str × T) → Bool
  | [], [] => true
  | e :: es, (x, t) :: r => (match e.key with | .str y _ => y == x | _ => false) && !e.refKey && repV K e.val t && tabEs K es r
  | _, _ => false
theorem tabEs_find {K : PySem.W.Frag} : ∀ {es : List DictEntry} {tb : List (Str × T)}, tabEs K es tb = true → (es.any (·.refKey) = false) ∧ ∀ z, match tb.lookup z with
    | some t => ∃ e, es.find? (·.key.isStr z) = some e ∧ repV K e.val t = true
    | none => es.find? (·.key.isStr z) = none
  | [], [], _ => ⟨rfl, fun _ => rfl⟩
  | e :: es, (x, t) :: r, h => by
    unfold tabEs at h
    rw [Bool.and_eq_true, Bool.and_eq_true, Bool.and_eq_true] at h
    (obtain ⟨⟨⟨h1, h2⟩, h3⟩, h4⟩ := h)
    obtain ⟨i1, i2⟩ := tabEs_find h4
    refine ⟨by rw [List.any_cons, i1]; cases q : e.refKey <;> simp [q] at h2 ⊢, fun z => ?_⟩
    split at h1
    · rename_i y tk hk
      have e1 : y = x := beq_iff_eq.mp h1
      subst e1
      have ks : e.key.isStr z = (y == z) := by rw [hk]; rfl
      by_cases hz : z = y
      · subst hz
        have l : List.lookup z ((z, t) :: r) = some t := by simp [List.lookup]
        rw [l]
        exact ⟨e, by rw [List.find?_cons, ks]; simp, h3⟩
      · have hb : (z == y) = false := by simpa using hz
        have hb2 : (y == z) = false := by simpa using fun q => hz (Eq.symm q)
        have l : List.lookup z ((y, t) :: r) = List.lookup z r := by simp [List.lookup, hb]
        rw [l]
        have q := i2 z
        rw [List.find?_cons, ks, hb2]
        exact q
    · cases h1
  | [], _ :: _, h => by unfold tabEs at h; cases h
  | _ :: _, [], h => by unfold tabEs at h; cases h
structure Tab (K : PySem.W.Frag) (w : World) (mg : Str → Option Value) (x : Str) (tb : List (Str × T)) : Prop where
  ex : ∃ d es n, mg x = some (.ref d) ∧ KDict K w d es n ∧ tabEs K es.toList tb = true
section
variable {X : Cx} {Wx : WX} {a b e : Expr} {fa : Env → Sto → Res D} {x : Str} {p pos : Pos} {tb : List (Str × T)}
theorem tab_ns {K : PySem.W.Frag} {w : World} {d : Addr} {es : Array DictEntry} {n : Nat} (D : KDict K w d es n) (h : tabEs K es.toList tb = true) (z : Str) : ∃ r, PySem.W.nsIn K d z = some r ∧ match tb.lookup z with
    | some t => ∃ u, r = some u ∧ repV K u t = true
    | none => r = none := by
  obtain ⟨h1, h2⟩ := tabEs_find h
  have h3 := h2 z
  unfold PySem.W.nsIn
  rw [D.at_]
  simp only
  cases q : tb.lookup z with
  | none =>
    rw [q] at h3
    simp only at h3
    rw [h3]
    simp only [h1]
    exact ⟨none, rfl, rfl⟩
  | some t =>
    rw [q] at h3
    obtain ⟨en, e1, e2⟩ := h3
    rw [e1]
    exact ⟨some en.val, rfl, en.val, rfl, e2⟩
/-- k in TABLE, k not in TABLE, TABLE[k] -/
def tabIn (tb : List (Str × T)) (fa : Env → Sto → Res D) (env : Env) (st : Sto) : Res D := (fa env st).bind fun d st1 => match d with
  | .t (.str z) => .ok (bD (tb.lookup z).isSome) st1
  | _ => .bad
def tabNotIn (tb : List (Str × T)) (fa : Env → Sto → Res D) (env : Env) (st : Sto) : Res D := (fa env st).bind fun d st1 => match d with
  | .t (.str z) => .ok (bD (!(tb.lookup z).isSome)) st1
  | _ => .bad
def tabIx (tb : List (Str × T)) (fa : Env → Sto → Res D) (env : Env) (st : Sto) : Res D := (fa env st).bind fun d st1 => match d with
  | .t (.str z) => optR ((tb.lookup z).map .t) st1
  | _ => .bad
theorem re_tabIn (Tb : Tab X.K X.w X.mg x tb) (hg : Gl X x) (ha : RE X Wx a fa) (hd : (x == ("__debug__" : Str)) = false := by decide) (hm : behindInMarks .In (.Name x p) = false := by rfl) : RE X Wx (.Compare a [.In] [.Name x p] pos) (tabIn tb fa) := by
  obtain ⟨d, es, n, hmg, D, ht⟩ := Tb.ex
  refine PE.conv (pe_cmpR (op_in_kd D) ha (pe_glob (v := .ref d) hg hmg rfl hd) hm) fun σ H Q ⟨W, env, st, R, Ev, h⟩ => ⟨W, env, st, R, Ev, split h (fun d0 st1 h1 W1 H1 v E1 R1 r1 => ?_) fun C fs st' hx => hx⟩
  split at h1
  · rename_i z
    cases r1
    obtain ⟨r, e1, e2⟩ := tab_ns D ht z
    refine ⟨z, r, rfl, rfl, e1, ?_⟩
    have er : r.isSome = (tb.lookup z).isSome := by
      cases q : tb.lookup z with
      | none => rw [q] at e2; simp only at e2; rw [e2]; rfl
      | some t => rw [q] at e2; obtain ⟨u, e3, _⟩ := e2; rw [e3]; rfl
    rw [er]
    exact h1 W1 H1 _ E1 R1 rfl
  · exact h1.elim
theorem re_tabNotIn (Tb : Tab X.K X.w X.mg x tb) (hg : Gl X x) (ha : RE X Wx a fa) (hd : (x == ("__debug__" : Str)) = false := by decide) (hm : behindInMarks .NotIn (.Name x p) = false := by rfl) : RE X Wx (.Compare a [.NotIn] [.Name x p] pos) (tabNotIn tb fa) := by
  obtain ⟨d, es, n, hmg, D, ht⟩ := Tb.ex
  refine PE.conv (pe_cmpR (op_notIn_kd D) ha (pe_glob (v := .ref d) hg hmg rfl hd) hm) fun σ H Q ⟨W, env, st, R, Ev, h⟩ => ⟨W, env, st, R, Ev, split h (fun d0 st1 h1 W1 H1 v E1 R1 r1 => ?_) fun C fs st' hx => hx⟩
  split at h1
  · rename_i z
    cases r1
    obtain ⟨r, e1, e2⟩ := tab_ns D ht z
    refine ⟨z, r, rfl, rfl, e1, ?_⟩
    have er : r.isSome = (tb.lookup z).isSome := by
      cases q : tb.lookup z with
      | none => rw [q] at e2; simp only at e2; rw [e2]; rfl
      | some t => rw [q] at e2; obtain ⟨u, e3, _⟩ := e2; rw [e3]; rfl
    rw [er]
    exact h1 W1 H1 _ E1 R1 rfl
  · exact h1.elim
/-- TABLE[k]: the subscript of a dict of the module -/
theorem ix_kd {d : Addr} {es : Array DictEntry} {n : Nat} (D : KDict X.K X.w d es n) : IxR X (fun x y H Q => ∃ (z : Str) (u0 : Value) (v0 : V), x = .ref d ∧ y = .str z ∧ PySem.W.nsIn X.K d z = some (some u0) ∧ RelV v0 u0 ∧ Q v0 H) := by
  (intro value slice pins s σ H x y v u Q I rx ry h hs)
  obtain ⟨z, u0, v0, e1, e2, e3, r, q⟩ := h
  subst e1; subst e2
  have ty := kd_type (H := H) (σ := σ) (pins := pins) (s := s) D I
  cases rx
  obtain ⟨t, rfl⟩ := ry
  have run : wpAny (model X.prog X.w) X.A (getItem (.ref d) (.str z t)) (fun r s' => r = u0 ∧ EP X pins σ Q r s') X.xe s :=
    wpAny_getItem_of (PySem.strKind_is X.prog X.w z t) (PySem.W.mapOf_K I.kIn D.at_ D.lit) (PySem.W.find_K D.at_ e3) ⟨rfl, v0, H, I.tok _, r, q⟩
  exact subscriptTail_builtinR (x := u0) ty PySem.F.slot_dict_getitem.lookup run hs
theorem re_tabIx (Tb : Tab X.K X.w X.mg x tb) (hg : Gl X x) (ha : RE X Wx a fa) (hd : (x == ("__debug__" : Str)) = false := by decide) (hs : PlainIx a := by exact fun _ _ => rfl) : RE X Wx (.Subscript (.Name x p) a pos) (tabIx tb fa) := by
  obtain ⟨d, es, n, hmg, D, ht⟩ := Tb.ex
  refine PE.conv (pe_ix (ix_kd D) (pe_glob (v := .ref d) hg hmg rfl hd) ha hs) fun σ H Q ⟨W, env, st, R, Ev, h⟩ => ⟨W, env, st, R, Ev, split h (fun d0 st1 h1 W1 H1 v E1 R1 r1 => ?_) fun C fs st' hx => hx⟩
  split at h1
  · rename_i z
    cases r1
    obtain ⟨w', e1, q⟩ := optR_holds h1
    obtain ⟨r, e2, e3⟩ := tab_ns D ht z
    cases e4 : tb.lookup z with
    | none => rw [e4] at e1; cases e1
    | some t =>
      rw [e4] at e1 e3
      cases e1
      obtain ⟨u0, rfl, e5⟩ := e3
      obtain ⟨v0, h2, h3⟩ := repV_ok e5
      exact ⟨z, u0, v0, rfl, rfl, e2, h2, q W1 H1 v0 E1 R1 (h3 _ _)⟩
  · exact h1.elim
end
end Mi
/-! Mir8 -/
namespace Mi
open PySem PySem.Spec PyProof.Rows L2 RZ
/-! ### the law's own call -/
def script (ns : List Int) : D := .t (.scr (ns.map .int))
theorem relTs_ints {K : PySem.W.Frag} {F : Addr → Prop} {H : Hp} : ∀ ns : List Int, RelTs K F H (ns.map .int) (ns.map V.int)
  | [] => rfl
  | n :: ns => ⟨.int n, _, rfl, rfl, relTs_ints ns⟩
theorem sp_script {K : PySem.W.Frag} {F : List D → Sto → Res D} {ns : List Int} {a : Addr} {H : Hp} (hs : LkAt K H a (ns.map V.int)) (h : ∃ st, F [script ns] [] = .ok (.t (.bl true)) st) : spG K 1 F [.ref a] H (fun v _ => v = .bl true) fun _ _ _ => False := by
  obtain ⟨st, e⟩ := h
  refine ⟨⟨[], fun _ => False⟩, [], [script ns], ⟨rfl, List.nodup_nil, fun n a o h _ => by simp at h, fun a h => absurd h (by simp), fun a h => h.elim⟩, ⟨_, [], rfl, ⟨a, _, rfl, hs, relTs_ints ns⟩, rfl⟩, rfl, ?_⟩
  rw [e]
  exact fun W' H' v _ _ r => r
/-- the law's def, called with the script, gives True and leaves what stood -/
theorem law_run {P : Program} {w : World} {K : PySem.W.Frag} {mg mb : Str → Option Value} {k : Nat} {fa a : Addr} {fd : FuncData} {x : Str} {F : List D → Sto → Res D} {s : Shared} {vs : List Value} {ns : List Int}
    (KX : K.In s.heap) (hns : s.heap.Ns mainGlobals mg) (hb : s.heap.Ns builtinsNs mb) (hbb : ∀ x : Str, x ≠ "__name__" → mb x = bootBuiltins x) (hlim : s.heap.NoLimit) (hg : s.gens = #[])
    (ha : s.heap.get? a = some { cls := .type "list", data := .seq vs.toArray }) (hi : IntsAre vs ns) (hl : ns.length ≤ sizeLine) (room : Room k callerA)
    (G : ∀ base : Heap, K.In base → base.Ns mainGlobals mg → FnG P w K mg base k fa fd [x] (spG K 1 F)) (bnd : ∀ (s : Shared) (u : Value), BindsTo s fd ⟨[u], []⟩ [(x, u)])
    (hF : ∃ st, F [script ns] [] = .ok (.t (.bl true)) st) :
    codeAny (model P w) callerA (.call (.ref fa) ⟨[.ref a], []⟩) (fun r s' => r = .ok (.ret (.bool true)) ∧ OldK s.heap s'.heap ∧ s'.os = s.os ∧ AllBare s'.gens) s := by
  have rv : Vals (ns.map V.int) vs := vals_ints hi
  have many : vs.length = ns.length := hi.length
  -- H: nothing is tracked but, where it is no object of the module, the script
  have main : ∀ H : Hp, (∀ b, b ≠ a → H b = none) → (H a = none ∨ (K.lookup a = none ∧ ∃ o, H a = some (.frz o (.lst (ns.map V.int))))) → LkAt K H a (ns.map V.int) → HOk P w H s.heap →
      codeAny (model P w) callerA (.call (.ref fa) ⟨[.ref a], []⟩) (fun r s' => r = .ok (.ret (.bool true)) ∧ OldK s.heap s'.heap ∧ s'.os = s.os ∧ AllBare s'.gens) s := by
    intro H hO hA hS hok
    have free : ∀ {b : Addr} {o : Obj}, s.heap.get? b = some o → (∃ es ep, o.data = .dict es ep) → H b = none := by
      rintro b o e ⟨es, ep, d⟩
      by_cases hba : b = a
      · rw [hba] at e
        rw [ha] at e
        cases e
        cases d
      · exact hO b hba
    have ns_of : ∀ {b : Addr} {m : Str → Option Value}, s.heap.Ns b m → (hidT s.heap H).Ns b m := by
      rintro b m ⟨o, es, ep, e, d, r⟩
      exact ⟨o, es, ep, hidT_get e (free e ⟨es, ep, d⟩), d, r⟩
    have kin : K.In (hidT s.heap H) := by
      intro b o e
      refine hidT_get (KX b o e) ?_
      by_cases hba : b = a
      · subst hba
        rcases hA with h | ⟨h, _⟩
        · exact h
        · rw [h] at e; cases e
      · exact hO b hba
    obtain ⟨mc, l1, l2⟩ := hlim
    have md : Mod K mg (hidT s.heap H) := ⟨kin, ns_of hns, ⟨mb, ns_of hb, hbb⟩, mc, ns_of l1, l2⟩
    have e0 : Env0 P w K mg (hidT s.heap H) callerA [] s H := ⟨rfl, md, fun b o e => of_hidT e, Nat.le_of_eq (hidT_size _ _), trivial, fun b hb => absurd hb (by intro z; cases z), hok, .of_eq hg⟩
    have run := (G _ kin (ns_of hns)).go callerA [] s H ⟨[.ref a], []⟩ [.ref a] [.ref a] (fun v _ => v = .bl true) (fun _ _ _ => False) room rfl e0 (bnd s (.ref a)) (.cons rfl .nil) (sp_script hS hF)
    refine codeAny_mono run ?_
    intro r s' h
    cases r with
    | error e =>
      have h : L2.CX P w [] H s (fun _ _ _ => False) e s' := h
      (obtain ⟨_, _, _, _, _, _, _, _, _, _, _, _, z⟩ := h)
      exact z.elim
    | ok fl =>
      cases fl with
      | next => exact h.elim
      | brk => exact h.elim
      | cont => exact h.elim
      | ret u =>
        (obtain ⟨v, H', os, bare, un, hok', r', q⟩ := h)
        subst q
        cases r'
        refine ⟨rfl, OldK.of_keep ?_, os, bare⟩
        intro b o e
        cases q : H b with
        | none => exact un.keep b o e q (by intro z; cases z) (by simp)
        | some y =>
          have hba : b = a := Classical.byContradiction fun n => by rw [hO b n] at q; cases q
          subst hba
          rcases hA with h | ⟨_, ob, h⟩
          · rw [h] at q; cases q
          · have h2 := un.frzs b ob _ h
            have e1 := (hok b _ h).1
            have e2 := (hok' b _ h2).1
            rw [e] at e1; cases e1
            exact e2
  cases hk : K.lookup a with
  | some o =>
    have e := KX a o hk
    rw [ha] at e
    cases e
    refine main (fun _ => none) (fun _ _ => rfl) (.inl rfl) (.inr ⟨_, vs.toArray, _, hk, rfl, rfl, rfl, by rw [List.size_toArray, many]; exact hl, by simpa using rv⟩) ?_
    intro b y z
    cases z
  | none =>
    have at_a : (fun b => if b = a then some (HO.frz { cls := .type "list", data := .seq vs.toArray } (.lst (ns.map V.int))) else none) a = some (HO.frz { cls := .type "list", data := .seq vs.toArray } (.lst (ns.map V.int))) := if_pos rfl
    refine main _ (fun b h => if_neg h) (.inr ⟨hk, _, at_a⟩) (.inl ⟨_, at_a⟩) ?_
    intro b y z
    by_cases hba : b = a
    · have z := (if_pos hba).symm.trans z
      cases z
      subst hba
      (exact ⟨ha, by rw [List.length_map]; exact hl, vs, _, rv, ha⟩)
    · have z := (if_neg hba).symm.trans z
      cases z
/-- the goal that k_head leaves -/
theorem law_end {l : PySem.W.OpenLaw} {n k : Nat} {q : Program} {loose : List Str} {XP : (Str → Option Value) → Heap → Prop} {YP : World → Heap → Prop} {d : DefRec} {K : Params → PySem.W.Frag} {x : Str} {F : World → List D → Sto → Res D}
    (hn : l.most = some n) (hn2 : n ≤ sizeLine) (hdf : d.params.defaults = []) (room : Room k callerA) (hY : ∀ (w : World) (h : Heap), YP w h → (K w.params).In h)
    (G : ∀ (w : World) (mg : Str → Option Value) (fa : Addr) (h : Heap), (K w.params).In h → h.Ns mainGlobals mg → mg d.name = some (.ref fa) →
      ∃ fd : FuncData, (∀ (s : Shared) (u : Value), BindsTo s fd ⟨[u], []⟩ [(x, u)]) ∧ ∀ base : Heap, (K w.params).In base → base.Ns mainGlobals mg → FnG l.prog w (K w.params) mg base k fa fd [x] (spG (K w.params) 1 (F w)))
    (hF : ∀ (w : World) (ns : List Int), ns.length ≤ n → ∃ st, F w [script ns] [] = .ok (.t (.bl true)) st) : PySem.W.WalkO q loose XP YP l.row.toRowW d [] (fun f vs => PySem.call f vs) := by
  refine Att.attach_call hn hdf ?_
  intro w s₀ s₁ mg mb fa o pm cd doc a vs ns Gr Y ho hd hcd hmg hobj hints hlen hg
  have KX := hY w _ Y
  obtain ⟨fd, bnd, g⟩ := G w mg fa _ KX Gr.T.g hmg
  exact law_run KX Gr.T.g Gr.T.b Gr.T.builtins Gr.T.nolimit hg hobj hints (Nat.le_trans hlen hn2) room g bnd (hF w ns hlen)

/-! ### zip of two lists, of two tuples -/
def zitems (st : Sto) (d e : D) : Option (List D × List D) := match d, e with
  | .t (.tup ts), .t (.tup us) => some (ts.map .t, us.map .t)
  | d, e => (lsq st d).bind fun a => (lsq st e).map fun b => (a, b)
def zipAt (a b : List D) (i : Nat) : Option (Option D) := match a[i]?, b[i]? with
  | some (.t x), some (.t y) => some (some (.t (.tup [x, y])))
  | some _, some _ => none
  | _, _ => some none
def zipIt (d e : D) (n : Nat) : ItM := ⟨fun st i => (zitems st d e).bind fun p => zipAt p.1 p.2 i, n⟩
theorem zipAt_none {a b : List D} {i : Nat} (h : zipAt a b i = some none) : a.length ≤ i ∨ b.length ≤ i := by
  unfold zipAt at h
  split at h
  · cases h
  · cases h
  · rename_i hno1 hno2
    cases ea : a[i]? with
    | none => exact .inl (List.getElem?_eq_none_iff.mp ea)
    | some x =>
      cases eb : b[i]? with
      | none => exact .inr (List.getElem?_eq_none_iff.mp eb)
      | some y => exact absurd eb (hno2 x y ea)
theorem zipAt_some {a b : List D} {i : Nat} {d : D} (h : zipAt a b i = some (some d)) : ∃ x y, a[i]? = some (.t x) ∧ b[i]? = some (.t y) ∧ d = .t (.tup [x, y]) := by
  unfold zipAt at h
  split at h
  · rename_i x y e1 e2
    cases h
    exact ⟨x, y, e1, e2, rfl⟩
  · cases h
  · cases h
theorem JOk.zipL {K : PySem.W.Frag} {W : Wd} {H : Hp} {st : Sto} {d e : D} {a b : Addr} {n : Nat} {as bs : List D} (R : Rl K W st H) (r1 : RelD K W H d (.ref a)) (r2 : RelD K W H e (.ref b)) (h1 : lsq st d = some as) (h2 : lsq st e = some bs) :
    JOk K (Itz K a b) (zipIt d e n) W H := by
  intro W' H' st' i E' R'
  have nt : ∀ ts, d ≠ .t (.tup ts) := fun ts z => by rw [z] at h1; cases h1
  have get : ∀ o, (zipIt d e n).nth st' i = some o → ∃ as bs vs ws, zipAt as bs i = some o ∧ SqL K H' a vs ∧ SqL K H' b ws ∧ RelDs K W' H' as vs ∧ RelDs K W' H' bs ws := fun o h => by
    have h : (zitems st' d e).bind (fun p => zipAt p.1 p.2 i) = some o := h
    have z : zitems st' d e = (lsq st' d).bind fun a => (lsq st' e).map fun b => (a, b) := by
      unfold zitems
      split
      · rename_i ts us; exact absurd rfl (nt _)
      · rfl
    rw [z] at h
    cases q1 : lsq st' d with
    | none => rw [q1] at h; cases h
    | some xs =>
      cases q2 : lsq st' e with
      | none => rw [q1, q2] at h; cases h
      | some ys =>
        rw [q1, q2] at h
        obtain ⟨a', vs, e1, s1, rr1⟩ := lsq_rel R' q1 (E'.relD R r1)
        obtain ⟨b', ws, e2, s2, rr2⟩ := lsq_rel R' q2 (E'.relD R r2)
        cases e1; cases e2
        exact ⟨xs, ys, vs, ws, h, s1, s2, rr1, rr2⟩
  refine ⟨fun h => ?_, fun dd h => ?_⟩
  · obtain ⟨as, bs, vs, ws, h, s1, s2, rr1, rr2⟩ := get _ h
    exact ⟨vs, ws, s1, s2, by rw [relDs_len rr1, relDs_len rr2]; exact zipAt_none h⟩
  · obtain ⟨as, bs, vs, ws, h, s1, s2, rr1, rr2⟩ := get _ h
    obtain ⟨x, y, q1, q2, rfl⟩ := zipAt_some h
    obtain ⟨v, e3, rv⟩ := relDs_get rr1 q1
    obtain ⟨w, e4, rw'⟩ := relDs_get rr2 q2
    refine ⟨⟨vs, ws, v, w, s1, s2, e3, e4⟩, fun z H2 hy => ?_⟩
    obtain ⟨p, v', w', rfl, hp, rfl, k1, k2⟩ := hy
    have e5 : v = v' := Option.some.inj (e3.symm.trans (k1 vs s1))
    have e6 : w = w' := Option.some.inj (e4.symm.trans (k2 ws s2))
    subst e5; subst e6
    have E2 : Ext W' H' W' (upd H' p (.tup [v, w])) := R'.more hp
    exact ⟨W', E2, R'.rest hp, p, [v, w], rfl, Or.inl upd_same, v, [w], rfl, E2.relT R' _ _ rv, w, [], rfl, E2.relT R' _ _ rw', rfl⟩
theorem JOk.zipT {K : PySem.W.Frag} {W : Wd} {H : Hp} {st : Sto} {ts us : List T} {a b : Addr} {n : Nat} (R : Rl K W st H) (r1 : RelD K W H (.t (.tup ts)) (.ref a)) (r2 : RelD K W H (.t (.tup us)) (.ref b)) :
    JOk K (ItzT K a b) (zipIt (.t (.tup ts)) (.t (.tup us)) n) W H := by
  intro W' H' st' i E' R'
  obtain ⟨a2, vs, z1, q1, rr1⟩ := E'.relD R r1
  obtain ⟨b2, ws, z2, q2, rr2⟩ := E'.relD R r2
  cases z1; cases z2
  have rd1 := relDs_t (K := K) (W := W') rr1
  have rd2 := relDs_t (K := K) (W := W') rr2
  refine ⟨fun h => ?_, fun dd h => ?_⟩
  · have h : zipAt (ts.map .t) (us.map .t) i = some none := h
    exact ⟨vs, ws, q1.sq, q2.sq, by rw [relDs_len rd1, relDs_len rd2]; exact zipAt_none h⟩
  · have h : zipAt (ts.map .t) (us.map .t) i = some (some dd) := h
    obtain ⟨x, y, c1, c2, rfl⟩ := zipAt_some h
    obtain ⟨v, e3, rv⟩ := relDs_get rd1 c1
    obtain ⟨w, e4, rw'⟩ := relDs_get rd2 c2
    refine ⟨⟨vs, ws, v, w, q1.sq, q2.sq, e3, e4⟩, fun z H2 hy => ?_⟩
    obtain ⟨p, v', w', rfl, hp, rfl, k1, k2⟩ := hy
    have e5 : v = v' := Option.some.inj (e3.symm.trans (k1 vs q1.sq))
    have e6 : w = w' := Option.some.inj (e4.symm.trans (k2 ws q2.sq))
    subst e5; subst e6
    have E2 : Ext W' H' W' (upd H' p (.tup [v, w])) := R'.more hp
    exact ⟨W', E2, R'.rest hp, p, [v, w], rfl, Or.inl upd_same, v, [w], rfl, E2.relT R' _ _ rv, w, [], rfl, E2.relT R' _ _ rw', rfl⟩
def zipOf (fs : List (Env → Sto → Res D)) (env : Env) (st : Sto) : Res ItM := (argsM fs env st).bind fun ds s => match ds with
  | [d, e] => optR ((zitems s d e).map fun p => zipIt d e p.1.length) s
  | _ => .bad
section
variable {X : Cx} {Wx : WX} {a b : Expr} {pos p tpos : Pos}
theorem ri_zip {elts : List Expr} {kk : Nat} {fs : List (Env → Sto → Res D)} (hg : Gl X "zip") (hm : X.mg "zip" = none) (ha : RA X Wx [a, b] (argsM fs))
    (hs : starEach [a, b] X.env = (false, eval a X.env) :: starEach [b] X.env := by rfl) (hpl : (backTo pos (starEach [b] X.env)).any (·.1) = false := by rfl) : RI X Wx (.Tuple elts kk tpos) (.Call (.Name "zip" p) [a, b] [] pos) (zipOf fs) := by
  refine PI.conv (pi_zipA hg hm ha hs hpl) fun σ H Q ⟨W, env, st, R, Ev, h⟩ => ⟨W, env, st, R, Ev, split h (fun ds s h1 W1 H1 vs E1 R1 r1 => ?_) fun C fs st' hx => hx⟩
  split at h1
  · rename_i d e
    obtain ⟨it, e1, q⟩ := optR_holds h1
    obtain ⟨v, w, rfl, rd, re⟩ := rel2 r1
    cases q2 : zitems s d e with
    | none => rw [q2] at e1; cases e1
    | some pr =>
      rw [q2] at e1
      cases e1
      unfold zitems at q2
      split at q2
      · rename_i ts us
        obtain ⟨a1, vs1, rfl, s1, rr1⟩ := id rd
        obtain ⟨b1, vs2, rfl, s2, rr2⟩ := id re
        exact ⟨a1, b1, vs1, vs2, rfl, .inr ⟨s1.sq, s2.sq, q W1 H1 _ E1 R1 (.zipT R1 rd re)⟩⟩
      · cases z1 : lsq s d with
        | none => rw [z1] at q2; cases q2
        | some xs =>
          cases z2 : lsq s e with
          | none => rw [z1, z2] at q2; cases q2
          | some ys =>
            obtain ⟨a1, vs1, rfl, s1, rr1⟩ := lsq_rel R1 z1 rd
            obtain ⟨b1, vs2, rfl, s2, rr2⟩ := lsq_rel R1 z2 re
            exact ⟨a1, b1, vs1, vs2, rfl, .inl ⟨s1, s2, q W1 H1 _ E1 R1 (.zipL R1 rd re z1 z2)⟩⟩
  · exact h1.elim
end
end Mi
/-! Mir9 -/
namespace Mi
open PySem PySem.Spec PyProof.Rows L2 RZ
section
variable {X : Cx} {Wx : WX} {a b e l tg : Expr} {f fa fb : Env → Sto → Res D} {pos : Pos} {x : Str}
/-- a constant of the module, by name -/
theorem re_con {t : T} (C : Con X.K X.mg x t) (hg : Gl X x) (hd : (x == ("__debug__" : Str)) = false := by decide) : RE X Wx (.Name x pos) (eC t) := by
  obtain ⟨u, v, h1, h2, h3⟩ := C
  exact re_glob hg h1 h2 h3 hd
/-- + of lists where the sum is changed later -/
def addN (d e : D) (st : Sto) : Option (D × Sto) := (litems st d).bind fun ds => (litems st e).bind fun es => if ds.length + es.length ≤ LIM then some (.r st.length, st ++ [.lst (ds ++ es)]) else none
def binN (g : D → D → Sto → Option (D × Sto)) (fa fb : Env → Sto → Res D) (env : Env) (st : Sto) : Res D := (fa env st).bind fun x st1 => (fb env st1).bind fun y st2 => optS (g x y st2)
theorem re_addN (ha : RE X Wx a fa) (hb : RE X Wx b fb) : RE X Wx (.BinOp a .Add b pos) (binN addN fa fb) := by
  refine PE.conv (pe_op op_cat ha hb) fun σ H Q ⟨W, env, st, R, Ev, h⟩ => ?_
  refine ⟨W, env, st, R, Ev, split h (fun d1 st1 h1 W1 H1 v E1 R1 r1 => ⟨W1, env, st1, R1, Ev.mono E1 R, split h1 (fun d2 st2 h2 W2 H2 w E2 R2 r2 => ?_) fun C fs st' hx => hx.mono E1⟩) fun C fs st' hx => hx⟩
  obtain ⟨z, e0, q⟩ := optS_holds h2
  unfold addN at e0
  cases e1 : litems st2 d1 with
  | none => rw [e1] at e0; cases e0
  | some ds =>
    cases e2 : litems st2 d2 with
    | none => rw [e1, e2] at e0; cases e0
    | some es =>
      rw [e1, e2] at e0
      have e0 : (if ds.length + es.length ≤ LIM then some (D.r st2.length, st2 ++ [SO.lst (ds ++ es)]) else none) = some z := e0
      split at e0
      · rename_i c
        cases e0
        obtain ⟨p1, vs, rfl, q1, rr1⟩ := litems_rel R2 e1 (E2.relD R1 r1)
        obtain ⟨p2, ws, rfl, q2, rr2⟩ := litems_rel R2 e2 r2
        have l1 := relDs_len rr1
        have l2 := relDs_len rr2
        refine ⟨p1, p2, vs, ws, rfl, rfl, q1, q2, lim_size (by omega), fun p hp => ?_⟩
        exact q (W2.add p) _ _ (E1.trans (E2.trans (Ext.add W2 hp))) (R2.add hp (relDs_append rr1 rr2)) ⟨p, by
          show (W2.ρ ++ [p])[st2.length]? = some p
          rw [← R2.len, List.getElem?_append_right (Nat.le_refl _), Nat.sub_self]; rfl, rfl⟩
      · cases e0
/-- a walk over whatever it is -/
def anyIt (d : D) (s : Sto) : Res ItM := match d with
  | .t (.str x) => .ok (strIt x) s
  | .t (.tup ts) => .ok (seqIt (.t (.tup ts)) ts.length) s
  | d => optR ((lsq s d).map fun ds => seqIt d ds.length) s
def anyOf (f : Env → Sto → Res D) (env : Env) (st : Sto) : Res ItM := (f env st).bind anyIt
theorem PI.or {t1 t2 : TI} (h1 : PI X tg l t1) (h2 : PI X tg l t2) : PI X tg l (fun σ H R => t1 σ H R ∨ t2 σ H R) := ⟨fun pins s σ H R I h => h.elim (h1.run pins s σ H R I) (h2.run pins s σ H R I)⟩
theorem any_is (f : Env → Sto → Res D) (env : Env) (st : Sto) : anyOf f env st = lstOf f env st ∨ anyOf f env st = tupOf f env st ∨ anyOf f env st = strOf f env st := by
  unfold anyOf lstOf tupOf strOf
  cases f env st with
  | bad => exact .inl rfl
  | exc C fs s => exact .inl rfl
  | ok d s =>
    cases d with
    | r n => exact .inl rfl
    | x => exact .inl rfl
    | t x => cases x <;> first | exact .inl rfl | exact .inr (.inl rfl) | exact .inr (.inr rfl)
theorem ri_any (h : RE X Wx l f) : RI X Wx tg l (anyOf f) := by
  refine PI.conv (PI.or (ri_list h) (PI.or (ri_tup h) (ri_str h))) fun σ H Q ⟨W, env, st, R, Ev, q⟩ => ?_
  rcases any_is f env st with z | z | z
  · exact .inl ⟨W, env, st, R, Ev, z ▸ q⟩
  · exact .inr (.inl ⟨W, env, st, R, Ev, z ▸ q⟩)
  · exact .inr (.inr ⟨W, env, st, R, Ev, z ▸ q⟩)
/-- a * b of whole numbers, or of a tuple and a number -/
def mulA (d e : D) (st : Sto) : Option D := match d with
  | .t (.tup _) => repM d e st
  | _ => mulM d e st
theorem o_mulA : OpR X (binaryOp .Mult) (rM X.K mulA) := by
  have ho : OpR X (binaryOp .Mult) _ := OpR.or (o_mul (X := X)) o_rep
  (intro pins s σ H x y v u Q I r1 r2 h)
  refine ho pins s σ H x y v u Q I r1 r2 ?_
  obtain ⟨W, st, d, e, R, q1, q2, z, e1, q⟩ := h
  unfold mulA at e1
  split at e1
  · exact .inr ⟨W, st, _, e, R, q1, q2, z, e1, q⟩
  · exact .inl ⟨W, st, d, e, R, q1, q2, z, e1, q⟩
end
/-! ### tables as tests -/
section
variable {X : Cx} {Wx : WX} {a : Expr} {fa : Env → Sto → Res D} {x : Str} {p pos : Pos} {tb : List (Str × T)}
theorem rt_tabIn (Tb : Tab X.K X.w X.mg x tb) (hg : Gl X x) (ha : RE X Wx a fa) (hd : (x == ("__debug__" : Str)) = false := by decide) (hm : behindInMarks .In (.Name x p) = false := by rfl) : RT X Wx (.Compare a [.In] [.Name x p] pos) (fun env st => blOf (tabIn tb fa env st)) := by
  obtain ⟨d, es, n, hmg, D, ht⟩ := Tb.ex
  refine PT.conv (pt_cmpR (op_in_kd D) ha (pe_glob (v := .ref d) hg hmg rfl hd) hm) fun σ H Q ⟨W, env, st, R, Ev, h⟩ => ⟨W, env, st, R, Ev, split (split h (A' := fun dd s => (match dd with | .t (.bl k) => OkB X.K W H Q k s | _ => False)) (fun dd s hh => ?_) fun C fs st' hx => hx) (fun d0 st1 h1 W1 H1 v E1 R1 r1 => ?_) fun C fs st' hx => hx⟩
  · split at hh
    · exact hh
    · exact hh.elim
  · split at h1
    · rename_i z
      cases r1
      obtain ⟨r, e1, e2⟩ := tab_ns D ht z
      refine ⟨z, r, rfl, rfl, e1, _, rfl, ?_⟩
      have er : r.isSome = (tb.lookup z).isSome := by
        cases q : tb.lookup z with
        | none => rw [q] at e2; simp only at e2; rw [e2]; rfl
        | some t => rw [q] at e2; obtain ⟨u, e3, _⟩ := e2; rw [e3]; rfl
      rw [er]
      exact h1 W1 H1 E1 R1
    · exact h1.elim
theorem rt_tabNotIn (Tb : Tab X.K X.w X.mg x tb) (hg : Gl X x) (ha : RE X Wx a fa) (hd : (x == ("__debug__" : Str)) = false := by decide) (hm : behindInMarks .NotIn (.Name x p) = false := by rfl) : RT X Wx (.Compare a [.NotIn] [.Name x p] pos) (fun env st => blOf (tabNotIn tb fa env st)) := by
  obtain ⟨d, es, n, hmg, D, ht⟩ := Tb.ex
  refine PT.conv (pt_cmpR (op_notIn_kd D) ha (pe_glob (v := .ref d) hg hmg rfl hd) hm) fun σ H Q ⟨W, env, st, R, Ev, h⟩ => ⟨W, env, st, R, Ev, split (split h (A' := fun dd s => (match dd with | .t (.bl k) => OkB X.K W H Q k s | _ => False)) (fun dd s hh => ?_) fun C fs st' hx => hx) (fun d0 st1 h1 W1 H1 v E1 R1 r1 => ?_) fun C fs st' hx => hx⟩
  · split at hh
    · exact hh
    · exact hh.elim
  · split at h1
    · rename_i z
      cases r1
      obtain ⟨r, e1, e2⟩ := tab_ns D ht z
      refine ⟨z, r, rfl, rfl, e1, _, rfl, ?_⟩
      have er : r.isSome = (tb.lookup z).isSome := by
        cases q : tb.lookup z with
        | none => rw [q] at e2; simp only at e2; rw [e2]; rfl
        | some t => rw [q] at e2; obtain ⟨u, e3, _⟩ := e2; rw [e3]; rfl
      rw [er]
      exact h1 W1 H1 E1 R1
    · exact h1.elim
end
/-! ### no call is left -/
section
variable {P : Program} {w : World} {K : PySem.W.Frag} {mg : Str → Option Value} {base : Heap} {k n : Nat} {f : Addr} {fd : FuncData} {ps : List Str}
theorem badP (hn : ps.length = n) : FnG P w K mg base k f fd ps (spP K n fun _ => .bad) :=
  ⟨spP_count hn, fun A outer s H args us vs Q E room gd e0 bd rel ⟨_, _, _, _, _, z⟩ => z.elim⟩
theorem badG (hn : ps.length = n) : FnG P w K mg base k f fd ps (spG K n fun _ _ => .bad) :=
  ⟨spG_count hn, fun A outer s H args us vs Q E room gd e0 bd rel ⟨_, _, _, _, _, _, z⟩ => z.elim⟩
end
end Mi
/-! Mx -/
namespace Mi
open L2 PySem PySem.Spec PyProof.Rows

/-! ### own exceptions: raised, caught, looked at -/
/-- what the module must say of an own exception class with one field n -/
structure XCls (K : PySem.W.Frag) (C : Addr) (n : Str) : Prop where
  oex : OexC K C
  xf : XfC K C
  no : PySem.W.findIn K (.ref C) n = some none
  ca : (PySem.W.findIn K (.ref C) "__class__" = some (some (.builtin "object.__class__")))
  sp : PySem.W.specialIn K (.builtin "object.__class__") "__get__" = some (some (.builtin "getset_descriptor.__get__"))
  tk : PySem.W.takesIn K (.builtin "object.__class__") = some true
  mr : PySem.W.mroIn K C (.type "object") = some true
/-- the promise of an own __init__ that keeps its argument in the field n -/
def spI (n : Str) (C : Addr) : Sp := fun vs H Q E => ∃ a y, vs = [.ref a, y] ∧ H a = some (exo a C none) ∧ ∀ dx, H dx = none → dx ≠ a → Q .non (upd (upd H dx (exd dx [(n, y)])) a (exo a C (some dx)))
section
variable {P : Program} {w : World}  {K : PySem.W.Frag}  {mg : Str → Option Value} {base : Heap}
theorem init_ok {qual n sf vl : Str} {st : Stmt} {f C : Addr} {fd : FuncData} {p1 p2 p3 p4 : Pos} (F : Fun K "__init__" qual st f fd) (S : FnScope [sf, vl] [sf, vl] (defScope st)) (X : XCls K C n)
    (hb : defBody st = [.Assign [.Attribute (.Name sf p1) n p2] (.Name vl p3) p4])
    (h0 : (defScope st).names.lookup sf = some .local) (h1 : (defScope st).names.lookup vl = some .local) (d0 : (sf == ("__debug__" : Str)) = false) (c0 : (sf == ("__classdict__" : Str)) = false) (d1 : (vl == ("__debug__" : Str)) = false) (c1 : (vl == ("__classdict__" : Str)) = false)
    (hs : ∀ env, swapsWith (.Name vl p3) (some (.Attribute (.Name sf p1) n p2)) p4.line env = pure false) : FnOk P w K mg base CX0 1 f fd [sf, vl] (spI n C) := by
  refine Fun.ok (k := 0) F S (fun vs H Q E ⟨a, y, e, _⟩ => by rw [e]; rfl) fun cd A outer s H vs Q E room ⟨a, y, e, ha, q⟩ => ?_
  refine ⟨_, (by rw [hb]; exact pss_one (ps_ost (pe_var (i := 0) rfl (.inl h0) d0 c0) (pe_var (i := 1) rfl (.inl h1) d1 c1) (hs _))), ?_⟩
  subst e
  refine ⟨y, rfl, .ref a, rfl, a, C, rfl, X.oex, X.no, .inl ⟨ha, fun dx hd ne => q dx hd ne⟩⟩
end
section
variable {X : Cx} {Wx : WX} {e : Expr} {f : Env → Sto → Res D} {x n : Str} {p pos pos' : Pos}
/-- raise C(e) -/
def raiseM (C : Addr) (n : Str) (f : Env → Sto → Res D) (env : Env) (st : Sto) : Out := (f env st).out env fun d s => match d with
  | .t t => .exc C [(n, t)] env s
  | _ => .bad
theorem rs_raise {C fI : Addr} {fd : FuncData} {ps : List Str} {k : Nat} (hc : X.calm = true) (tk : Takes X Wx) (T : XCls X.K C n) (iC : PySem.W.findIn X.K (.ref C) "__init__" = some (some (.ref fI))) (tI : PySem.W.typeIn X.K (.ref fI) = some (.type "function"))
    (F1 : FnOk X.prog X.w X.K X.mg X.base CX0 k fI fd ps (spI n C)) (hr : Room (k + 1) X.A) (hb : Binds X.K fd ps []) (hg : Gl X x) (hm : X.mg x = some (.ref C)) (he : RE X Wx e f)
    (hdb : (x == ("__debug__" : Str)) = false := by decide) (hse : starEach [e] X.env = (false, eval e X.env) :: starEach [] X.env := by rfl) (hpl : (backTo pos (starEach [] X.env)).any (·.1) = false := by rfl) :
    RS X Wx (.Raise (some (.Call (.Name x p) [e] [] pos)) none pos') (raiseM C n f) := by
  refine PS.conv (ps_raise hc tk (pmk_oex T.oex iC tI F1 hr hb .nil pass0 hg hm (ra_cons he ra_nil hse) hdb hse hpl)) fun D σ H ⟨W, env, st, R, Ev, h⟩ => ?_
  refine ⟨W, env, st, R, Ev, ?_⟩
  have sp := out_split (A := fun d s => (match d with
    | .t t => Out.exc C [(n, t)] env s
    | _ => Out.bad).Holds X.K Wx D W H) (show ((f env st).out env fun d s => match d with
    | .t t => .exc C [(n, t)] env s
    | _ => Out.bad).Holds X.K Wx D W H from h) Ev R fun d s hh => hh
  show ((f env st).bind fun d st1 => (argsM [] env st1).bind fun ds st2 => .ok (d :: ds) st2).Holds _ _
  cases q : f env st with
  | bad => rw [q] at sp; exact sp
  | exc C' fs s => rw [q] at sp; exact sp
  | ok d s =>
    rw [q] at sp
    cases d with
    | r n => exact sp.elim
    | x => exact sp.elim
    | t t =>
      intro W1 H1 vs E1 R1 r1
      obtain ⟨y, u, e1, ry, ru⟩ := r1
      cases ru
      subst e1
      refine ⟨by simp, fun a ha => ⟨a, y, rfl, upd_same, fun dx hd ne => ⟨rfl, dx, [(n, y)], upd_same, by rw [upd_ne ne, upd_same], ?_, ?_⟩⟩⟩
      · rw [upd_ne ne] at hd; exact hd
      · rw [upd_ne ne] at hd
        have e2 : upd (del (upd (upd (upd H1 a (exo a C none)) dx (exd dx [(n, y)])) a (exo a C (some dx))) a) dx (.xd [(n, y)]) = upd H1 dx (.xd [(n, y)]) := by
          funext b
          by_cases hb : b = dx
          · rw [hb, upd_same, upd_same]
          · rw [upd_ne hb, upd_ne hb]
            by_cases hb2 : b = a
            · rw [hb2, del_same, ha]
            · rw [del_ne hb2, upd_ne hb2, upd_ne hb, upd_ne hb2]
        rw [e2]
        have E2 : Ext W1 H1 W1 (upd H1 dx (.xd [(n, y)])) := R1.more hd
        exact sp W1 σ _ (some dx) (E1.trans E2) (R1.rest hd) (Ev.mono (E1.trans E2) R) (.inr ⟨dx, [(n, y)], rfl, upd_same, y, [], rfl, E2.relT R1 t y ry, rfl⟩)
/-! ### try .. except C as n -/
/-- the name is gone behind the suite -/
def unset (i : Nat) : Out → Out
  | .nx e s => .nx (e.set i none) s
  | .bk e s => .bk (e.set i none) s
  | .ct e s => .ct (e.set i none) s
  | .rt d s => .rt d s
  | _ => .bad
theorem EnvR.unset {K : PySem.W.Frag} {W : Wd} {H : Hp} {env : Env} {σ : L2.St} (h : EnvR K W H env σ) (i : Nat) : EnvR K W H (env.set i none) (σ.set i none) := by
  refine ⟨by rw [List.length_set, List.length_set]; exact h.len, fun j d q => ?_⟩
  by_cases hj : i = j
  · subst hj
    by_cases hl : i < env.length
    · rw [List.getElem?_set_self hl] at q; cases q
    · rw [List.getElem?_eq_none (by rw [List.length_set]; omega)] at q; cases q
  · rw [List.getElem?_set_ne hj] at q
    obtain ⟨u, e1, r1⟩ := h.get j d q
    exact ⟨u, by rw [List.getElem?_set_ne hj]; exact e1, r1⟩
theorem unset_holds {K : PySem.W.Frag} {E : Ends} {W : Wd} {H : Hp} {i : Nat} {o : Out} (h : (unset i o).Holds K Wx E W H) :
    o.Holds K W0 { nx := fun σ' H' => E.nx (σ'.set i none) H', rt := E.rt, bk := fun σ' H' => E.bk (σ'.set i none) H', ct := fun σ' H' => E.ct (σ'.set i none) H' } W H := by
  cases o with
  | nx e s => exact fun W' σ' H' E' R' V' => h W' _ H' E' R' (V'.unset i)
  | bk e s => exact fun W' σ' H' E' R' V' => h W' _ H' E' R' (V'.unset i)
  | ct e s => exact fun W' σ' H' E' R' V' => h W' _ H' E' R' (V'.unset i)
  | rt d s => exact h
  | exc => exact h.elim
  | bad => exact h.elim
open Classical in
/-- body, and the suite where it lets out an exception of the class that isC knows: the same wherever that exception stands -/
noncomputable def tryAs (i : Nat) (isC : Addr → Option Bool) (body : Env → Sto → Out) (S : Addr → Option Addr → Addr → Env → Sto → Out) (env : Env) (st : Sto) : Out := match body env st with
  | .exc C fs e s => match isC C with
    | some true => if ∀ a o, unset i (S a o C (e.set i (some (.x a o C fs))) s) = unset i (S 0 none C (e.set i (some (.x 0 none C fs))) s) then unset i (S 0 none C (e.set i (some (.x 0 none C fs))) s) else .bad
    | some false => .exc C fs e s
    | none => .bad
  | o => o
theorem rs_tryAs {D : Addr} {i : Nat} {body suite : List Stmt} {b₀ : Stmt} {np : Pos} {isC : Addr → Option Bool} {gb : Env → Sto → Out} {S : Addr → Option Addr → Addr → Env → Sto → Out} (hs : X.stack = X.env :: X.outer) (hf : X.env.frame = some X.env.locals) (hN : X.N.Nodup) (hi : X.N[i]? = some n)
    (hln : X.env.kindOf n = some .local) (hg : Gl X x) (hm : X.mg x = some (.ref D)) (tk : Takes X Wx) (hx : ∀ C b, isC C = some b → PySem.W.exmOne X.K (.ref C) (.ref D) = some b)
    (hb : ∀ (W : WX) (pn : List (Addr × Obj)) (xe : Value → Shared → Prop), Takes (X.tr pn xe) W → PassesOwn (model X.prog X.w) X.A X.env xe → RSs (X.tr pn xe) W body gb)
    (hsu : ∀ (a : Addr) (oe : Obj) (C : Addr) (d : Option Addr) (pn : List (Addr × Obj)), isC C = some true → Zc (.ref C) d oe → (∃ vs, oe.data = .fields vs) → RSs (X.suite a ((a, oe) :: pn)) W0 (b₀ :: suite) (S a d C))
    (hdb : (x == ("__debug__" : Str)) = false := by decide) :
    RS X Wx (.Try body [.ExceptHandler (some (.Name x np)) (some n) (b₀ :: suite) pos'] [] [] pos) (tryAs i isC gb S) := by
  refine PS.conv (ps_try_as (tb := fun W => tS X.K W gb) (ts := fun a cls d => fun D σ H => ∃ C, cls = .ref C ∧ isC C = some true ∧ tS X.K W0 (S a d C) D σ H) hs hf hN hi hln ⟨hg, hdb, .inl hm⟩ tk hb (fun a oe cls d pn hz hfl => ?_)) fun E σ H ⟨W, env, st, R, Ev, h⟩ => ⟨W, env, st, R, Ev, ?_⟩
  · refine ⟨fun pins s σ H D I ⟨C, e, hC, h⟩ => ?_⟩
    subst e
    exact (hsu a oe C d pn hC hz hfl).run pins s σ H D I h
  · unfold tryAs at h
    cases q : gb env st with
    | nx e s => rw [q] at h; exact h
    | bk e s => rw [q] at h; exact h
    | ct e s => rw [q] at h; exact h
    | rt d s => rw [q] at h; exact h
    | bad => rw [q] at h; exact h
    | exc C fs e s =>
      rw [q] at h
      intro W' σ' H' o E' R' V' xx
      cases q2 : isC C with
      | none => simp only [q2] at h; exact h.elim
      | some b =>
        refine ⟨b, hx C b q2, fun hbt a ha => ?_, fun hbf => ?_⟩
        · subst hbt
          simp only [q2] at h
          split at h
          · rename_i all
            refine ⟨C, rfl, q2, W', e.set i (some (.x a o C fs)), s, R', V'.set i ⟨rfl, xx⟩, ?_⟩
            exact Out.Holds.mono (o := S a o C (e.set i (some (.x a o C fs))) s) (unset_holds (by rw [all a o]; exact h)) E'
          · exact h.elim
        · subst hbf
          simp only [q2] at h
          exact h W' σ' H' o E' R' V' xx
/-! ### the caught exception -/
/-- e.n -/
def xfM (a0 : Addr) (o0 : Option Addr) (C0 : Addr) (n : Str) (f : Env → Sto → Res D) (env : Env) (st : Sto) : Res D := (f env st).bind fun d s => match d with
  | .x a o C fs => if a = a0 ∧ o = o0 ∧ C = C0 then optR ((fs.lookup n).map .t) s else .bad
  | _ => .bad
theorem relFs_get {K : PySem.W.Frag} {W : Wd} {H : Hp} {n : Str} : ∀ {fs : List (Str × T)} {vs : List (Str × V)} {t : T}, RelFs K W H fs vs → fs.lookup n = some t → ∃ v, vs.lookup n = some v ∧ RelT K W.F H t v
  | [], vs, t, h, e => by cases e
  | (m, u) :: r, vs, t, h, e => by
    obtain ⟨v, w, rfl, a, b⟩ := h
    rw [L2.lookup_put]
    by_cases hn : n = m
    · subst hn
      rw [if_pos rfl]
      have e : some u = some t := by rw [← e]; simp [List.lookup]
      cases e
      exact ⟨v, rfl, a⟩
    · rw [if_neg hn]
      have hnm : (n == m) = false := by simpa using hn
      have e : r.lookup n = some t := by rw [← e]; simp [List.lookup, hnm]
      exact relFs_get b e
theorem re_xf {a C : Addr} {oe : Obj} {d : Option Addr} {pn : List (Addr × Obj)} (T : XCls X.K C n) (hz : Zc (.ref C) d oe) (hf : ∃ vs, oe.data = .fields vs) (he : RE (X.suite a ((a, oe) :: pn)) Wx e f)
    (hb : attributeBase e n X.env (eval e X.env) = eval e X.env := by rfl) : RE (X.suite a ((a, oe) :: pn)) Wx (.Attribute e n pos) (xfM a d C n f) := by
  refine PE.conv (pe_xf T.xf T.no hz hf he hb) fun σ H Q ⟨W, env, st, R, Ev, h⟩ => ⟨W, env, st, R, Ev, split h (fun z s h1 W1 H1 v E1 R1 r1 => ?_) fun C fs st' hx => hx⟩
  cases z with
  | t => exact h1.elim
  | r => exact h1.elim
  | x a1 o1 C1 fs =>
    dsimp only at h1
    split at h1
    · rename_i c
      obtain ⟨rfl, rfl, rfl⟩ := c
      obtain ⟨u, e1, q⟩ := optR_holds h1
      cases e2 : fs.lookup n with
      | none => rw [e2] at e1; cases e1
      | some t =>
        rw [e2] at e1
        cases e1
        obtain ⟨rfl, xx⟩ := r1
        rcases xx with rfl | ⟨dd, vs, rfl, h2, h3⟩
        · cases e2
        · obtain ⟨y, l, ry⟩ := relFs_get h3 e2
          exact ⟨rfl, rfl, dd, vs, y, rfl, h2, l, q W1 H1 y E1 R1 ry⟩
    · exact h1.elim
/-- isinstance(e, B) -/
def isXB (a0 : Addr) (o0 : Option Addr) (C0 : Addr) (kt : Addr → Addr → Option Bool) (ds : List D) (_ : Sto) : Option D := match ds with
  | [.x a o C (_ :: _), .t (.glb B)] => if a = a0 ∧ o = o0 ∧ C = C0 then (kt C B).map bD else none
  | _ => none
theorem c_isX {a C : Addr} {oe : Obj} {d : Option Addr} {pn : List (Addr × Obj)} {kt : Addr → Addr → Option Bool} (T : XCls X.K C n) (hz : Zc (.ref C) d oe) (hf : ∃ vs, oe.data = .fields vs) (hk : ∀ B b, kt C B = some b → PySem.W.kitOne X.K (.ref C) (.ref B) = some b) :
    CallR (X.suite a ((a, oe) :: pn)) (.builtin "isinstance") (rC X.K (isXB a d C kt)) := by
  intro pins s σ H xs us Q I r ⟨W, st, ds, R, r1, z, e1, q⟩
  unfold isXB at e1
  split at e1
  · rename_i a1 o1 C1 f1 fr B
    split at e1
    · rename_i c
      obtain ⟨rfl, rfl, rfl⟩ := c
      cases e2 : kt C1 B with
      | none => rw [e2] at e1; cases e1
      | some b =>
        rw [e2] at e1
        cases e1
        obtain ⟨v, w, rfl, ra, rb⟩ := rel2 r1
        cases rb
        obtain ⟨rfl, xx⟩ := ra
        cases r with
        | cons rx rr =>
          cases rr with
          | cons rt rr =>
            cases rr
            cases rx
            cases rt
            obtain ⟨hget, _⟩ := I.pin (a1, oe) (List.mem_append.mpr (.inl List.mem_cons_self))
            obtain ⟨vs, hv⟩ := hf
            rcases xx with z | ⟨dd, ws, rfl, h2, h3⟩
            · cases z
            · have hx : ObjOk X.prog X.w H s.heap dd (.xd ws) := I.hok dd _ h2
              obtain ⟨mA, hns, hr⟩ := hx
              obtain ⟨od, ho, hl⟩ := (lookIn_ns hns)
              have J : PySem.W.InstAt s.heap a1 oe C1 (some od) := ⟨hget, hz.1, by unfold PySem.W.notCls; rw [hv] <;> rfl, by rw [hz.2]; exact ho⟩
              have Z := PySem.W.kitx_exc (x := a1) (ox := oe) (od := some od) (by obtain ⟨cd, hc, _⟩ := PySem.W.any_some T.xf.hdC; rw [hc]; rfl) T.xf.ga T.xf.gg T.xf.exC T.ca T.sp T.tk T.mr
              exact PySem.W.kia_one Z I.kIn J (hk B b e2) (fun z => nomatch z) fun tk => ⟨.bl b, H, I.kept (t' := tk) fun _ _ z => z, rfl, q W H _ .refl R rfl⟩
    · cases e1
  · cases e1
theorem re_cls {B : Addr} {x : Str} (hg : Gl X x) (hm : X.mg x = some (.ref B)) (hd : (x == ("__debug__" : Str)) = false := by decide) : RE X Wx (.Name x pos) (eC (.glb B)) := re_glob hg hm (v := .ref B) rfl (fun _ _ => rfl) hd
end
/-! ### tables of classes -/
def lkB (C : Addr) : List (Addr × Bool) → Option Bool
  | [] => none
  | (a, b) :: r => if C = a then some b else lkB C r
def AllB (P : Addr → Bool → Prop) : List (Addr × Bool) → Prop
  | [] => True
  | (a, b) :: r => P a b ∧ AllB P r
theorem lkB_all {P : Addr → Bool → Prop} {C : Addr} {b : Bool} : ∀ {l : List (Addr × Bool)}, AllB P l → lkB C l = some b → P C b
  | [], _, h => by cases h
  | (a, c) :: r, hl, h => by
    have h : (if C = a then some c else lkB C r) = some b := h
    by_cases e : C = a
    · rw [if_pos e] at h
      cases h
      rw [e]
      exact hl.1
    · rw [if_neg e] at h
      exact lkB_all hl.2 h
def kt1 (B0 : Addr) (l : List (Addr × Bool)) (C B : Addr) : Option Bool := if B = B0 then lkB C l else none
theorem kt1_ok {K : PySem.W.Frag} {B0 : Addr} {l : List (Addr × Bool)} (h : AllB (fun C b => PySem.W.kitOne K (.ref C) (.ref B0) = some b) l) {C : Addr} : ∀ B b, kt1 B0 l C B = some b → PySem.W.kitOne K (.ref C) (.ref B) = some b := fun B b e => by
  unfold kt1 at e
  split at e
  · rename_i z
    subst z
    exact lkB_all h e
  · cases e
theorem un2 {k : Nat} {A : Around} (room : Room k A) : A.units + 200 < cLine := by have := room.un; omega
theorem un3 {X : Cx} {k : Nat} {a : Addr} {pn : List (Addr × Obj)} (room : Room k X.A) : (X.suite a pn).A.units + 200 < cLine := by have := room.un; show X.A.units + 200 < cLine; omega
theorem uns3 {X : Cx} {k : Nat} {a : Addr} {pn : List (Addr × Obj)} (room : Room k X.A) : (X.suite a pn).A.units + 64 < cLine := by have := room.un; show X.A.units + 64 < cLine; omega
def clsB : Stmt → List Stmt
  | .ClassDef (body := b) .. => (b)
  | _ => []
/-- the goal that k_head leaves: the mirror may ask for the addresses of the classes -/
theorem law_endX {l : PySem.W.OpenLaw} {n k : Nat} {q : Program} {loose : List Str} {XP : (Str → Option Value) → Heap → Prop} {YP : World → Heap → Prop} {d : DefRec} {K : Params → PySem.W.Frag} {x : Str} {α : Type} {m : α → List D → Sto → Res D}
    (hn : l.most = some n) (hn2 : n ≤ sizeLine) (hdf : d.params.defaults = []) (room : Room k callerA) (hY : ∀ (w : World) (h : Heap), YP w h → (K w.params).In h)
    (G : ∀ (w : World) (mg : Str → Option Value) (fa : Addr) (h : Heap), (K w.params).In h → h.Ns mainGlobals mg → mg d.name = some (.ref fa) →
      ∃ (xc : α) (fd : FuncData), (∀ (s : Shared) (u : Value), BindsTo s fd ⟨[u], []⟩ [(x, u)]) ∧ ∀ base : Heap, (K w.params).In base → base.Ns mainGlobals mg → FnG l.prog w (K w.params) mg base k fa fd [x] (spG (K w.params) 1 (m xc)))
    (hF : ∀ (xc : α) (ns : List Int), ns.length ≤ n → ∃ st, m xc [script ns] [] = .ok (.t (.bl true)) st) : PySem.W.WalkO q loose XP YP l.row.toRowW d [] (fun f vs => PySem.call f vs) := by
  refine Att.attach_call hn hdf ?_
  intro w s₀ s₁ mg mb fa o pm cd doc a vs ns Gr Y ho hd hcd hmg hobj hints hlen hg
  have KX := hY w _ Y
  obtain ⟨xc, fd, bnd, g⟩ := G w mg fa _ KX Gr.T.g hmg
  exact law_run KX Gr.T.g Gr.T.b Gr.T.builtins Gr.T.nolimit hg hobj hints (Nat.le_trans hlen hn2) room g bnd (hF xc ns hlen)
end Mi
/-! Mv1 -/
namespace Mi
open L2 PySem PySem.Spec PyProof.Rows

/-! ### what was made while an expression ran stays as it is from here on -/
/-- the world without the new objects -/
theorem cutF {K : PySem.W.Frag} {W W' : Wd} {H H' : Hp} {st s2 : Sto} (R : Rl K W st H) (E' : Ext W H W' H') (R' : Rl K W' s2 H') (hb : (s2.take st.length).all (SO.below st.length) = true) :
    Ext W H ⟨W.ρ, fun b => W'.F b ∨ b ∈ W'.ρ ∧ b ∉ W.ρ⟩ H' ∧ Rl K ⟨W.ρ, fun b => W'.F b ∨ b ∈ W'.ρ ∧ b ∉ W.ρ⟩ (s2.take st.length) H' := by
  have hp : W.ρ = W'.ρ.take st.length := by
    obtain ⟨t, ht⟩ := E'.pre
    rw [← ht, ← R.len, List.take_left]
  refine ⟨⟨List.prefix_refl _, fun a h => .inl h, fun a h => .inl (E'.fF a h), fun a h => ?_, E'.keep, E'.there, E'.lk⟩, R'.trim hp ⟨fun _ h => .inl h, fun _ _ _ q => q, fun _ _ q => q, fun _ _ _ q => q, fun _ _ q => q⟩ hb (fun a ha h => ?_) fun a h => h.elim (R'.fz a) fun h => R'.mem h.1⟩
  · rcases h with h | ⟨h, hn⟩
    · exact E'.nF a h
    · exact (E'.new a h).elim (fun z => absurd z hn) .inr
  · rw [← hp] at ha
    rcases h with h | ⟨h, hn⟩
    · exact R'.sep a (by
        obtain ⟨t, ht⟩ := E'.pre
        rw [← ht]; exact List.mem_append_left _ ha) h
    · exact hn ha
theorem newF {K : PySem.W.Frag} {W W' : Wd} {H H' : Hp} {st s2 : Sto} (R : Rl K W st H) (E' : Ext W H W' H') (R' : Rl K W' s2 H') (i : Nat) (b : Addr) (hi : st.length ≤ i) (e : W'.ρ[i]? = some b) : W'.F b ∨ b ∈ W'.ρ ∧ b ∉ W.ρ :=
  .inr ⟨List.mem_of_getElem? e, fun hm => by
    obtain ⟨i2, hi2, e2⟩ := List.getElem_of_mem hm
    obtain ⟨t, ht⟩ := E'.pre
    have e3 : W'.ρ[i2]? = some b := by rw [← ht, List.getElem?_append_left hi2, List.getElem?_eq_getElem hi2, e2]
    obtain ⟨k1, z1⟩ := List.getElem?_eq_some_iff.mp e3
    obtain ⟨k2, z2⟩ := List.getElem?_eq_some_iff.mp e
    have : i2 = i := (List.getElem_inj R'.nd).mp (z1.trans z2.symm)
    rw [R.len] at hi2
    omega⟩
def fzM (f : Env → Sto → Res D) (env : Env) (st : Sto) : Res D := (f env st).bind fun d s => if (s.take st.length).all (SO.below st.length) = true then okO (fzD 8 st.length s d) (s.take st.length) else .bad
section
variable {X : Cx} {Wx : WX} {e o : Expr} {f fo fv : Env → Sto → Res D} {x n : Str} {p pos pos' : Pos}
theorem re_fz (he : RE X Wx e f) : RE X Wx e (fzM f) := by
  refine PE.conv (pe_ghost he) fun σ H Q ⟨W, env, st, R, Ev, h⟩ => ⟨W, env, st, R, Ev, ?_⟩
  refine split h (fun d s h1 => ?_) fun C fs s hx => hx
  intro W' H' v E' R' r pins σ2 sh I
  obtain ⟨H2, I2, R2, E2⟩ := lock_all st.length I R'
  refine ⟨H2, I2, ?_⟩
  have r := E2.relD R' r
  suffices q2 : ∀ {H' : Hp}, Rl X.K W' (lkS st.length s) H' → Ext W H W' H' → RelD X.K W' H' d v → Q v H' from q2 R2 (E'.trans E2) r
  clear E' R' I R2 E2 I2 r H2
  intro H' R' E' r
  split at h1
  · rename_i hb
    rw [← lkS_take st.length s] at h1 hb
    obtain ⟨a1, a2⟩ := cutF R E' R' hb
    cases e2 : fzD 8 st.length s d with
    | none => rw [e2] at h1; exact h1.elim
    | some y =>
      rw [e2] at h1
      have k : KeepT W'.F H' (fun b => W'.F b ∨ b ∈ W'.ρ ∧ b ∉ W.ρ) H' := ⟨fun _ h => .inl h, fun _ _ _ q => q, fun _ _ q => q, fun _ _ _ q => q, fun _ _ q => q⟩
      exact h1 _ H' v a1 a2 (fzD_rel R' k (fun i b hi e => newF R E' R' i b hi e) (lkS_no _ s) 8 d y v ((fzD_lk _ s 8 _).trans e2) r)
  · exact h1.elim

/-! ### attributes of instances -/
structure FldC (K : PySem.W.Frag) (C : Addr) (f : Str) : Prop where
  c : Cls K C
  n : NoAttr K C f
/-- an attribute is put -/
def putD {α : Type} (f : Str) (y : α) : List (Str × α) → List (Str × α)
  | [] => [(f, y)]
  | (g, x) :: r => if g = f then (g, y) :: r else (g, x) :: putD f y r
theorem putD_rel {K : PySem.W.Frag} {W : Wd} {H : Hp} {f : Str} {d : D} {v : V} (r : RelD K W H d v) : ∀ {fs : List (Str × D)} {vs : List (Str × V)}, RelKs K W H fs vs → RelKs K W H (putD f d fs) (putF f v vs)
  | [], vs, h => by cases h; exact ⟨v, [], rfl, r, rfl⟩
  | (g, x) :: fs, vs, h => by
    obtain ⟨y, u, rfl, ry, ru⟩ := h
    show RelKs K W H (if g = f then (g, d) :: fs else (g, x) :: putD f d fs) (if g = f then (g, v) :: u else (g, y) :: putF f v u)
    by_cases e : g = f
    · rw [if_pos e, if_pos e]; exact ⟨v, u, rfl, r, ru⟩
    · rw [if_neg e, if_neg e]; exact ⟨y, _, rfl, ry, putD_rel r ru⟩
theorem relKs_len {κ : Type} {K : PySem.W.Frag} {W : Wd} {H : Hp} : ∀ {fs : List (κ × D)} {vs : List (κ × V)}, RelKs K W H fs vs → vs.length = fs.length
  | [], vs, h => by cases h; rfl
  | (k, d) :: r, vs, h => by
    obtain ⟨v, u, rfl, _, b⟩ := h
    rw [List.length_cons, List.length_cons, relKs_len b]
theorem relKs_get {K : PySem.W.Frag} {W : Wd} {H : Hp} {f : Str} {d : D} : ∀ {fs : List (Str × D)} {vs : List (Str × V)}, RelKs K W H fs vs → fs.lookup f = some d → ∃ v, vs.lookup f = some v ∧ RelD K W H d v
  | [], vs, h, e => by cases e
  | (g, x) :: fs, vs, h, e => by
    obtain ⟨y, u, rfl, ry, ru⟩ := h
    rw [L2.lookup_put]
    by_cases hg : f = g
    · subst hg
      rw [if_pos rfl]
      have e : some x = some d := by rw [← e]; simp [List.lookup]
      cases e
      exact ⟨y, rfl, ry⟩
    · rw [if_neg hg]
      have hb : (f == g) = false := by simpa using hg
      exact relKs_get ru (by rw [← e]; simp [List.lookup, hb])
theorem relZ_get {K : PySem.W.Frag} {F : Addr → Prop} {H : Hp} {f : Str} {t : T} : ∀ {ns : List Str} {ts : List T} {vs : List V}, RelTs K F H ts vs → (ns.zip ts).lookup f = some t → ∃ v, (ns.zip vs).lookup f = some v ∧ RelT K F H t v
  | [], ts, vs, h, e => by rw [List.zip_nil_left] at e; cases e
  | n :: ns, [], vs, h, e => by rw [List.zip_nil_right] at e; cases e
  | n :: ns, x :: ts, vs, h, e => by
    obtain ⟨y, u, rfl, ry, ru⟩ := h
    rw [List.zip_cons_cons] at e ⊢
    rw [L2.lookup_put]
    by_cases hg : f = n
    · subst hg
      rw [if_pos rfl]
      have e : some x = some t := by rw [← e]; simp [List.lookup]
      cases e
      exact ⟨y, rfl, ry⟩
    · rw [if_neg hg]
      have hb : (f == n) = false := by simpa using hg
      exact relZ_get ru (by rw [← e]; simp [List.lookup, hb])
/-- o.f = value, the object under way -/
def setAtM (cs : Addr → Bool) (f : Str) (fo fv : Env → Sto → Res D) (env : Env) (st : Sto) : Out := (fv env st).out env fun y s => (fo env s).out env fun d s2 => match d with
  | .r n => match s2[n]? with
    | some (.ins C fs) => if cs C = true ∧ fs.length < 1000 then .nx env (s2.set n (.ins C (putD f y fs))) else .bad
    | _ => .bad
  | _ => .bad
theorem rs_setAt {cs : Addr → Bool} (hcs : ∀ C, cs C = true → FldC X.K C n) (ho : RE X Wx o fo) (hv : RE X Wx e fv) (hs : swapsWith e (some (.Attribute o n pos')) pos.line X.env = pure false := by rfl) : RS X Wx (.Assign [.Attribute o n pos'] e pos) (setAtM cs n fo fv) := by
  refine PS.conv (ps_fld ho hv hs) fun E σ H ⟨W, env, st, R, Ev, h⟩ => ⟨W, env, st, R, Ev, out_split h Ev R fun y s h1 W1 H1 v E1 R1 r1 => ?_⟩
  refine ⟨W1, env, s, R1, Ev.mono E1 R, out_split (h1 : (Res.out (fo env s) env _).Holds X.K Wx E W H) Ev R (fun d s2 h2 => h2) |>.imp (fun d s2 h2 => ?_) fun C fs s2 hx => hx.mono E1⟩
  intro W2 H2 w E2 R2 r2
  cases d with
  | t x => exact h2.elim
  | x => exact h2.elim
  | r m =>
    dsimp only at h2
    cases q : s2[m]? with
    | none => rw [q] at h2; exact h2.elim
    | some so =>
      rw [q] at h2
      cases so with
      | lst => exact h2.elim
      | dk => exact h2.elim
      | dt => exact h2.elim
      | exc => exact h2.elim
      | ins C fs =>
        dsimp only at h2
        split at h2
        · rename_i c
          obtain ⟨a, ea, rfl⟩ := r2
          obtain ⟨dx, vs, q1, q2⟩ := R2.live m a _ ea q
          have fc := hcs C c.1
          refine ⟨a, C, dx, vs, rfl, q1, fc.c, fc.n, by rw [relKs_len q2]; exact c.2, ?_⟩
          have E3 : Ext W2 H2 W2 (upd H2 a (.ins C dx (putF n v vs))) := Ext.put ea q1
          have R3 := R2.putO (so := .ins C (putD n y fs)) ea q1 ⟨dx, _, upd_same, putD_rel (E3.relD R2 (E2.relD R1 r1)) ((E3.kt R2).relKs (List.prefix_refl _) q2)⟩
          exact h2 W2 σ _ (E1.trans (E2.trans E3)) R3 (((Ev.mono E1 R).mono (E2.trans E3) R1))
        · exact h2.elim
/-- o.f, an attribute of an instance -/
def fldM (cs : Addr → Bool) (f : Str) (fo : Env → Sto → Res D) (env : Env) (st : Sto) : Res D := (fo env st).bind fun d s => match d with
  | .r n => match s[n]? with
    | some (.ins C fs) => if cs C = true then optR (fs.lookup f) s else .bad
    | _ => .bad
  | .t (.ins C ns ts) => if cs C = true then optR (((ns.zip ts).lookup f).map .t) s else .bad
  | _ => .bad
theorem re_fld {cs : Addr → Bool} (hcs : ∀ C, cs C = true → FldC X.K C n) (ho : RE X Wx o fo) (hb : attributeBase o n X.env (eval o X.env) = eval o X.env := by rfl) : RE X Wx (.Attribute o n pos) (fldM cs n fo) := by
  refine PE.conv (pe_fld ho hb) fun σ H Q ⟨W, env, st, R, Ev, h⟩ => ⟨W, env, st, R, Ev, split h (fun d s h1 W1 H1 v E1 R1 r1 => ?_) fun C fs st' hx => hx⟩
  cases d with
  | x => exact h1.elim
  | r m =>
    dsimp only at h1
    cases q : s[m]? with
    | none => rw [q] at h1; exact h1.elim
    | some so =>
      rw [q] at h1
      cases so with
      | lst => exact h1.elim
      | dk => exact h1.elim
      | dt => exact h1.elim
      | exc => exact h1.elim
      | ins C fs =>
        dsimp only at h1
        split at h1
        · rename_i c
          obtain ⟨z, e1, q2⟩ := optR_holds h1
          obtain ⟨a, ea, rfl⟩ := r1
          obtain ⟨dx, vs, h2, h3⟩ := R1.live m a _ ea q
          obtain ⟨y, l, ry⟩ := relKs_get h3 e1
          exact ⟨a, C, dx, vs, y, rfl, h2, (hcs C c).c, (hcs C c).n, l, q2 W1 H1 y E1 R1 ry⟩
        · exact h1.elim
  | t x =>
    cases x with
    | ins C ns ts =>
      dsimp only at h1
      split at h1
      · rename_i c
        obtain ⟨z, e1, q2⟩ := optR_holds h1
        obtain ⟨a, dx, vs, rfl, _, h2, _, h3⟩ := r1
        cases e2 : (ns.zip ts).lookup n with
        | none => rw [e2] at e1; cases e1
        | some t =>
          rw [e2] at e1
          cases e1
          obtain ⟨y, l, ry⟩ := relZ_get h3 e2
          exact ⟨a, C, dx, _, y, rfl, h2, (hcs C c).c, (hcs C c).n, l, q2 W1 H1 y E1 R1 ry⟩
      · exact h1.elim
    | _ => exact h1.elim
end
end Mi
/-! Mv2 -/
namespace Mi
open L2 PySem PySem.Spec PyProof.Rows
theorem under_guards {A : Around} {C : Addr} {us : List Value} {kw : List (Str × Value)} (h : A.guards = some []) : (A.under (.builtin "type.__call__" ⟨.ref C :: us, kw⟩)).guards = some [] := by
  simp (config := {decide := true}) [Around.under, Code.guards, Code.isGuard, guardIds, pushGuards, h]
section
variable {X : Cx} {Wx : WX} {e o : Expr} {es : List Expr} {kws : List Keyword} {f fo fv : Env → Sto → Res D} {x n : Str} {p pos pos' kpos apos : Pos} {k : Nat} {C fI : Addr} {fd : FuncData} {ps ks : List Str} {sp : Sp} {nm : Option Str}
/-! ### keywords -/
abbrev RK (X : Cx) (Wx : WX) (kws : List Keyword) (f : Env → Sto → Res (List D)) : Prop := PK X kws (tA X.K Wx f)
theorem PK.conv {t t' : TA} (h : PK X kws t) (g : ∀ σ H Q, t' σ H Q → t σ H Q) : PK X kws t' := ⟨fun pos pins s σ H Q I q => h.run pos pins s σ H Q I (g σ H Q q)⟩
theorem rk_nil : RK X Wx [] (argsM []) := PK.conv pk_nil fun σ H Q ⟨W, env, st, R, Ev, h⟩ => h W H [] .refl R rfl
theorem rk_cons {fs : List (Env → Sto → Res D)} (ha : RE X Wx e f) (hr : RK X Wx kws (argsM fs)) : RK X Wx (⟨nm, e, kpos⟩ :: kws) (argsM (f :: fs)) := by
  refine PK.conv (pk_cons ha hr) fun σ H Q ⟨W, env, st, R, Ev, h⟩ => ⟨W, env, st, R, Ev, split h (fun d st1 h1 W1 H1 v E1 R1 r1 => ?_) fun C fs st' hx => hx⟩
  refine ⟨W1, env, st1, R1, Ev.mono E1 R, split h1 (fun ds st2 h2 W2 H2 vs E2 R2 r2 => ?_) fun C fs st' hx => hx.mono E1⟩
  exact h2 W2 H2 (v :: vs) (E1.trans E2) R2 ⟨v, vs, rfl, E2.relD R1 r1, r2⟩

/-! ### a new instance -/
theorem run_makeG {m : Nat} {pins : List (Addr × Obj)} {σ : L2.St} {H : Hp} {s : Shared} {Q : VK} {us ws : List Value} {vs zs : List V} {g : List Value → List Value → List Value} {gV : List V → List V → List V} (M : Mk X.K C fI) (G : FnG X.prog X.w X.K X.mg X.base k fI fd ps sp)
    (room : Room (k + 1) X.A) (gd : X.A.guards = some []) (tk : Takes X Wx) (hb : KBn X.K fd ps (m + 1) ks g gV) (I : Inv X pins σ H s) (r : Vals vs us) (rz : Vals zs ws) (l1 : vs.length = m) (l2 : zs.length = ks.length)
    (h : ∀ x dx, H x = none → H dx = none → dx ≠ x → sp (gV (.ref x :: vs) zs) (upd (upd H dx (.own x)) x (.ins C dx [])) (fun v H2 => v = .non ∧ Q (.ref x) H2) fun c o H' => Wx c o σ H') :
    wpAny  (model X.prog X.w) X.A (call (.ref C) us (ks.zip ws)) (EP X pins σ Q) X.xe s := by
  have ask := h (s.heap.objs.size + 1) s.heap.objs.size (I.hok.fresh (Nat.le_succ _)) (I.hok.fresh (Nat.le_refl _)) (Nat.ne_of_lt (Nat.lt_succ_self _))
  have  I2 := Inv.made (C := C) I
  have ra : Vals (V.ref (s.heap.objs.size + 1) :: vs) (Value.ref (s.heap.objs.size + 1) :: us) := .cons rfl r
  have rg := hb.rel ra rz
  have many : (Value.ref (s.heap.objs.size + 1) :: us).length = m + 1 := ra.length.symm.trans (congrArg Nat.succ l1)
  have bnd := hb.to _ (Value.ref (s.heap.objs.size + 1) :: us) ws I2.kIn many (rz.length.symm.trans l2)
  have run := G.go _ X.stack _ _ ⟨Value.ref (s.heap.objs.size + 1) :: us, ks.zip ws⟩ _ _ _ _ (room.make C us (ks.zip ws)) (under_guards gd) (I2.env0.make C us (ks.zip ws)) bnd rg ask
  refine wpAny_call (make_map (f := fI) I.kIn M.makes M.init (beq_iff_eq.mp M.fn) (codeAny_mono run ?_))
  intro res s' hq
  cases res with
  | error e => exact passAt tk σ pins _ _ e s' I2 hq
  | ok fl =>
    cases fl with
    | ret u =>
      obtain ⟨v, H', I3, rv, ev, q3⟩ := I2.after hq
      subst ev
      exact ⟨rv, V.ref (s.heap.objs.size + 1), H', I3, rfl, q3⟩
    | next => exact hq.elim
    | brk => exact hq.elim
    | cont => exact hq.elim
/-- C(e, .., k = v, ..): the new object is the last of the store; perm puts the arguments into the order of the parameters -/
def makeM (C : Addr) (m l : Nat) (perm : List D → List D → List D) (F : List D → Sto → Res D) (fs fk : List (Env → Sto → Res D)) (env : Env) (st : Sto) : Res D := (argsM fs env st).bind fun ds s => (argsM fk env s).bind fun zs s2 =>
  if ds.length = m ∧ zs.length = l then (F (perm (.r s2.length :: ds) zs) (s2 ++ [.ins C []])).bind fun d s3 => match d with
    | .t .non => .ok (.r s2.length) s3
    | _ => .bad else .bad
theorem make_new {K : PySem.W.Frag} {W : Wd} {H : Hp} {st : Sto} {C : Addr} (R : Rl K W st H) {x dx : Addr} (hx : H x = none) (hd : H dx = none) (ne : dx ≠ x) : Ext W H (W.add x) (upd (upd H dx (.own x)) x (.ins C dx [])) ∧ Rl K (W.add x) (st ++ [.ins C []]) (upd (upd H dx (.own x)) x (.ins C dx [])) := by
  have R1 : Rl K W st (upd H dx (.own x)) := R.rest hd
  have E1 : Ext W H W (upd H dx (.own x)) := R.more hd
  have hx1 : upd H dx (.own x) x = none := by rw [upd_ne (Ne.symm ne)]; exact hx
  exact ⟨E1.trans (Ext.add W hx1), R1.addO hx1 ⟨dx, [], upd_same, rfl⟩⟩
theorem make_core {m : Nat} {perm : List D → List D → List D} {gV : List V → List V → List V} {F : List D → Sto → Res D} {np : Nat} {σ : L2.St} {H : Hp} {Q : VK} {W0 : Wd} {H0 : Hp} {st0 s : Sto} {ds zs : List D} {vs ws : List V} {W1 : Wd} {env : Env}
    (hperm : ∀ {W : Wd} {H : Hp} {as bs : List D} {us ws : List V}, RelDs X.K W H as us → RelDs X.K W H bs ws → as.length = m + 1 → bs.length = ks.length → RelDs X.K W H (perm as bs) (gV us ws) ∧ (perm as bs).length = np)
    (R0 : Rl X.K W0 st0 H0) (Ev : EnvR X.K W0 H0 env σ) (E1 : Ext W0 H0 W1 H) (R1 : Rl X.K W1 s H) (rd : RelDs X.K W1 H ds vs) (rz : RelDs X.K W1 H zs ws) (l1 : ds.length = m) (l2 : zs.length = ks.length)
    (h : ((F (perm (.r s.length :: ds) zs) (s ++ [.ins C []])).bind fun d s3 => match d with
      | .t .non => Res.ok (D.r s.length) s3
      | _ => .bad).Holds (OkD X.K W0 H0 Q) (OkX X.K W0 H0 fun c o H' => Wx c o σ H')) :
    ∀ x dx, H x = none → H dx = none → dx ≠ x → spG X.K np F (gV (.ref x :: vs) ws) (upd (upd H dx (.own x)) x (.ins C dx [])) (fun v H2 => v = .non ∧ Q (.ref x) H2) fun c o H' => Wx c o σ H' := by
  intro x dx hx hd ne
  obtain ⟨E2, R2⟩ := make_new (C := C) R1 hx hd ne
  have hn : (W1.add x).ρ[s.length]? = some x := by
    show (W1.ρ ++ [x])[s.length]? = some x
    rw [← R1.len, List.getElem?_append_right (Nat.le_refl _), Nat.sub_self]; rfl
  obtain ⟨rp, lp⟩ := hperm (as := .r s.length :: ds) (us := .ref x :: vs) ⟨V.ref x, vs, rfl, ⟨x, hn, rfl⟩, E2.relDs R1 rd⟩ (E2.relDs R1 rz) (by rw [List.length_cons, l1]) l2
  refine ⟨W1.add x, _, _, R2, rp, lp, split h (fun d s3 h3 => ?_) fun C fs s3 hx => hx.mono (E1.trans E2)⟩
  intro W' H' v E' R' r'
  cases d with
  | r => exact h3.elim
  | x => exact h3.elim
  | t y =>
    cases y with
    | non =>
      cases r'
      exact ⟨rfl, h3 W' H' (.ref x) (E1.trans (E2.trans E')) R' ⟨x, pre_get E'.pre hn, rfl⟩⟩
    | _ => exact h3.elim
theorem re_makeK {m np : Nat} {perm : List D → List D → List D} {g : List Value → List Value → List Value} {gV : List V → List V → List V} {F : List D → Sto → Res D} {fs fk : List (Env → Sto → Res D)} (M : Mk X.K C fI) (G : FnG X.prog X.w X.K X.mg X.base k fI fd ps (spG X.K np F))
    (room : Room (k + 1) X.A) (gd : X.A.guards = some []) (tk : Takes X Wx) (hb : KBn X.K fd ps (m + 1) ks g gV) (hg : Gl X x) (hm : X.mg x = some (.ref C)) (ha : RA X Wx (e :: es) (argsM fs)) (hk : RK X Wx kws (argsM fk))
    (hperm : ∀ {W : Wd} {H : Hp} {as bs : List D} {us ws : List V}, RelDs X.K W H as us → RelDs X.K W H bs ws → as.length = m + 1 → bs.length = ks.length → RelDs X.K W H (perm as bs) (gV us ws) ∧ (perm as bs).length = np)
    (hall  : (backToKw pos (keywordEach kws X.env)).all (·.1.isSome) = true := by rfl) (hks : (backToKw pos (keywordEach kws X.env)).filterMap (·.1) = ks := by rfl) (hdb : (x == ("__debug__" : Str)) = false := by decide)
    (he  : starEach (e :: es) X.env = (false, eval e X.env) :: starEach es X.env := by rfl) (hpl : ((backTo pos (starEach (e :: es) X.env)).any (·.1) || (backToKw pos (keywordEach kws X.env)).any (·.1.isNone)) = false := by rfl) :
    RE X Wx (.Call (.Name x p) (e :: es) kws pos) (makeM C m ks.length perm F fs fk) := by
  refine ⟨fun pins s σ H Q I ⟨W, env, st, R, Ev, h⟩ => ?_⟩
  refine  wpAny_Call_Name_kw (ld_glob I hg hm ?_ hdb)
  refine PySem.W.callWith_KW (h₀ := X.base) I.ok.mod.kin M.kp hall (thn (ha.run pos pins s σ H (fun vs H1 => ∃ W1 s1 ds, Ext W H W1 H1 ∧ Rl X.K W1 s1 H1 ∧ RelDs X.K W1 H1 ds vs ∧ ((argsM fk env s1).bind fun zs s2 => if ds.length = m ∧ zs.length = ks.length then (F (perm (.r s2.length :: ds) zs) (s2 ++ [.ins C []])).bind fun d s3 => match d with
    | .t .non => Res.ok (D.r s2.length) s3
    | _ => .bad else .bad).Holds (OkD X.K W H Q) (OkX X.K W H fun c o H' => Wx c o σ H')) I ⟨W, env, st, R, Ev, split h (fun ds s1 h1 W1 H1 vs E1 R1 r1 => ⟨W1, s1, ds, E1, R1, r1, h1⟩) fun _ _ _ hx => hx⟩) fun us s1 ⟨vs, H1, I1, r, W1, st1, ds, E1, R1, rd, h1⟩ => ?_) hpl he
  refine thn (hk.run pos pins s1 σ H1 (fun zs H2 => ∃ W2 s2 bs, Ext W1 H1 W2 H2 ∧ Rl X.K W2 s2 H2 ∧ RelDs X.K W2 H2 bs zs ∧ (if ds.length = m ∧ bs.length = ks.length then (F (perm (.r s2.length :: ds) bs) (s2 ++ [.ins C []])).bind fun d s3 => match d with
    | .t .non => Res.ok (D.r s2.length) s3
    | _ => .bad else .bad).Holds (OkD X.K W H Q) (OkX X.K W H fun c o H' => Wx c o σ H')) I1 ⟨W1, env, st1, R1, Ev.mono E1 R, split h1 (fun bs s2 h2 W2 H2 zs E2 R2 r2 => ⟨W2, s2, bs, E2, R2, r2, h2⟩) fun _ _ _ hx => hx.mono E1⟩) fun ws s2 ⟨zs, H2, I2, rz, W2, st2, bs, E2, R2, rb, h2⟩ => ⟨I2.kIn, ?_⟩
  rw [hks]
  split at h2
  · rename_i c
    exact run_makeG M G room gd tk hb I2 r rz (by rw [relDs_len rd]; exact c.1) (by rw [relDs_len rb]; exact c.2) (make_core hperm R Ev (E1.trans E2) R2 (E2.relDs R1 rd) rb c.1 c.2 h2)
  · exact h2.elim
end
end Mi
/-! Mv3 -/
namespace Mi
open L2 PySem PySem.Spec PyProof.Rows
section
variable {X : Cx} {Wx : WX} {e o i : Expr} {es : List Expr} {f fo fv fi : Env → Sto → Res D} {x n : Str} {p pos pos' kpos apos cpos : Pos} {k : Nat} {C : Addr}
/-! ### properties -/
theorem getprop_g {g pa a dx : Addr} {fd : FuncData} {sf : Str} {sp : Sp} {fs : List (Str × V)} {pins : List (Addr × Obj)} {σ : L2.St} {H : Hp} {s : Shared} {Q : VK} {b : Bool} {E' : Value → Shared → Prop} (I : Inv X pins σ H s) (ea : H a = some (.ins C dx fs)) (c : Cls X.K C) (hp : PropOf X.K C n pa g)
    (G : FnG X.prog X.w X.K X.mg X.base k g fd [sf] sp) (room : Room (k + 1) X.A) (gd : X.A.guards = some []) (hb : Binds X.K fd [sf] []) (h : sp [.ref a] H Q fun _ _ _ => False) :
    wpAny (model X.prog X.w) X.A (getAttr (.ref a) n b) (EP X pins σ Q) E' s := by
  obtain  ⟨mA, O, _, _, _, _⟩ := ins_get I.hok ea
  obtain ⟨od, J, _⟩ := O.look
  obtain  ⟨rest, hrec⟩ := hp.rec_
  have I1 := I.tok (s.toks + 1)
  have  hc : (PySem.W.clsIn X.K C).isSome = true := by
    (obtain ⟨cd, hc, _⟩ := PySem.W.any_some c.hd)
    rw [hc]; rfl
  have bnd := hb _ [.ref a] I1.kIn rfl
  have run := G.go X.A.in1 X.stack { s with toks := s.toks + 1 } H ⟨[.ref a], []⟩ [.ref a] [.ref a] Q (fun _ _ _ => False) room.in1 gd I1.env0.in1 bnd (.cons rfl .nil) h
  refine PySem.W.get_bind I.kIn J (PySem.W.plainGet_of (c.get n)).1 (PySem.W.findObj_data hc hp.at_ hp.get hp.tak) (PySem.W.plainGet_of (c.get n)).2 (wpAny_call (PySem.W.prop_get (s := { s with toks := s.toks + 1 }) I.kIn hrec (codeAny_mono run ?_)))
  intro res s' hq
  cases res with
  | error er => obtain ⟨_, _, _, _, _, _, _, _, _, _, _, _, z⟩ := hq; exact z.elim
  | ok fl =>
    cases fl with
    | ret u =>
      obtain  ⟨v, H', I3, rv, q3⟩ := I1.after hq
      show  wpAny _ _ (handedOut u) _ _ _
      (rw [PySem.W.handedOut_of (handed_of rv)])
      exact  wpAny_pure ⟨v, H', I3, rv, q3⟩
    | next => exact hq.elim
    | brk => exact hq.elim
    | cont => exact hq.elim
/-- o.n, a property of the class, of an object that stays as it is -/
def propM (C : Addr) (F : List T → Rp) (fo : Env → Sto → Res D) (env : Env) (st : Sto) : Res D := (fo env st).bind fun d s => match d with
  | .t (.ins C' ns ts) => if C' = C then (match F [.ins C' ns ts] with
    | .ok t => .ok (.t t) s
    | _ => .bad) else .bad
  | _ => .bad
theorem re_prop {g pa : Addr} {fd : FuncData} {sf : Str} {F : List T → Rp} (c : Cls X.K C) (hp : PropOf X.K C n pa g) (G : FnG X.prog X.w X.K X.mg X.base k g fd [sf] (spP X.K 1 F)) (room : Room (k + 1) X.A) (gd : X.A.guards = some []) (hb : Binds X.K fd [sf] []) (ho : RE X Wx o fo)
    (hab : attributeBase o n X.env (eval o X.env) = eval o X.env := by rfl) : RE X Wx (.Attribute o n pos) (propM C F fo) := by
  refine ⟨fun pins s σ H Q I ⟨W, env, st, R, Ev, h⟩ => ?_⟩
  refine attr_of hab (thn (ho.run pins s σ H (fun x H1 => ∃ a dx fs, x = .ref a ∧ H1 a = some (.ins C dx fs) ∧ spP X.K 1 F [.ref a] H1 Q fun _ _ _ => False) I ⟨W, env, st, R, Ev, split h (fun d s h1 W1 H1 v E1 R1 r1 => ?_) fun _ _ _ hx => hx⟩) fun u s1 ⟨x, H1, I1, rx, a, dx, fs, ex, ea, q⟩ => ?_)
  · cases d with
    | r => exact h1.elim
    | x => exact h1.elim
    | t y =>
      cases y with
      | ins C' ns ts =>
        dsimp only at h1
        split at h1
        · rename_i ec
          subst ec
          have r1' : RelT X.K W1.F H1 (.ins C' ns ts) v := r1
          obtain ⟨a, dx, vs, rfl, _, h2, _, _⟩ := r1
          refine ⟨a, dx, _, rfl, h2, W1.F, [.ins C' ns ts], R1.fz, ⟨_, _, rfl, r1', rfl⟩, rfl, ?_⟩
          cases q : F [.ins C' ns ts] with
          | ok t =>
            rw [q] at h1
            intro S' H' w E' fz' r'
            obtain ⟨b1, b2⟩ := back R1 E' fz'
            exact h1 ⟨W1.ρ, S'⟩ H' w (E1.trans b1) b2 r'
          | exc => rw [q] at h1; exact h1.elim
          | bad => rw [q] at h1; exact h1.elim
        · exact h1.elim
      | _ => exact h1.elim
  · subst ex
    obtain  rfl : u = Value.ref a := rx
    exact getprop_g I1 ea c hp G room gd hb q
/-! ### isinstance with own classes -/
inductive TyN where
  | b (s : String) | c (C : Addr)
def TyN.val : TyN → Value
  | .b s => .type s
  | .c C => .ref C
def tyN (st : Sto) (d : D) : Option TyN := match d with
  | .t (.ins C _ _) => some (.c C)
  | .r n => match st[n]? with
    | some (.ins C _) => some (.c C)
    | _ => (tyName st (.r n)).map .b
  | d => (tyName st d).map .b
structure InsT (K : PySem.W.Frag) (C : Addr) : Prop where
  c : Cls K C
  ca  : PySem.W.findIn K (.ref C) "__class__" = some (some (.builtin "object.__class__"))
  sp : PySem.W.specialIn K (.builtin "object.__class__") "__get__" = some (some (.builtin "getset_descriptor.__get__"))
  tk : PySem.W.takesIn K (.builtin "object.__class__") = some true
  mr : PySem.W.mroIn K C (.type "object") = some true
def isiX (kt : TyN → TyN → Option Bool) (ds : List D) (st : Sto) : Option D := match ds with
  | [d, .t (.glb B)] => (tyN st d).bind fun t => (kt t (.c B)).map bD
  | [d, .t (.ty m)] => (tyN st d).bind fun t => (kt t (.b m)).map bD
  | _ => none
theorem tyN_rel {K : PySem.W.Frag} {W : Wd} {H : Hp} {st : Sto} (R : Rl K W st H) {d : D} {t : TyN} {v : V} (h : tyN st d = some t) (r : RelD K W H d v) (hc : ∀ C, t = .c C → InsT K C) : TyX K H v t.val := by
  have bas : ∀ d, (tyName st d).map TyN.b = some t → RelD K W H d v → TyX K H v t.val := fun d h r => by
    cases e : tyName st d with
    |  none => rw [e] at h; cases h
    | some s => rw [e] at h; cases h; exact (tyName_rel R e r).2
  cases d with
  | x => exact bas _ (by exact h) r
  | r n =>
    unfold tyN at h
    dsimp only at h
    split at h
    · rename_i C fs q
      cases h
      obtain ⟨a, e, rfl⟩ := r
      obtain ⟨dx, vs, q1, q2⟩ := R.live n a _ e q
      have z := hc C rfl
      exact .base (.ins q1 z.c z.ca z.sp z.tk z.mr)
    · exact bas _ (by exact h) r
  | t y =>
    cases y with
    | ins C ns ts =>
      cases h
      obtain ⟨a, dx, vs, rfl, _, q1, _, _⟩ := r
      have z := hc C rfl
      exact .base (.ins q1 z.c z.ca z.sp z.tk z.mr)
    | _ => exact bas _ (by exact h) r
theorem c_isiX {kt : TyN → TyN → Option Bool} (hk : ∀ t u b, kt t u = some b → PySem.W.kitOne X.K t.val u.val = some b) (hc : ∀ C u b, kt (.c C) u = some b → InsT X.K C) : CallR X (.builtin "isinstance") (rC X.K (isiX kt)) := call_of call_isi fun W st ds xs H Q z R r h q => by
  unfold isiX at h
  have main : ∀ d u v w, (tyN st d).bind (fun t => (kt t u).map bD) = some z → RelD X.K W H d v → ClsV w u.val → xs = [v, w] → rIsi X.K xs H Q := fun d u v w h rv cw ex => by
    cases e1 : tyN st d with
    | none => rw [e1] at h; cases h
    | some t =>
      rw [e1] at h
      have h : (kt t u).map bD = some z := h
      cases e2 : kt t u with
      | none => rw [e2] at h; cases h
      | some b =>
        rw [e2] at h
        cases h
        exact ⟨v, w, t.val, u.val, b, ex, cw, tyN_rel R e1 rv (fun C e => hc C u b (by rw [← e]; exact e2)), hk _ _ _ e2, q W H _ .refl R rfl⟩
  split at h
  · rename_i d B
    obtain ⟨v, w, ex, r1, r2⟩ := rel2 r
    cases r2
    exact main d (.c B) v _ h r1 (.own B) ex
  · rename_i d m
    obtain ⟨v, w, ex, r1, r2⟩ := rel2 r
    cases r2
    exact main d (.b m) v _ h r1 (.ty m) ex
  · cases h
end
end Mi
/-! Mv4 -/
namespace Mi
open L2 PySem PySem.Spec PyProof.Rows
/-! ### dicts as lists of pairs -/
section
variable {κ : Type} [DecidableEq κ] {K : PySem.W.Frag} {W : Wd} {H : Hp}
def putG (kvs : List (κ × D)) (k : κ) (d : D) : List (κ × D) := if (kvs.any fun kv => decide (kv.1 = k)) = true then kvs.map (fun kv => if kv.1 = k then (kv.1, d) else kv) else kvs ++ [(k, d)]
def getG {α : Type} (kvs : List (κ × α)) (k : κ) : Option α := (kvs.find? fun kv => decide (kv.1 = k)).map (·.2)
theorem relKs_any {k : κ} : ∀ {kvs : List (κ × D)} {vs : List (κ × V)}, RelKs K W H kvs vs → (vs.any fun kv => decide (kv.1 = k)) = (kvs.any fun kv => decide (kv.1 = k))
  | [], vs, h => by cases h; rfl
  | (j, d) :: r, vs, h => by
    obtain ⟨v, u, rfl, _, b⟩ := h
    rw [List.any_cons, List.any_cons, relKs_any b]
theorem relKs_map {k : κ} {d : D} {v : V} (r : RelD K W H d v) : ∀ {kvs : List (κ × D)} {vs : List (κ × V)}, RelKs K W H kvs vs → RelKs K W H (kvs.map fun kv => if kv.1 = k then (kv.1, d) else kv) (vs.map fun kv => if kv.1 = k then (kv.1, v) else kv)
  | [], vs, h => by cases h; rfl
  | (j, x) :: s, vs, h => by
    obtain ⟨y, u, rfl, a, b⟩ := h
    rw  [List.map_cons, List.map_cons]
    by_cases e : j = k
    · rw [if_pos e, if_pos e]; exact ⟨v, _, rfl, r, relKs_map r b⟩
    · rw [if_neg e, if_neg e]; exact ⟨y, _, rfl, a, relKs_map r b⟩
theorem relKs_snoc {k : κ} {d : D} {v : V} (r : RelD K W H d v) : ∀ {kvs : List (κ × D)} {vs : List (κ × V)}, RelKs K W H kvs vs → RelKs K W H (kvs ++ [(k, d)]) (vs ++ [(k, v)])
  | [], vs, h => by cases h; exact ⟨v, [], rfl, r, rfl⟩
  | (j, x) :: s, vs, h => by
    obtain ⟨y, u, rfl, a, b⟩ := h
    exact ⟨y, _, rfl, a, relKs_snoc r b⟩
theorem relKs_put {k : κ} {d : D} {v : V} (r : RelD K W H d v) {kvs : List (κ × D)} {vs : List (κ × V)} (h : RelKs K W H kvs vs) : RelKs K W H (putG kvs k d) (putK vs k v) := by
  unfold putG putK
  rw [relKs_any h]
  by_cases c : (kvs.any fun kv => decide (kv.1 = k)) = true
  · rw [if_pos c, if_pos c]; exact relKs_map r h
  · rw [if_neg c, if_neg c]; exact relKs_snoc r h
/-- what is found stands for what is found -/
def RelO (K : PySem.W.Frag) (W : Wd) (H : Hp) : Option D → Option V → Prop
  | none, none => True
  | some d, some v => RelD K W H d v
  | _, _ => False
theorem relKs_find {k : κ} : ∀ {kvs : List (κ × D)} {vs : List (κ × V)}, RelKs K W H kvs vs → Mi.RelO K W H (getG kvs k) (valV vs k)
  | [], vs, h => by cases h; exact True.intro
  | (j, x) :: s, vs, h => by
    obtain ⟨y, u, rfl, a, b⟩ := h
    by_cases e : j = k
    · rw [valV_pos e, show getG ((j, x) :: s) k = some x by simp [getG, List.find?_cons, e]]; exact a
    · rw [valV_neg e, show getG ((j, x) :: s) k = getG s k by simp [getG, List.find?_cons, e]]; exact relKs_find b
theorem relZ_find {F : Addr → Prop} {k : κ} (e : W.F = F) : ∀ {ks : List κ} {ts : List T} {vs : List V}, ks.length = ts.length → RelTs K F H ts vs → Mi.RelO K W H ((getG (ks.zip ts) k).map .t) (valV (ks.zip vs) k)
  | [], ts, vs, _, h => by rw [List.zip_nil_left, List.zip_nil_left]; exact True.intro
  | j :: ks, [], vs, l, h => by cases l
  | j :: ks, x :: ts, vs, l, h => by
    obtain ⟨y, u, rfl, a, b⟩ := h
    rw [List.zip_cons_cons, List.zip_cons_cons]
    by_cases c : j = k
    · rw [valV_pos c, show getG ((j, x) :: ks.zip ts) k = some x by simp [getG, List.find?_cons, c]]; subst e; exact a
    · rw [valV_neg c, show getG ((j, x) :: ks.zip ts) k = getG (ks.zip ts) k by simp [getG, List.find?_cons, c]]
      exact relZ_find e (Nat.succ.inj l) b
end
def keyT : L2.Key → T
  | .inl i => .int i
  | .inr s => .str s
def keyOf : D → Option L2.Key
  | .t (.int i) => some (.inl i)
  | .t (.str s) => some (.inr s)
  | _ => none
def keysOf : List T → Option (List L2.Key)
  | [] => some []
  | t :: r => (keyOf (.t t)).bind fun k => (keysOf r).map (k :: ·)
def keyTOf : D → Option (List L2.Key)
  | .t (.tup ts) => keysOf ts
  | _ => none
section
variable {K : PySem.W.Frag} {W : Wd} {H : Hp} {st : Sto}
theorem keyOf_rel {d : D} {k : L2.Key} {v : V} (h : keyOf d = some k) (r : RelD K W H d v) : v = kV k := by
  unfold keyOf at h
  split at h
  · cases h; exact r
  · cases h; exact r
  · cases h
theorem keysOf_rel {F : Addr → Prop} : ∀ {ts : List T} {ks : List L2.Key} {vs : List V}, keysOf ts = some ks → RelTs K F H ts vs → vs = ks.map kV
  | [], ks, vs, h, r => by cases h; exact r
  | t :: ts, ks, vs, h, r => by
    obtain ⟨v, u, rfl, a, b⟩ := r
    have h : ((keyOf (.t t)).bind fun k => (keysOf ts).map (k :: ·)) = some ks := h
    cases e1 : keyOf (.t t) with
    | none => rw [e1] at h; cases h
    | some k =>
      rw [e1, Option.bind_some] at h
      cases e2 : keysOf ts with
      | none => rw [e2] at h; cases h
      | some us =>
        rw [e2] at h
        cases h
        rw [keyOf_rel (W := ⟨[], F⟩) e1 a, keysOf_rel e2 b]; rfl
/-- d[y], the outer none: nothing is said -/
def dgetB (st : Sto) (d y : D) : Option (Option D) := match d with
  | .r n => match st[n]? with
    | some (.dk _ kvs) => (keyOf y).map (getG kvs)
    | _ => none
  | .t (.dk ks ts) => (keyOf y).map fun k => (getG (ks.zip ts) k).map .t
  | _ => none
theorem dget_rel (R : Rl K W st H) {d y : D} {r : Option D} {v w : V} (h : dgetB st d y = some r) (r1 : RelD K W H d v) (r2 : RelD K W H y w) : ∃ a o, v = .ref a ∧ DGet H a w o ∧ Mi.RelO K W H r o := by
  unfold dgetB at h
  split at h
  · rename_i n
    split at h
    · rename_i lk kvs q
      obtain ⟨a, e, rfl⟩ := r1
      obtain ⟨vs, q1, q2⟩ := R.live n a _ e q
      cases e2 : keyOf y with
      | none => rw [e2] at h; cases h
      | some k =>
        rw [e2] at h
        cases h
        have ew := keyOf_rel e2 r2
        subst ew
        refine ⟨a, _, rfl, .inl ⟨vs, k, ?_, rfl, rfl⟩, relKs_find q2⟩
        cases lk with
        | true => rw [if_pos rfl] at q1; exact .inr q1
        | false => rw [if_neg (by decide)] at q1; exact .inl q1
    · cases h
  · rename_i ks ts
    obtain ⟨a, vs, rfl, _, q, l, rr⟩ := r1
    cases e2 : keyOf y with
    | none => rw [e2] at h; cases h
    | some k =>
      rw [e2] at h
      cases h
      have ew := keyOf_rel e2 r2
      subst ew
      exact ⟨a, _, rfl, .inl ⟨_, k, .inr q, rfl, rfl⟩, relZ_find rfl l rr⟩
  · cases h
end
section
variable {X : Cx} {Wx : WX} {e o i : Expr} {es : List Expr} {f fo fv fi : Env → Sto → Res D} {x n : Str} {p pos pos' kpos apos cpos tpos : Pos} {k : Nat} {C : Addr}
/-- o[i], o a dict -/
def dgetM (fo fi : Env → Sto → Res D) (env : Env) (st : Sto) : Res D := (fo env st).bind fun d s => (fi env s).bind fun y s2 => match dgetB s2 d y with
  | some (some z) => .ok z s2
  | _ => .bad
theorem re_dget (hu : X.A.units + 1 < cLine) (ho : RE X Wx o fo) (hi : RE X Wx i fi) (hs : NoSl i := by intro _ _; rfl) : RE X Wx (.Subscript o i pos) (dgetM fo fi) := by
  refine PE.conv (pe_dget hu ho hi hs) fun σ H Q ⟨W, env, st, R, Ev, h⟩ => ⟨W, env, st, R, Ev, split h (fun d s h1 W1 H1 v E1 R1 r1 => ?_) fun C fs st' hx => hx⟩
  refine ⟨W1, env, s, R1, Ev.mono E1 R, split h1 (fun y s2 h2 W2 H2 w E2 R2 r2 => ?_) fun C fs st' hx => hx.mono E1⟩
  cases q : dgetB s2 d y with
  | none => rw [q] at h2; exact h2.elim
  | some z =>
    cases z with
    | none => rw [q] at h2; exact h2.elim
    | some z =>
      rw [q] at h2
      obtain ⟨a, ov, ea, g, ro⟩ := dget_rel R2 q (E2.relD R1 r1) r2
      cases ov with
      | none => exact ro.elim
      | some u => exact ⟨a, u, ea, g, h2 W2 H2 u (E1.trans E2) R2 ro⟩
/-- i in o, o a dict -/
def dinM (neg : Bool) (fi fo : Env → Sto → Res D) (env : Env) (st : Sto) : Res D := (fi env st).bind fun y s => (fo env s).bind fun d s2 => match dgetB s2 d y with
  | some z => .ok (.t (.bl (xor neg z.isSome))) s2
  | none => .bad
theorem relO_some {K : PySem.W.Frag} {W : Wd} {H : Hp} {a : Option D} {b : Option V} (h : Mi.RelO K W H a b) : b.isSome = a.isSome := by
  cases a <;> cases b <;> first | rfl | exact h.elim
theorem re_din (hu : X.A.units + 1 < cLine) (hi : RE X Wx i fi) (ho : RE X Wx o fo) (hm : behindInMarks .In o = false := by rfl) : RE X Wx (.Compare i [.In] [o] pos) (dinM false fi fo) := by
  refine PE.conv (pe_cmp (pc_din hu hi ho) hm) fun σ H Q ⟨W, env, st, R, Ev, h⟩ => ⟨W, env, st, R, Ev, split h (fun y s h1 W1 H1 w E1 R1 r1 => ?_) fun C fs st' hx => hx⟩
  refine ⟨W1, env, s, R1, Ev.mono E1 R, split h1 (fun d s2 h2 W2 H2 v E2 R2 r2 => ?_) fun C fs st' hx => hx.mono E1⟩
  cases q : dgetB s2 d y with
  | none => rw [q] at h2; exact h2.elim
  | some z =>
    rw [q] at h2
    obtain ⟨a, ov, ea, g, ro⟩ := dget_rel R2 q r2 (E2.relD R1 r1)
    refine ⟨a, ov, ea, g, h2 W2 H2 _ (E1.trans E2) R2 ?_⟩
    show V.bl ov.isSome = .bl _
    rw [relO_some ro, Bool.false_xor]
theorem re_dnotin (hu : X.A.units + 1 < cLine) (hi : RE X Wx i fi) (ho : RE X Wx o fo) (hm : behindInMarks .NotIn o = false := by rfl) : RE X Wx (.Compare i [.NotIn] [o] pos) (dinM true fi fo) := by
  refine PE.conv (pe_cmp (pc_dnotin hu hi ho) hm) fun σ H Q ⟨W, env, st, R, Ev, h⟩ => ⟨W, env, st, R, Ev, split h (fun y s h1 W1 H1 w E1 R1 r1 => ?_) fun C fs st' hx => hx⟩
  refine ⟨W1, env, s, R1, Ev.mono E1 R, split h1 (fun d s2 h2 W2 H2 v E2 R2 r2 => ?_) fun C fs st' hx => hx.mono E1⟩
  cases q : dgetB s2 d y with
  | none => rw [q] at h2; exact h2.elim
  | some z =>
    rw [q] at h2
    obtain ⟨a, ov, ea, g, ro⟩ := dget_rel R2 q r2 (E2.relD R1 r1)
    refine ⟨a, ov, ea, g, h2 W2 H2 _ (E1.trans E2) R2 ?_⟩
    show V.bl (!ov.isSome) = .bl _
    rw [relO_some ro, Bool.true_xor]
/-- o[i] = v, o a dict that is changed -/
def dputM (fo fi fv : Env → Sto → Res D) (env : Env) (st : Sto) : Out := (fv env st).out env fun z s => (fo env s).out env fun d s2 => (fi env s2).out env fun y s3 => match d, keyOf y with
  | .r m, some k => match s3[m]? with
    | some (.dk false kvs) => if kvs.length < LIM then .nx env (s3.set m (.dk false (putG kvs k z))) else .bad
    | _ => .bad
  | _, _ => .bad
theorem rs_dput (hu : X.A.units + 1 < cLine) (ho : RE X Wx o fo) (hi : RE X Wx i fi) (hv : RE X Wx e fv) (hs : swapsWith e (some (.Subscript o i pos')) pos.line X.env = pure false := by rfl) : RS X Wx (.Assign [.Subscript o i pos'] e pos) (dputM fo fi fv) := by
  refine PS.conv (ps_dput hu ho hi hv hs) fun E σ H ⟨W, env, st, R, Ev, h⟩ => ⟨W, env, st, R, Ev, out_split h Ev R fun z s h1 W1 H1 u E1 R1 r1 => ?_⟩
  refine ⟨W1, env, s, R1, Ev.mono E1 R, (out_split h1 Ev R fun d s2 h2 => h2).imp (fun d s2 h2 W2 H2 v E2 R2 r2 => ?_) fun C fs s2 hx => hx.mono E1⟩
  refine ⟨W2, env, s2, R2, (Ev.mono E1 R).mono E2 R1, (out_split h2 Ev R fun y s3 h3 => h3).imp (fun y s3 h3 W3 H3 w E3 R3 r3 => ?_) fun C fs s3 hx => hx.mono (E1.trans E2)⟩
  split at h3
  · rename_i m k ek
    split at h3
    · rename_i kvs q
      split at h3
      · rename_i hl
        obtain ⟨a, ea, rfl⟩ := E3.relD R2 r2
        obtain ⟨vs, q1, q2⟩ := R3.live m a _ ea q
        rw [if_neg (by decide)] at q1
        have ew := keyOf_rel ek r3
        subst ew
        have E4 : Ext W3 H3 W3 (upd H3 a (.dK (putK vs k u))) := Ext.put ea q1
        have R4 := R3.putO (so := .dk false (putG kvs k z)) ea q1 ⟨_, by rw [if_neg (by decide)]; exact upd_same, relKs_put (E4.relD R3 (E3.relD R2 (E2.relD R1 r1))) ((E4.kt R3).relKs (List.prefix_refl _) q2)⟩
        refine ⟨a, _, rfl, DPut.k q1 (by rw [relKs_len q2]; exact lim_lt (Nat.le_of_lt hl)), ?_⟩
        exact h3 W3 σ _ (E1.trans (E2.trans (E3.trans E4))) R4 (Ev.mono (E1.trans (E2.trans (E3.trans E4))) R)
      · exact h3.elim
    · exact h3.elim
  · exact h3.elim
end
end Mi
/-! Mv5 -/
namespace Mi
open L2 PySem PySem.Spec PyProof.Rows
/-! ### a new dict that is being filled: nobody's as yet -/
structure DcW (K : PySem.W.Frag) (W1 : Wd) (H1 : Hp) (L : Addr) (W : Wd) (st : Sto) (H : Hp) (acc : List (L2.Key × D)) (vs : List (L2.Key × V)) : Prop where
  E : Ext W1 H1 W H
  R : Rl K W st H
  at_ : H L = some (.dK vs)
  nr : L ∉ W.ρ
  nF : ¬ W.F L
  rr : RelKs K W H acc vs
section
variable {K : PySem.W.Frag} {W1 W W' : Wd} {H1 H H' : Hp} {L : Addr} {st st' : Sto} {acc : List (L2.Key × D)} {vs : List (L2.Key × V)}
theorem DcW.new {s : Sto} (R1 : Rl K W1 s H1) (hL : H1 L = none) : DcW K W1 H1 L W1 s (upd H1 L (.dK [])) [] [] := by
  refine ⟨R1.more hL, R1.rest hL, upd_same, fun hm => ?_, fun hf => ?_, rfl⟩
  · obtain ⟨u, q⟩ := R1.mem hm; rw [hL] at q; cases q
  · obtain ⟨u, q⟩ := R1.fz _ hf; rw [hL] at q; cases q
theorem DcW.step (w : DcW K W1 H1 L W st H acc vs) (E : Ext W H W' H') (R : Rl K W' st' H') : DcW K W1 H1 L W' st' H' acc vs := by
  refine ⟨w.E.trans E, R, E.keep _ _ w.at_ w.nr, fun hm => ?_, fun hm => ?_, (E.kt w.R).relKs E.pre w.rr⟩
  · rcases E.new _ hm with h | h
    · exact w.nr h
    · rw [w.at_] at h; cases h
  · rcases E.nF _ hm with h | h
    · exact w.nF h
    · rw [w.at_] at h; cases h
theorem DcW.put {acc2 : List (L2.Key × D)} {vs2 : List (L2.Key × V)} (w : DcW K W1 H1 L W st H acc vs) (hL : H1 L = none) (r : RelKs K W H acc2 vs2) : DcW K W1 H1 L W st (upd H L (.dK vs2)) acc2 vs2 := by
  have k : KeepT W.F H W.F (upd H L (.dK vs2)) := ⟨fun _ h => h, fun a xs f q => by rw [upd_ne (fun e => w.nF (by rw [← e]; exact f))]; exact q, fun a xs q => by
    rw [upd_ne (fun e => by subst e; rw [w.at_] at q; cases q)]; exact q, fun a o xs q => by
    rw [upd_ne (fun e => by subst e; rw [w.at_] at q; cases q)]; exact q, fun a xs q => by
    rw [upd_ne (fun e => by subst e; rw [w.at_] at q; cases q)]; exact q⟩
  have R : Rl K W st (upd H L (.dK vs2)) := w.R.keep k rfl (fun a ha => upd_ne fun e => w.nr (by rw [← e]; exact ha)) w.R.sep fun a ha => by
    obtain ⟨xs, q⟩ := w.R.fz a ha
    exact ⟨xs, by rw [upd_ne (fun e => w.nF (by rw [← e]; exact ha))]; exact q⟩
  refine ⟨⟨w.E.pre, w.E.new, w.E.fF, w.E.nF, fun a u q hm => by rw [upd_ne (ne_of_none q hL)]; exact w.E.keep a u q hm, fun a u q => ?_, fun a o kvs q => by rw [upd_ne (ne_of_none q hL)]; exact w.E.lk a o kvs q⟩, R, upd_same, w.nr, w.nF, k.relKs (List.prefix_refl _) r⟩
  obtain ⟨u', q'⟩ := w.E.there a u q
  exact ⟨u', by rw [upd_ne (ne_of_none q hL)]; exact q'⟩
theorem DcW.added (w : DcW K W1 H1 L W st H acc vs) (hL : H1 L = none) : Ext W1 H1 (W.add L) H ∧ Rl K (W.add L) (st ++ [.dk false acc]) H ∧ (W.add L).ρ[st.length]? = some L := by
  have k : KeepT W.F H (W.add L).F H := ⟨fun _ h => h, fun _ _ _ q => q, fun _ _ q => q, fun _ _ _ q => q, fun _ _ q => q⟩
  have pre : W.ρ <+: (W.add L).ρ := List.prefix_append _ _
  have last : (W.ρ ++ [L])[st.length]? = some L := by rw [← w.R.len, List.getElem?_append_right (Nat.le_refl _), Nat.sub_self]; rfl
  refine ⟨⟨w.E.pre.trans pre, fun a h => ?_, w.E.fF, w.E.nF, w.E.keep, w.E.there, w.E.lk⟩, ⟨?_, ?_, fun n a o h1 h2 => ?_, fun a ha h => ?_, w.R.fz⟩, last⟩
  · (rcases List.mem_append.mp h with h | h)
    · exact w.E.new a h
    · rw [List.mem_singleton] at h; rw [h]; exact .inr hL
  · show (W.ρ ++ [L]).length = _
    rw [List.length_append, List.length_append, w.R.len]; rfl
  · show (W.ρ ++ [L]).Nodup
    rw [List.nodup_append]
    exact ⟨w.R.nd, by simp, fun a ha b hb e => by rw [List.mem_singleton] at hb; subst hb; subst e; exact w.nr ha⟩
  · have h1 : (W.ρ ++ [L])[n]? = some a := h1
    by_cases hn : n < W.ρ.length
    · rw [List.getElem?_append_left hn] at h1
      rw [List.getElem?_append_left (by rw [← w.R.len]; exact hn)] at h2
      exact k.soOk pre rfl (w.R.live n a o h1 h2)
    · have e : n = st.length := by
        have := (List.getElem?_eq_some_iff.mp h1).1
        rw [List.length_append, List.length_singleton] at this
        have := w.R.len
        omega
      subst e
      rw [last] at h1
      cases h1
      rw [List.getElem?_append_right (Nat.le_refl _), Nat.sub_self] at h2
      cases h2
      exact ⟨vs, by rw [if_neg (by decide)]; exact w.at_, k.relKs pre w.rr⟩
  · (rcases List.mem_append.mp ha with ha | ha)
    · exact w.R.sep a ha h
    · rw [List.mem_singleton] at ha; subst ha; exact w.nF h
end
/-! ### {k: v for ..} -/
def dcI (ga : D → Env → Option Env) (gt : Env → Sto → Res Bool) (fk fe : Env → Sto → Res D) (it : ItM) (env0 : Env) : Nat → Nat → Sto → List (L2.Key × D) → Option (List (L2.Key × D) × Sto)
  | 0, i, st, acc => match it.nth st i with
    | some none => some (acc, st)
    | _ => none
  | m + 1, i, st, acc => match it.nth st i with
    | some none => some (acc, st)
    | some (some d) => match ga d env0 with
      | some env1 => match gt env1 st with
        | .ok true st1 => match fk env1 st1 with
          | .ok y st2 => match fe env1 st2 with
            | .ok z st3 => match keyOf y with
              | some k => if acc.length < LIM then dcI ga gt fk fe it env0 m (i + 1) st3 (putG acc k z) else none
              | none => none
            | _ => none
          | _ => none
        | .ok false st1 => dcI ga gt fk fe it env0 m (i + 1) st1 acc
        | _ => none
      | none => none
    | none => none
def dcN (us : List Nat) (fit : Env → Sto → Res ItM) (ga : D → Env → Option Env) (gt : Env → Sto → Res Bool) (fk fe : Env → Sto → Res D) (env : Env) (st : Sto) : Res D := (fit env st).bind fun it s =>
  match dcI ga gt fk fe it (wipeE env us) it.most 0 s [] with
  | some (acc, s2) => .ok (.r s2.length) (s2 ++ [.dk false acc])
  | none => .bad
theorem dc_run {K : PySem.W.Frag} {us : List Nat} {ga : D → Env → Option Env} {gt : Env → Sto → Res Bool} {fk fe : Env → Sto → Res D} {σ : L2.St} {W1 : Wd} {H1 : Hp} {J : It} {it : ItM} {env : Env} {s : Sto} {Q : VK}
    (R1 : Rl K W1 s H1) (Ev : EnvR K W1 H1 env σ) (j : JOk K J it W1 H1) {acc' : List (L2.Key × D)} {s' : Sto} (hr : dcI ga gt fk fe it (wipeE env us) it.most 0 s [] = some (acc', s'))
    (fin : ∀ L W H vs, H1 L = none → DcW K W1 H1 L W s' H acc' vs → Q (.ref L) H) :
    ∀ D, H1 D = none → ∃ Wn : Nat → Nat → Hp → Prop, (∃ m, Wn 0 m (upd H1 D (.dK []))) ∧ ∀ i m H, Wn i m H →
      (J.stop i H ∧ Q (.ref D) H) ∨ (J.go i H ∧ ∃ Nx : Hp → Prop, (∀ H', Nx H' → ∃ m', m' < m ∧ Wn (i + 1) m' H') ∧ ∀ x H', J.yld i H x H' → tG K us ga x (wipe σ us) H' fun σ2 H2 => wipe σ2 us = wipe σ us ∧ tT K W0 gt σ2 H2 fun b H3 => if b = true then tE K W0 fk σ2 H3 fun y H4 => tE K W0 fe σ2 H4 fun z H5 => ∃ kvs k, y = kV k ∧ H5 D = some (.dK kvs) ∧ kvs.length < sizeLine ∧ Nx (upd H5 D (.dK (putK kvs k z))) else Nx H3) := by
  intro L hL
  refine ⟨fun i m H => ∃ W st acc vs, DcW K W1 H1 L W st H acc vs ∧ dcI ga gt fk fe it (wipeE env us) m i st acc = some (acc', s'), ⟨it.most, W1, s, [], [], .new R1 hL, hr⟩, ?_⟩
  rintro i m H ⟨W, st, acc, vs, w, h⟩
  obtain ⟨j1, j2⟩ := j W H st i w.E w.R
  cases q : it.nth st i with
  | none =>
    exfalso
    cases m with
    | zero => unfold dcI at h; rw [q] at h; cases h
    | succ m => unfold dcI at h; rw [q] at h; cases h
  | some od =>
    cases od with
    | none =>
      have stop : dcI ga gt fk fe it (wipeE env us) m i st acc = some (acc, st) := by
        cases m with
        | zero => unfold dcI; rw [q]
        | succ m => unfold dcI; rw [q]
      rw [stop] at h
      cases h
      exact .inl ⟨j1 q, fin L W H vs hL w⟩
    | some d =>
      cases m with
      | zero => exfalso; unfold dcI at h; rw [q] at h; cases h
      | succ m =>
        obtain ⟨jg, jy⟩ := j2 d q
        refine .inr ⟨jg, fun H' => ∃ W st acc vs, DcW K W1 H1 L W st H' acc vs ∧ dcI ga gt fk fe it (wipeE env us) m (i + 1) st acc = some (acc', s'), fun H' h => ⟨m, Nat.lt_succ_self m, h⟩, fun x H3 hy => ?_⟩
        obtain ⟨W3, E3, R3, r3⟩ := jy x H3 hy
        have w3 := w.step E3 R3
        unfold dcI at h
        simp only [q] at h
        cases q2 : ga d (wipeE env us) with
        | none => rw [q2] at h; cases h
        | some env1 =>
          simp only [q2] at h
          refine ⟨W3, wipeE env us, st, d, env1, R3, (Ev.mono w3.E R1).wipe us, r3, q2, fun σ3 Ev3 ag => ⟨ag.wipe, W3, env1, st, R3, Ev3, ?_⟩⟩
          cases q3 : gt env1 st with
          | bad => simp only [q3] at h; cases h
          | exc C x y => simp only [q3] at h; cases h
          | ok k st1 =>
            intro W4 H4 E4 R4
            have w4 := w3.step E4 R4
            cases k with
            | false =>
              simp only [q3] at h
              exact ite_ff ⟨W4, st1, acc, vs, w4, h⟩
            | true =>
              simp only [q3] at h
              refine ite_tt ⟨W4, env1, st1, R4, Ev3.mono E4 R3, ?_⟩
              cases q4 : fk env1 st1 with
              | bad => simp only [q4] at h; cases h
              | exc C x y => simp only [q4] at h; cases h
              | ok y st2 =>
                simp only [q4] at h
                intro W5 H5 yv E5 R5 r5
                have w5 := w4.step E5 R5
                refine ⟨W5, env1, st2, R5, (Ev3.mono E4 R3).mono E5 R4, ?_⟩
                cases q5 : fe env1 st2 with
                | bad => simp only [q5] at h; cases h
                | exc C x y => simp only [q5] at h; cases h
                | ok z st3 =>
                  simp only [q5] at h
                  intro W6 H6 zv E6 R6 r6
                  have w6 := w5.step E6 R6
                  cases q6 : keyOf y with
                  | none => simp only [q6] at h; cases h
                  | some k =>
                    simp only [q6] at h
                    split at h
                    · rename_i hl
                      exact ⟨vs, k, keyOf_rel q6 r5, w6.at_, by rw [relKs_len w6.rr]; exact lim_lt (Nat.le_of_lt hl), W6, st3, putG acc k z, putK vs k zv, w6.put hL (relKs_put r6 w6.rr), h⟩
                    · cases h
section
variable {X : Cx} {Wx : WX} {kx vx tg iter : Expr} {ifs : List Expr} {scope : Scope} {own : List (Str × Nat)} {pos : Pos} {ga : D → Env → Option Env} {gt : Env → Sto → Res Bool} {fk fe : Env → Sto → Res D} {fit : Env → Sto → Res ItM}
theorem re_dc (hc : X.calm = true) (hN : X.N.Nodup) (hi : RI X Wx tg iter fit) (ok : BlkOk X.N X.env.scope scope own)
    (hg : ∀ (s : Shared) (H : Hp) (C : Addr) (cl : List (Str × Addr)) (fp : List Addr), RG (X.blk s H scope (compEnvC scope cl C X.env) fp) (own.map (·.2)) tg ga) (ht : ∀ (s : Shared) (H : Hp) (C : Addr) (cl : List (Str × Addr)) (fp : List Addr), RTs (X.blk s H scope (compEnvC scope cl C X.env) fp) ifs gt)
    (hk : ∀ (s : Shared) (H : Hp) (C : Addr) (cl : List (Str × Addr)) (fp : List Addr), RE (X.blk s H scope (compEnvC scope cl C X.env) fp) W0 kx fk)
    (he : ∀ (s : Shared) (H : Hp) (C : Addr) (cl : List (Str × Addr)) (fp : List Addr), RE (X.blk s H scope (compEnvC scope cl C X.env) fp) W0 vx fe) (hs : ∀ x, foldedSetIterable iter X.env x = pure x := by intro _; rfl) :
    RE X Wx (.DictComp kx vx [⟨tg, iter, ifs, 0⟩] scope pos) (dcN (own.map (·.2)) fit ga gt fk fe) := by
  refine PE.conv (pe_dc (g := tG X.K (own.map (·.2)) ga) (tt := tT X.K W0 gt) (tk := tE X.K W0 fk) (tv := tE X.K W0 fe) hc hN hi ok hg ht hk he hs) fun σ H Q ⟨W, env, st, R, Ev, h⟩ => ⟨W, env, st, R, Ev, split h (fun it s h1 W1 H1 J E1 R1 j => ?_) fun C fs st' hx => hx⟩
  split at h1
  · rename_i acc s2 hr
    refine dc_run R1 (Ev.mono E1 R) j hr fun L W2 H2 vs hL w => ?_
    obtain ⟨a1, a2, a3⟩ := w.added hL
    exact h1 _ H2 _ (E1.trans a1) a2 ⟨L, a3, rfl⟩
  · exact h1.elim
end
end Mi
/-! Mv6 -/
namespace Mi
open L2 PySem PySem.Spec PyProof.Rows
section
variable {X : Cx} {Wx : WX} {e o i tg iter : Expr} {es : List Expr} {f fo fv fi : Env → Sto → Res D} {x n : Str} {p pos pos' kpos apos cpos tpos mpos : Pos} {k : Nat} {C : Addr}
/-! ### what a dict holds -/
/-- the pairs of a dict with keys that are ints and texts -/
def dkv (st : Sto) (d : D) : Option (List (L2.Key × D)) := match d with
  | .r n => match st[n]? with
    | some (.dk _ kvs) => some kvs
    | _ => none
  | .t (.dk ks ts) => some (ks.zip (ts.map .t))
  | _ => none
theorem relZ_K {κ : Type} {K : PySem.W.Frag} {W : Wd} {H : Hp} : ∀ {ks : List κ} {ts : List T} {vs : List V}, ks.length = ts.length → RelTs K W.F H ts vs → RelKs K W H (ks.zip (ts.map .t)) (ks.zip vs)
  | [], ts, vs, _, h => by rw [List.zip_nil_left, List.zip_nil_left]; rfl
  | j :: ks, [], vs, l, h => by cases l
  | j :: ks, x :: ts, vs, l, h => by
    obtain ⟨y, u, rfl, a, b⟩ := h
    exact ⟨y, _, rfl, a, relZ_K (Nat.succ.inj l) b⟩
theorem dkv_rel {K : PySem.W.Frag} {W : Wd} {H : Hp} {st : Sto} (R : Rl K W st H) {d : D} {kvs : List (L2.Key × D)} {v : V} (h : dkv st d = some kvs) (r : RelD K W H d v) : ∃ a vs, v = .ref a ∧ Rd H a (.dK vs) ∧ RelKs K W H kvs vs := by
  unfold dkv at h
  split at h
  · rename_i m
    split at h
    · rename_i lk ks q
      cases h
      obtain ⟨a, e, rfl⟩ := r
      obtain ⟨vs, q1, q2⟩ := R.live m a _ e q
      refine ⟨a, vs, rfl, ?_, q2⟩
      cases lk with
      | true => rw [if_pos rfl] at q1; exact .inr q1
      | false => rw [if_neg (by decide)] at q1; exact .inl q1
    · cases h
  · cases h
    obtain ⟨a, vs, rfl, _, q, l, rr⟩ := r
    exact ⟨a, _, rfl, .inr q, relZ_K l rr⟩
  · cases h
theorem relKs_keys {K : PySem.W.Frag} {W : Wd} {H : Hp} : ∀ {kvs : List (L2.Key × D)} {vs : List (L2.Key × V)}, RelKs K W H kvs vs → RelTs K W.F H (kvs.map fun p => keyT p.1) (vs.map fun p => kV p.1)
  | [], vs, h => by cases h; rfl
  | (j, d) :: r, vs, h => by
    obtain ⟨v, u, rfl, _, b⟩ := h
    refine ⟨kV j, _, rfl, ?_, relKs_keys b⟩
    cases j <;> rfl
theorem relKs_vals {κ : Type} {K : PySem.W.Frag} {W : Wd} {H : Hp} : ∀ {kvs : List (κ × D)} {vs : List (κ × V)}, RelKs K W H kvs vs → RelDs K W H (kvs.map (·.2)) (vs.map (·.2))
  | [], vs, h => by cases h; rfl
  | (j, d) :: r, vs, h => by
    obtain ⟨v, u, rfl, a, b⟩ := h
    exact ⟨v, _, rfl, a, relKs_vals b⟩
/-- list(d): the keys -/
def lstKB (ds : List D) (st : Sto) : Option D := match ds with
  | [d] => (dkv st d).map fun kvs => .t (.lst (kvs.map fun p => keyT p.1))
  | _ => none
theorem c_lstK (hc : X.calm = true) : CallR X (.type "list") (rC X.K lstKB) := call_of (call_listD hc) fun W st ds xs H Q z R r h q => by
  unfold lstKB at h
  split at h
  · rename_i d
    obtain ⟨v, rfl, r1⟩ := rel1 r
    cases e : dkv st d with
    |  none => rw [e] at h; cases h
    | some kvs =>
      rw [e] at h
      cases h
      obtain ⟨a, vs, rfl, rd, rk⟩ := dkv_rel R e r1
      exact ⟨a, vs, rfl, rd, fun p hp => q (W.fix p) _ _ (Ext.fix W hp) (R.fix hp) ⟨p, _, rfl, .inr rfl, upd_same, (Ext.fix W hp).relTs R _ _ (relKs_keys rk)⟩⟩
  · cases h
/-! ### enumerate -/
def enIt (d : D) (n : Nat) : ItM := ⟨fun st i => (items st d).bind fun ds => match ds[i]? with
  | some (.t x) => some (some (.t (.tup [.int (i : Nat), x])))
  | some _ => none
  | none => some none, n⟩
def enOf (f : Env → Sto → Res D) (env : Env) (st : Sto) : Res ItM := (f env st).bind fun d s => match d with
  | .t (.tup _) => .bad
  | d => optR ((lsq s d).map fun ds => enIt d ds.length) s
theorem JOk.enum {K : PySem.W.Frag} {W : Wd} {H : Hp} {st : Sto} {d : D} {a : Addr} {n : Nat} (R : Rl K W st H) (r : RelD K W H d (.ref a)) (hs : ∀ ts, d ≠ .t (.tup ts)) : JOk K (Ite K a) (enIt d n) W H := by
  intro W' H' st' i E' R'
  have r' := E'.relD R r
  have get : ∀ ds, items st' d = some ds → ∃ vs, SqL K H' a vs ∧ RelDs K W' H' ds vs := fun ds e1 => by
    have e0 : lsq st' d = some ds := by
      unfold lsq
      split
      · rename_i ts; exact absurd rfl (hs ts)
      · exact e1
    obtain ⟨a', vs, e3, s, rr⟩ := lsq_rel R' e0 r'
    cases e3
    exact ⟨vs, s, rr⟩
  refine ⟨fun h => ?_, fun dd h => ?_⟩
  · cases e1 : items st' d with
    | none => unfold enIt at h; simp only [e1] at h; cases h
    | some ds =>
      obtain ⟨vs, s, rr⟩ := get ds e1
      refine ⟨vs, s, ?_⟩
      rw [relDs_len rr]
      unfold enIt at h
      simp only [e1, Option.bind_some] at h
      split at h
      · cases h
      · cases h
      · rename_i q; exact List.getElem?_eq_none_iff.mp q
  · cases e1 : items st' d with
    | none => unfold enIt at h; simp only [e1] at h; cases h
    | some ds =>
      obtain ⟨vs, s, rr⟩ := get ds e1
      unfold enIt at h
      simp only [e1, Option.bind_some] at h
      split at h
      · rename_i y q
        cases h
        obtain ⟨v, e3, rv⟩ := relDs_get rr q
        refine ⟨⟨vs, v, s, e3⟩, fun u H2 hy => ?_⟩
        obtain ⟨t, w, rfl, ht, rfl, hw⟩ := hy
        have e4 : w = v := Option.some.inj ((hw vs s).symm.trans e3)
        subst e4
        exact ⟨W', R'.more ht, R'.rest ht, t, _, rfl, .inl upd_same, V.int (i : Nat), [w], rfl, rfl, w, [], rfl, (R'.more ht).relT R' y w rv, rfl⟩
      · cases h
      · cases h
theorem ri_enum {elts : List Expr} {kk : Nat} (hg : Gl X "enumerate") (hm : X.mg "enumerate" = none) (h : RE X Wx e f) (hs : starEach [e] X.env = [(false, eval e X.env)] := by rfl) : RI X Wx (.Tuple elts kk tpos) (.Call (.Name "enumerate" p) [e] [] pos) (enOf f) := by
  refine PI.conv (pi_enum hg hm (ra_cons h ra_nil hs) hs) fun σ H Q ⟨W, env, st, R, Ev, h⟩ => ⟨W, env, st, R, Ev, ?_⟩
  show ((f env st).bind fun d st1 => (argsM [] env st1).bind fun ds st2 => .ok (d :: ds) st2).Holds _ _
  have key := split (A' := fun d s => (match d with
    | .t (.tup _) => Res.bad
    | d => optR ((lsq s d).map fun ds : List D => enIt d ds.length) s).Holds (fun it s => ∀ W' H' J, Ext W H W' H' → Rl X.K W' s H' → JOk X.K J it W' H' → Q J H') (OkX X.K W H fun c o H' => Wx c o σ H')) h (fun d s h1 => h1) fun _ _ _ hx => hx
  cases q : f env st with
  | bad => rw [q] at key; exact key
  | exc C fs s => rw [q] at key; exact key
  | ok d s =>
    rw [q] at key
    intro W1 H1 vs E1 R1 r1
    obtain ⟨v, u, rfl, rv, ru⟩ := r1
    cases ru
    have nt : ∀ ts, d ≠ .t (.tup ts) := fun ts z => by subst z; exact key.elim
    have h1 : (optR ((lsq s d).map fun ds : List D => enIt d ds.length) s).Holds (fun it s => ∀ W' H' J, Ext W H W' H' → Rl X.K W' s H' → JOk X.K J it W' H' → Q J H') (OkX X.K W H fun c o H' => Wx c o σ H') := by
      cases d with
      | t y =>
        cases y with
        | tup ts => exact absurd rfl (nt ts)
        | _ => exact key
      | _ => exact key
    obtain ⟨it, e1, q1⟩ := optR_holds h1
    cases q2 : lsq s d with
    | none => rw [q2] at e1; cases e1
    | some ds =>
      rw [q2] at e1
      cases e1
      obtain ⟨a, ws, rfl, sq, _⟩ := lsq_rel R1 q2 rv
      exact ⟨a, ws, rfl, sq, q1 W1 H1 _ E1 R1 (JOk.enum R1 rv nt)⟩
/-! ### starred parts -/
def starM (f : Env → Sto → Res D) (g : Env → Sto → Res (List D)) (env : Env) (st : Sto) : Res (List D) := (f env st).bind fun d s => match items s d with
  | some ds => (g env s).bind fun es s2 => .ok (ds ++ es) s2
  | none => .bad
theorem ra_star {g : Env → Sto → Res (List D)} (h : RE X Wx e f) (hr : RA X Wx es g) (hs : starEach (.Starred e p :: es) X.env = (true, eval e X.env) :: starEach es X.env := by rfl) : RA X Wx (.Starred e p :: es) (starM f g) := by
  refine PA.conv (StX.pa_star h hr hs) fun σ H Q ⟨W, env, st, R, Ev, h⟩ => ⟨W, env, st, R, Ev, split h (fun d s h1 W1 H1 v E1 R1 r1 => ?_) fun C fs st' hx => hx⟩
  cases q : items s d with
  | none => rw [q] at h1; exact h1.elim
  | some ds =>
    rw [q] at h1
    obtain ⟨a, vs, rfl, sq, rr⟩ := items_seq R1 q r1
    refine ⟨a, vs, rfl, sq.symm, W1, env, s, R1, Ev.mono E1 R, split h1 (fun es s2 h2 W2 H2 ws E2 R2 r2 => ?_) fun C fs st' hx => hx.mono E1⟩
    exact h2 W2 H2 (vs ++ ws) (E1.trans E2) R2 (relDs_append (E2.relDs R1 rr) r2)
def consM (f : Env → Sto → Res D) (g : Env → Sto → Res (List D)) (env : Env) (st : Sto) : Res (List D) := (f env st).bind fun d s => (g env s).bind fun ds s2 => .ok (d :: ds) s2
theorem ra_consG {g : Env → Sto → Res (List D)} (ha : RE X Wx e f) (hr : RA X Wx es g) (hs : starEach (e :: es) X.env = (false, eval e X.env) :: starEach es X.env := by rfl) : RA X Wx (e :: es) (consM f g) := by
  refine PA.conv (pa_cons ha hr hs) fun σ H Q ⟨W, env, st, R, Ev, h⟩ => ⟨W, env, st, R, Ev, split h (fun d st1 h1 W1 H1 v E1 R1 r1 => ?_) fun C fs st' hx => hx⟩
  refine ⟨W1, env, st1, R1, Ev.mono E1 R, split h1 (fun ds st2 h2 W2 H2 vs E2 R2 r2 => ?_) fun C fs st' hx => hx.mono E1⟩
  exact h2 W2 H2 (v :: vs) (E1.trans E2) R2 ⟨v, vs, rfl, E2.relD R1 r1, r2⟩
def tupG (g : Env → Sto → Res (List D)) (env : Env) (st : Sto) : Res D := (g env st).bind fun ds st1 => match plains ds with
  | some ts => if ts.length ≤ LIM then .ok (.t (.tup ts)) st1 else .bad
  | none => .bad
theorem re_tupG {g : Env → Sto → Res (List D)} {x1 : Nat} (h : RA X Wx es g) : RE X Wx (.Tuple es x1 pos) (tupG g) := by
  refine PE.conv (pe_tup h) fun σ H Q ⟨W, env, st, R, Ev, h⟩ => ⟨W, env, st, R, Ev, split h (fun ds st1 h1 W1 H1 vs E1 R1 r1 => ?_) fun C fs st' hx => hx⟩
  cases e2 : plains ds with
  | none => rw [e2] at h1; exact h1.elim
  | some ts =>
    rw [e2] at h1
    dsimp only at h1
    split at h1
    · rename_i hl
      have rt := relTs_of e2 r1
      exact ⟨by rw [relTs_len rt]; exact lim_size hl, fun q hq => h1 W1 _ _ (E1.trans (R1.more hq)) (R1.rest hq) ⟨q, vs, rfl, .inl upd_same, (R1.more hq).relTs R1 _ _ rt⟩⟩
    · exact h1.elim
end
end Mi
/-! Mv7 -/
namespace Mi
open L2 PySem PySem.Spec PyProof.Rows
section
variable {X : Cx} {Wx : WX} {e o i tg iter : Expr} {es : List Expr} {f fo fv fi : Env → Sto → Res D} {x n : Str} {p pos pos' kpos apos cpos tpos mpos : Pos} {k : Nat} {C : Addr}
/-! ### a walk over the keys of a dict: it is locked from here on -/
theorem pe_lockD {te : TE} (he : PE X e te) : PE X e (fun σ H Q => te σ H fun v H1 => ∃ d kvs, v = .ref d ∧ H1 d = some (.dK kvs) ∧ ∀ od, Q v (upd H1 d (.frz od (.dK kvs)))) := by
  refine ⟨fun pins s σ H Q I h => thn (he.run pins s σ H _ I h) fun u s1 ⟨v, H1, I1, rv, d, kvs, ev, hd, q⟩ => ?_⟩
  obtain ⟨od, I2⟩ := I1.lock hd True.intro
  exact ⟨v, _, I2, rv, q od⟩
def keyIt (ks : List L2.Key) : ItM := ⟨fun _ i => some ((ks[i]?).map fun k => .t (keyT k)), ks.length⟩
def keyOfM (f : Env → Sto → Res D) (env : Env) (st : Sto) : Res ItM := (f env st).bind fun d s => match d with
  | .r m => match s[m]? with
    | some (.dk false kvs) => .ok (keyIt (kvs.map (·.1))) (s.set m (.dk true kvs))
    | _ => .bad
  | _ => .bad
theorem relKs_fst {κ : Type} {K : PySem.W.Frag} {W : Wd} {H : Hp} : ∀ {kvs : List (κ × D)} {vs : List (κ × V)}, RelKs K W H kvs vs → vs.map (·.1) = kvs.map (·.1)
  | [], vs, h => by cases h; rfl
  | (j, d) :: r, vs, h => by
    obtain ⟨v, u, rfl, _, b⟩ := h
    rw [List.map_cons, List.map_cons, relKs_fst b]
theorem ri_keys (h : RE X Wx e f) : RI X Wx tg e (keyOfM f) := by
  refine PI.conv (pi_keys (pe_lockD h)) fun σ H Q ⟨W, env, st, R, Ev, h⟩ => ⟨W, env, st, R, Ev, split h (fun d s h1 W1 H1 v E1 R1 r1 => ?_) fun C fs st' hx => hx⟩
  cases d with
  | t => exact h1.elim
  | x => exact h1.elim
  | r m =>
    dsimp only at h1
    cases q : s[m]? with
    | none => rw [q] at h1; exact h1.elim
    | some so =>
      rw [q] at h1
      cases so with
      | lst => exact h1.elim
      | ins => exact h1.elim
      | dt => exact h1.elim
      | exc => exact h1.elim
      | dk lk kvs =>
        cases lk with
        | true => exact h1.elim
        | false =>
          obtain ⟨a, ea, rfl⟩ := r1
          obtain ⟨vs, q1, q2⟩ := R1.live m a _ ea q
          rw [if_neg (by decide)] at q1
          refine ⟨a, vs, rfl, q1, fun od => ⟨a, od, rfl, .inl ⟨vs, upd_same, ?_⟩⟩⟩
          have E2 : Ext W1 H1 W1 (upd H1 a (.frz od (.dK vs))) := Ext.put ea q1
          have R2 := R1.putO (so := .dk true kvs) ea q1 ⟨vs, by rw [if_pos rfl]; exact ⟨od, upd_same⟩, (E2.kt R1).relKs (List.prefix_refl _) q2⟩
          refine h1 W1 _ _ (E1.trans E2) R2 ?_
          have ek := relKs_fst q2
          intro W' H' st' j E' R'
          have hd : H' a = some (.frz od (.dK vs)) := E'.lk a od vs upd_same
          have len : vs.length = (kvs.map (·.1)).length := by rw [← ek, List.length_map]
          refine ⟨fun hn => ⟨hd, ?_⟩, fun d hn => ?_⟩
          · have hn : some (((kvs.map (·.1))[j]?).map fun k => D.t (keyT k)) = some none := hn
            cases z : (kvs.map (·.1))[j]? with
            | none => rw [len]; exact List.getElem?_eq_none_iff.mp z
            | some y => rw [z] at hn; cases hn
          · have hn : some (((kvs.map (·.1))[j]?).map fun k => D.t (keyT k)) = some (some d) := hn
            cases z : (kvs.map (·.1))[j]? with
            | none => rw [z] at hn; cases hn
            | some y =>
              rw [z] at hn
              cases hn
              have hj : j < vs.length := by rw [len]; exact (List.getElem?_eq_some_iff.mp z).1
              refine ⟨⟨hd, hj⟩, fun u H2 hy => ?_⟩
              obtain ⟨rfl, k', w, e3, rfl⟩ := hy
              have e4 : (vs.map (·.1))[j]? = some k' := by rw [List.getElem?_map, e3]; rfl
              rw [ek, z] at e4
              cases e4
              refine ⟨W', .refl, R', ?_⟩
              cases y <;> rfl
/-! ### list(d.values()) -/
theorem kv_at : ∀ {ks : List (L2.Key × V)} {us : List (L2.Key × Value)} {j : Nat} {a : L2.Key × V} {b : L2.Key} {w : Value}, KV ks us → ks[j]? = some a → us[j]? = some (b, w) → RelV a.2 w
  | _, _, j, a, b, w, .nil, h, _ => by simp at h
  | _, _, 0, a, b, w, .cons r _, h1, h2 => by simp at h1 h2; subst h1; rw [h2] at r; exact r.2
  | _, _, j + 1, a, b, w, .cons _ t, h1, h2 => kv_at t (by simpa using h1) (by simpa using h2)
theorem pe_listVals {te : TE} (hc : X.calm = true) (he : PE X e te) (hg : Gl X "list") (hm : X.mg "list" = none) (hbase : attributeBase e "values" X.env (eval e X.env) = eval e X.env := by rfl) (hline : (apos.endLine == cpos.line) = true := by rfl)
    (hs : starEach [.Call (.Attribute e "values" apos) [] [] cpos] X.env = (false, eval (.Call (.Attribute e "values" apos) [] [] cpos) X.env) :: starEach [] X.env := by rfl) :
    PE X (.Call (.Name "list" p) [.Call (.Attribute e "values" apos) [] [] cpos] [] pos) (fun σ H Q => te σ H fun v H1 => ∃ d kvs, v = .ref d ∧ H1 d = some (.dK kvs) ∧ ∀ q, H1 q = none → Q (.ref q) (upd H1 q (.lst (kvs.map (·.2))))) := by
  refine  ⟨fun pins s σ H Q I hq => ?_⟩
  refine wpAny_Call_Name_kw (ld_blt (u := .type "list") I hg hm rfl ?_)
  refine  PyProof.Rows.callWith_type1 ?_ hs rfl
  rw [hs]
  show wpAny _ _ (spliced ((false, eval (.Call (.Attribute e "values" apos) [] [] cpos) X.env) :: backTo pos (starEach [] X.env))) _ _ s
  refine Calls.spliced_cons ?_
  refine (wpAny_Call_method (T := "dict") (id := "dict.values") hbase rfl hline F.plainAttrs_dict F.slot_dict_values F.type_dict_values (thn (he.run pins s σ H _ I hq) fun u s1 ⟨v, H1, I1, rx, d, kvs, ex, hd, q⟩ => ?_))
  subst ex
  obtain  rfl : u = Value.ref d := rx
  obtain ⟨hz, hs0, vs, kv, hdo⟩ := (show ObjOk X.prog X.w H1 s1.heap d (.dK kvs) from I1.hok d _ hd)
  obtain  ⟨ep, hat⟩ := hdo.dictAt
  have  lk : kvs.length = vs.length := Paired.length kv
  have  I2 : Inv X pins σ H1 { s1 with heap := s1.heap.push { cls := .type "dict_values", data := .fields #[.ref d] } } := I1.kept (t' := s1.toks) fun b ob q => Heap.get?_push_of_some _ q
  refine  ⟨hdo.typeIs, hdo.mapOf.noDict, ?_⟩
  show  wpAny _ _ (callWith cpos (.builtin "dict.values") [.ref d] [] []) _ X.xe s1
  refine (method_meetsIn F.slot_dict_values F.entry_dict_values rfl (PySem.evalArgs_none ⟨rfl, hdo.typeIs, F.args_dict_values_1 _, _, meets_dict_values (mixKind X.prog X.w) d hs0, ⟨vs, hdo⟩, ?_⟩))
  refine Calls.spliced_nil ?_
  refine (PySem.W.kdl_call (PySem.W.kdl_values (knd := mixKind X.prog X.w) (kvs := vs) (ep := ep) (d := d)) (I1.ok.hd hc) ⟨⟨_, Heap.get?_push_size _ rfl, rfl, rfl⟩, hat.push _⟩ (by omega) fun h' tk acc c' hk hS hacc => ?_)
  have hv : Vals (kvs.map (·.2)) acc.toList := by
    have el : acc.toList.length = acc.size := by simp
    refine vals_of_at (by rw [List.length_map, el, hacc.1, lk]) fun j y w h1 h2 => ?_
    obtain ⟨ky, e2⟩ := hacc.2 j w (by rw [← Array.getElem?_toList]; exact h2)
    rw [List.getElem?_map] at h1
    cases e3 : kvs[j]? with
    | none => rw [e3] at h1; cases h1
    | some pr =>
      rw [e3] at h1
      cases h1
      exact kv_at kv e3 e2
  have hn : H1 (s1.heap.push { cls := .type "dict_values", data := .fields #[.ref d] }).objs.size = none := I2.hok.fresh (Nat.le_refl _)
  exact ⟨.ref _, _, I2.laid (t' := tk) hk (Nat.le_refl _) (show ObjOk X.prog X.w _ _ _ (.lst (kvs.map (·.2))) from ⟨by rw [List.length_map]; exact hz, acc.toList, c', hv, by rw [Array.toArray_toList]; exact hS⟩), rfl, q _ hn⟩
def lstVM (f : Env → Sto → Res D) (env : Env) (st : Sto) : Res D := (f env st).bind fun d s => match d with
  | .r m => match s[m]? with
    | some (.dk false kvs) => match plains (kvs.map (·.2)) with
      | some ts => .ok (.t (.lst ts)) s
      | none => .bad
    | _ => .bad
  | _ => .bad
theorem re_lstV (hc : X.calm = true) (h : RE X Wx e f) (hg : Gl X "list") (hm : X.mg "list" = none) (hbase : attributeBase e "values" X.env (eval e X.env) = eval e X.env := by rfl) (hline : (apos.endLine == cpos.line) = true := by rfl)
    (hs : starEach [.Call (.Attribute e "values" apos) [] [] cpos] X.env = (false, eval (.Call (.Attribute e "values" apos) [] [] cpos) X.env) :: starEach [] X.env := by rfl) : RE X Wx (.Call (.Name "list" p) [.Call (.Attribute e "values" apos) [] [] cpos] [] pos) (lstVM f) := by
  refine PE.conv (pe_listVals hc h hg hm hbase hline hs) fun σ H Q ⟨W, env, st, R, Ev, h⟩ => ⟨W, env, st, R, Ev, split h (fun d s h1 W1 H1 v E1 R1 r1 => ?_) fun C fs st' hx => hx⟩
  cases d with
  | t => exact h1.elim
  | x => exact h1.elim
  | r m =>
    dsimp only at h1
    cases q : s[m]? with
    | none => rw [q] at h1; exact h1.elim
    | some so =>
      rw [q] at h1
      cases so with
      | lst => exact h1.elim
      | ins => exact h1.elim
      | dt => exact h1.elim
      | exc => exact h1.elim
      | dk lk kvs =>
        cases lk with
        | true => exact h1.elim
        | false =>
          dsimp only at h1
          obtain ⟨a, ea, rfl⟩ := r1
          obtain ⟨vs, q1, q2⟩ := R1.live m a _ ea q
          rw [if_neg (by decide)] at q1
          cases q3 : plains (kvs.map (·.2)) with
          | none => rw [q3] at h1; exact h1.elim
          | some ts =>
            rw [q3] at h1
            exact ⟨a, vs, rfl, q1, fun b hb => h1 (W1.fix b) _ _ (E1.trans (Ext.fix W1 hb)) (R1.fix hb) ⟨b, _, rfl, .inr rfl, upd_same, (Ext.fix W1 hb).relTs R1 _ _ (relTs_of q3 (relKs_vals q2))⟩⟩
/-! ### dict displays; tuple keys -/
def newDt (_ : Env) (st : Sto) : Res D := .ok (.r st.length) (st ++ [.dt []])
theorem re_newDt : RE X Wx (.Dict [] [] pos) newDt := by
  refine PE.conv pe_dnewT fun σ H Q ⟨W, env, st, R, Ev, h⟩ p hp => ?_
  exact h (W.add p) _ _ (Ext.add W hp) (R.addO hp ⟨[], upd_same, rfl⟩) ⟨p, by show (W.ρ ++ [p])[st.length]? = some p; rw [← R.len, List.getElem?_append_right (Nat.le_refl _), Nat.sub_self]; rfl, rfl⟩
def newDk (_ : Env) (st : Sto) : Res D := .ok (.r st.length) (st ++ [.dk false []])
theorem re_newDk : RE X Wx (.Dict [] [] pos) newDk := by
  refine PE.conv pe_dnewK fun σ H Q ⟨W, env, st, R, Ev, h⟩ p hp => ?_
  exact h (W.add p) _ _ (Ext.add W hp) (R.addO hp ⟨[], by rw [if_neg (by decide)]; exact upd_same, rfl⟩) ⟨p, by show (W.ρ ++ [p])[st.length]? = some p; rw [← R.len, List.getElem?_append_right (Nat.le_refl _), Nat.sub_self]; rfl, rfl⟩
/-- o[a, b] = v -/
def dputT (fo : Env → Sto → Res D) (fs : List (Env → Sto → Res D)) (fv : Env → Sto → Res D) (env : Env) (st : Sto) : Out := (fv env st).out env fun z s => (fo env s).out env fun d s2 => (argsM fs env s2).out env fun ys s3 => match d, (plains ys).bind keysOf with
  | .r m, some k => match s3[m]? with
    | some (.dt kvs) => if kvs.length < LIM ∧ ys.length ≤ 1000 then .nx env (s3.set m (.dt (putG kvs k z))) else .bad
    | _ => .bad
  | _, _ => .bad
theorem rs_dputT {fs : List (Env → Sto → Res D)} {x1 : Nat} (hu : X.A.units + 1 < cLine) (ho : RE X Wx o fo) (hi : RA X Wx es (argsM fs)) (hv : RE X Wx e fv) (hs : swapsWith e (some (.Subscript o (.Tuple es x1 tpos) pos')) pos.line X.env = pure false := by rfl) : RS X Wx (.Assign [.Subscript o (.Tuple es x1 tpos) pos'] e pos) (dputT fo fs fv) := by
  refine PS.conv (ps_dput hu ho (pe_tup hi) hv hs) fun E σ H ⟨W, env, st, R, Ev, h⟩ => ⟨W, env, st, R, Ev, out_split h Ev R fun z s h1 W1 H1 u E1 R1 r1 => ?_⟩
  refine ⟨W1, env, s, R1, Ev.mono E1 R, (out_split h1 Ev R fun d s2 h2 => h2).imp (fun d s2 h2 W2 H2 v E2 R2 r2 => ?_) fun C fs s2 hx => hx.mono E1⟩
  refine ⟨W2, env, s2, R2, (Ev.mono E1 R).mono E2 R1, (out_split h2 Ev R fun y s3 h3 => h3).imp (fun ys s3 h3 W3 H3 ws E3 R3 r3 => ?_) fun C fs s3 hx => hx.mono (E1.trans E2)⟩
  split at h3
  · rename_i m k ek
    split at h3
    · rename_i kvs q
      split at h3
      · rename_i hl
        cases q5 : plains ys with
        | none => rw [q5] at ek; cases ek
        | some ts =>
          rw [q5] at ek
          have ek : keysOf ts = some k := ek
          have ew := keysOf_rel ek (relTs_of q5 r3)
          subst ew
          refine ⟨by have := relDs_len r3; rw [sizeLine_eq]; omega, fun b hb => ?_⟩
          have Eb : Ext W3 H3 W3 (upd H3 b (.tup (k.map kV))) := R3.more hb
          have Rb : Rl X.K W3 s3 (upd H3 b (.tup (k.map kV))) := R3.rest hb
          obtain ⟨a, ea, rfl⟩ := E3.relD R2 r2
          obtain ⟨vs, q1, q2⟩ := Rb.live m a _ ea q
          have E4 : Ext W3 (upd H3 b (.tup (k.map kV))) W3 (upd (upd H3 b (.tup (k.map kV))) a (.dT (putK vs k u))) := Ext.put ea q1
          have R4 := Rb.putO (so := .dt (putG kvs k z)) ea q1 ⟨_, upd_same, relKs_put (E4.relD Rb (Eb.relD R3 (E3.relD R2 (E2.relD R1 r1)))) ((E4.kt Rb).relKs (List.prefix_refl _) q2)⟩
          refine ⟨a, _, rfl, DPut.t q1 upd_same (by rw [relKs_len q2]; exact lim_lt (Nat.le_of_lt hl.1)), ?_⟩
          have Eall := E1.trans (E2.trans (E3.trans (Eb.trans E4)))
          exact h3 W3 σ _ Eall R4 (Ev.mono Eall R)
      · exact h3.elim
    · exact h3.elim
  · exact h3.elim
end
end Mi
/-! Mv8 -/
namespace Mi
open L2 PySem PySem.Spec PyProof.Rows
section
variable {X : Cx} {Wx : WX} {e v : Expr} {keys : List (Option Expr)} {values : List Expr} {f : Env → Sto → Res D} {pos : Pos}
/-! ### {'a': .., 'b': ..} -/
def trsM (K : PySem.W.Frag) (Wx : WX) (ss : List Str) (fs : List (Env → Sto → Res D)) : List (TE × TE) := (ss.zip fs).map fun p => (tE K Wx (eC (.str p.1)), tE K Wx p.2)
abbrev RPs (X : Cx) (Wx : WX) (pos : Pos) (keys : List (Option Expr)) (values : List Expr) (ss : List Str) (fs : List (Env → Sto → Res D)) : Prop := PPs X pos keys values (trsM X.K Wx ss fs)
theorem rps_nil : RPs X Wx pos [] [] [] [] := pps_nil
theorem rps_cons {s : Str} {ss : List Str} {fs : List (Env → Sto → Res D)} (hk : RE X Wx e (eC (.str s))) (hv : RE X Wx v f) (hr : RPs X Wx pos keys values ss fs) : RPs X Wx pos (some e :: keys) (v :: values) (s :: ss) (f :: fs) := pps_cons hk hv hr
def dispKs (ss : List Str) (ds : List D) : List (L2.Key × D) := (ss.zip ds).foldl (fun acc p => putG acc (.inr p.1) p.2) []
def dispM (ss : List Str) (fs : List (Env → Sto → Res D)) (env : Env) (st : Sto) : Res D := (argsM fs env st).bind fun ds s => if ds.length = ss.length ∧ ss.length ≤ 15 then .ok (.r s.length) (s ++ [.dk false (dispKs ss ds)]) else .bad
theorem disp_put {K : PySem.W.Frag} {W : Wd} {H : Hp} : ∀ {ss : List Str} {ds : List D} {vs : List V} {acc : List (L2.Key × D)} {bcc : List (L2.Key × V)}, RelDs K W H ds vs → RelKs K W H acc bcc →
    RelKs K W H ((ss.zip ds).foldl (fun acc p => putG acc (.inr p.1) p.2) acc) (mergeK bcc (((ss.map Sum.inr : List L2.Key)).zip vs))
  | [], ds, vs, acc, bcc, _, h => by rw [List.zip_nil_left, List.map_nil, List.zip_nil_left]; exact h
  | s :: ss, [], vs, acc, bcc, r, h => by cases r; rw [List.zip_nil_right, List.zip_nil_right]; exact h
  | s :: ss, d :: ds, vs, acc, bcc, r, h => by
    obtain ⟨y, u, rfl, a, b⟩ := r
    rw [List.map_cons, List.zip_cons_cons, List.zip_cons_cons]
    exact disp_put (ss := ss) b (relKs_put a h)
theorem disp_run {K : PySem.W.Frag} {W0 : Wd} {H0 : Hp} {p : Addr} {σ : L2.St} {Cn : List (V × V) → Hp → Prop} : ∀ {ss : List Str} {fs : List (Env → Sto → Res D)} {W : Wd} {st : Sto} {H : Hp} {env : Env}, ss.length = fs.length → DcW K W0 H0 p W st H [] [] → EnvR K W H env σ →
    (argsM fs env st).Holds (fun ds s => ∀ W' H' vs, Ext W H W' H' → DcW K W0 H0 p W' s H' [] [] → RelDs K W' H' ds vs → Cn ((ss.map V.str).zip vs) H') (fun C gs s => ∀ W' H' o, Ext W H W' H' → DcW K W0 H0 p W' s H' [] [] → ExD K W' H' gs o → Wx (.ref C) o σ H') → tPairs (trsM K Wx ss fs) σ H Cn
  | [], [], W, st, H, env, _, w, Ev, h => h W H [] .refl w rfl
  | [], _ :: _, _, _, _, _, l, _, _, _ => by cases l
  | _ :: _, [], _, _, _, _, l, _, _, _ => by cases l
  | s :: ss, f :: fs, W, st, H, env, l, w, Ev, h => by
    refine ⟨W, env, st, w.R, Ev, fun W1 H1 x E1 R1 r1 => ?_⟩
    have w1 := w.step E1 R1
    have ex : x = .str s := r1
    subst ex
    refine ⟨W1, env, st, R1, Ev.mono E1 w.R, split (h : ((f env st).bind fun d st1 => (argsM fs env st1).bind fun ds st2 => .ok (d :: ds) st2).Holds _ _) (fun d s2 h2 W2 H2 y E2 R2 r2 => ?_) fun C gs s2 hx W' H' o E' R' xx => hx W' H' o (E1.trans E') (w1.step E' R') xx⟩
    have w2 := w1.step E2 R2
    refine disp_run (ss := ss) (Nat.succ.inj l) w2 ((Ev.mono E1 w.R).mono E2 R1) (split h2 (fun ds s3 h3 W' H' vs E' w' r' => ?_) fun C gs s2 hx W' H' o E' w' xx => hx W' H' o (E1.trans (E2.trans E')) w' xx)
    exact h3 W' H' (y :: vs) (E1.trans (E2.trans E')) w' ⟨y, vs, rfl, E'.relD R2 r2, r'⟩
theorem zip_kv : ∀ (ss : List Str) (vs : List V), (((ss.map Sum.inr : List L2.Key)).zip vs).map (fun kv => (kV kv.1, kv.2)) = (ss.map V.str).zip vs
  | [], vs => by simp
  | s :: ss, [] => by simp
  | s :: ss, v :: vs => by
    have h := zip_kv ss vs
    simp only [List.map_cons, List.zip_cons_cons]
    rw [h]; rfl
theorem re_disp {ss : List Str} {fs : List (Env → Sto → Res D)} (h : RPs X Wx pos keys values ss fs) (hl : ss.length = fs.length) (hall : keys.all (·.isSome) = true := by rfl) (hlen : keys.length = values.length := by rfl) (h0 : keys ≠ [] := by simp) (h15 : keys.length ≤ 15 := by decide) : RE X Wx (.Dict keys values pos) (dispM ss fs) := by
  refine PE.conv (pe_disp h hall hlen h0 h15) fun σ H Q ⟨W, env, st, R, Ev, h⟩ p hp => ?_
  have w := DcW.new R hp
  refine disp_run (W0 := W) (H0 := H) (ss := ss) hl w (Ev.mono w.E R) (split h (fun ds s h1 W' H' vs E' w' r' => ?_) fun C gs s hx W' H' o E' w' xx => hx W' H' o (w.E.trans E') w'.R xx)
  split at h1
  · rename_i c
    have lv : vs.length = ss.length := by rw [relDs_len r']; exact c.1
    refine ⟨w'.at_, ((ss.map Sum.inr : List L2.Key)).zip vs, (zip_kv ss vs).symm, by rw [List.length_zip, List.length_map, lv, Nat.min_self]; exact c.2, ?_⟩
    have w2 := w'.put hp (disp_put (ss := ss) (acc := []) (bcc := []) r' rfl)
    obtain ⟨a1, a2, a3⟩ := w2.added hp
    exact h1 _ _ _ a1 a2 ⟨p, a3, rfl⟩
  · exact h1.elim
end
end Mi
/-! Mv9 -/
namespace Mi
open L2 PySem PySem.Spec PyProof.Rows
/-! ### keyword-only parameters that are all given; tables of classes -/
theorem Fun_kb {K : PySem.W.Frag} {x qual : Str} {st : Stmt} {f : Addr} {fd : FuncData} {ps ks : List Str} {n : Nat} (F : Fun K x qual st f fd)
    (h : ∀ (kV doc pm : Value) (an : Option Addr) (cdv ct : Value) (us ws : List Value), us.length = n → ws.length = ks.length → bindArgs (PySem.W.fnOf x qual (defArgs st) (defBody st) (defScope st) .none kV doc pm an cdv ct) ⟨us, ks.zip ws⟩ = pure (ps.zip (us ++ ws))) :
    KBn K fd ps n ks (fun us ws => us ++ ws) (fun vs zs => vs ++ zs) := by
  obtain  ⟨oc, od, kV, doc, pm, an, cdv, ct, osl, rfl, lk, hcd⟩ := F.ex
  exact ⟨fun s us ws X l1 l2 => .of_eq (h kV doc pm an cdv ct us ws l1 l2), fun r1 r2 => r1.append r2⟩
def app2 (as bs : List D) : List D := as ++ bs
theorem perm_app {K : PySem.W.Frag} {ks : List Str} {m np : Nat} (h : m + 1 + ks.length = np) {W : Wd} {H : Hp} {as bs : List D} {us ws : List V} (r1 : RelDs K W H as us) (r2 : RelDs K W H bs ws) (l1 : as.length = m + 1) (l2 : bs.length = ks.length) :
    RelDs K W H (app2 as bs) (us ++ ws) ∧ (app2 as bs).length = np := ⟨relDs_append r1 r2, by unfold app2; rw [List.length_append, l1, l2, h]⟩
instance decTyN : DecidableEq TyN := fun a b => match a, b with
  | .b s, .b t => if h : s = t then .isTrue (by rw [h]) else .isFalse fun e => by cases e; exact h rfl
  | .c s, .c t => if h : s = t then .isTrue (by rw [h]) else .isFalse fun e => by cases e; exact h rfl
  | .b _, .c _ => .isFalse fun e => by cases e
  | .c _, .b _ => .isFalse fun e => by cases e
def lkT (t : TyN) : List (TyN × Bool) → Option Bool
  | [] => none
  | (a, b) :: r => if t = a then some b else lkT t r
def AllT (P : TyN → Bool → Prop) : List (TyN × Bool) → Prop
  | [] => True
  | (a, b) :: r => P a b ∧ AllT P r
theorem lkT_all {P : TyN → Bool → Prop} {t : TyN} {b : Bool} : ∀ {l : List (TyN × Bool)}, AllT P l → lkT t l = some b → P t b
  | [], _, h => by cases h
  | (a, c) :: r, hl, h => by
    have h : (if t = a then some c else lkT t r) = some b := h
    by_cases e : t = a
    · rw [if_pos e] at h
      cases h
      rw [e]
      exact hl.1
    · rw [if_neg e] at h
      exact lkT_all hl.2 h
/-- isinstance(x, B), B an own class: by the kinds of things that are known -/
def ktB (B : Addr) (l : List (TyN × Bool)) (t u : TyN) : Option Bool := match u with
  | .c B' => if B' = B then lkT t l else none
  | .b _ => none
theorem ktB_ok {K : PySem.W.Frag} {B : Addr} {l : List (TyN × Bool)} (h : AllT (fun t b => PySem.W.kitOne K t.val (.ref B) = some b) l) : ∀ t u b, ktB B l t u = some b → PySem.W.kitOne K t.val u.val = some b := fun t u b e => by
  unfold ktB at e
  split at e
  · rename_i B'
    by_cases c : B' = B
    · rw [if_pos c] at e; rw [c]; exact lkT_all (P := fun t b => PySem.W.kitOne K t.val (.ref B) = some b) h e
    · rw [if_neg c] at e; cases e
  · cases e
theorem ktB_ins {K : PySem.W.Frag} {B : Addr} {l : List (TyN × Bool)} (h : AllT (fun t _ => ∀ C, t = .c C → InsT K C) l) : ∀ C u b, ktB B l (.c C) u = some b → InsT K C := fun C u b e => by
  unfold ktB at e
  split at e
  · rename_i B'
    by_cases c : B' = B
    · rw [if_pos c] at e; exact lkT_all (P := fun t _ => ∀ C, t = .c C → InsT K C) h e C rfl
    · rw [if_neg c] at e; cases e
  · cases e
theorem ins_b {K : PySem.W.Frag} {s : String} : ∀ C, TyN.b s = .c C → InsT K C := fun C e => nomatch e
theorem ins_c {K : PySem.W.Frag} {D : Addr} (h : InsT K D) : ∀ C, TyN.c D = .c C → InsT K C := fun C e => by cases e; exact h
/-- one of these classes -/
def csL (l : List Addr) (C : Addr) : Bool := match l with
  | [] => false
  | a :: r => decide (C = a) || csL r C
theorem csL_all {P : Addr → Prop} : ∀ {l : List Addr}, (∀ a ∈ l, P a) → ∀ C, csL l C = true → P C
  | [], _, C, h => by cases h
  | a :: r, hl, C, h => by
    have h : (decide (C = a) || csL r C) = true := h
    rcases Bool.or_eq_true _ _ |>.mp h with h | h
    · rw [of_decide_eq_true h]; exact hl a List.mem_cons_self
    · exact csL_all (fun b hb => hl b (List.mem_cons_of_mem _ hb)) C h
theorem all1 {P : Addr → Prop} {a : Addr} (h : P a) : ∀ x ∈ [a], P x := fun x hx => by rw [List.mem_singleton.mp hx]; exact h
theorem all2 {P : Addr → Prop} {a : Addr} {r : List Addr} (h : P a) (hr : ∀ x ∈ r, P x) : ∀ x ∈ a :: r, P x := fun x hx => (List.mem_cons.mp hx).elim (fun e => by rw [e]; exact h) (hr x)
/-- bool(x) -/
def boolB (ds : List D) (_ : Sto) : Option D := match ds with
  | [.t (.int i)] => some (bD (i != 0))
  | [.t (.bl b)] => some (bD b)
  | _ => none
theorem c_bool {X : Cx} : CallR X (.type "bool") (rC X.K boolB) := call_of call_bool1 fun W st ds xs H Q z R r h q => by
  unfold boolB at h
  split at h
  · cases h; obtain ⟨v, rfl, r1⟩ := rel1 r; cases r1; exact .inl ⟨_, rfl, q W H _ .refl R rfl⟩
  · cases h; obtain ⟨v, rfl, r1⟩ := rel1 r; cases r1; exact .inr ⟨_, rfl, q W H _ .refl R rfl⟩
  · cases h
section
variable {X : Cx} {Wx : WX} {a b c i o : Expr} {fo fi : Env → Sto → Res D} {pos px py pz pt : Pos}
/-- in and not in of a dict as a test -/
theorem rt_din (hu : X.A.units + 1 < cLine) (hi : RE X Wx i fi) (ho : RE X Wx o fo) (hm : behindInMarks .In o = false := by rfl) : RT X Wx (.Compare i [.In] [o] pos) (fun env st => blOf (dinM false fi fo env st)) := by
  refine PT.conv (pt_cmp (pc_din hu hi ho) hm) fun σ H Q ⟨W, env, st, R, Ev, h⟩ => ⟨W, env, st, R, Ev, split (split h (A' := fun dd s => (match dd with | .t (.bl k) => OkB X.K W H Q k s | _ => False)) (fun dd s hh => ?_) fun C fs st' hx => hx) (fun y s h1 W1 H1 w E1 R1 r1 => ?_) fun C fs st' hx => hx⟩
  · split at hh
    · exact hh
    · exact hh.elim
  · refine ⟨W1, env, s, R1, Ev.mono E1 R, split h1 (fun d s2 h2 W2 H2 v E2 R2 r2 => ?_) fun C fs st' hx => hx.mono E1⟩
    cases q : dgetB s2 d y with
    | none => rw [q] at h2; exact h2.elim
    | some z =>
      rw [q] at h2
      obtain ⟨a, ov, ea, g, ro⟩ := dget_rel R2 q r2 (E2.relD R1 r1)
      refine ⟨a, ov, ea, g, _, rfl, ?_⟩
      rw [relO_some ro]
      have h2 : OkB X.K W H Q (xor false z.isSome) s2 := h2
      rw [Bool.false_xor] at h2
      exact h2 W2 H2 (E1.trans E2) R2
theorem rt_dnotin (hu : X.A.units + 1 < cLine) (hi : RE X Wx i fi) (ho : RE X Wx o fo) (hm : behindInMarks .NotIn o = false := by rfl) : RT X Wx (.Compare i [.NotIn] [o] pos) (fun env st => blOf (dinM true fi fo env st)) := by
  refine PT.conv (pt_cmp (pc_dnotin hu hi ho) hm) fun σ H Q ⟨W, env, st, R, Ev, h⟩ => ⟨W, env, st, R, Ev, split (split h (A' := fun dd s => (match dd with | .t (.bl k) => OkB X.K W H Q k s | _ => False)) (fun dd s hh => ?_) fun C fs st' hx => hx) (fun y s h1 W1 H1 w E1 R1 r1 => ?_) fun C fs st' hx => hx⟩
  · split at hh
    · exact hh
    · exact hh.elim
  · refine ⟨W1, env, s, R1, Ev.mono E1 R, split h1 (fun d s2 h2 W2 H2 v E2 R2 r2 => ?_) fun C fs st' hx => hx.mono E1⟩
    cases q : dgetB s2 d y with
    | none => rw [q] at h2; exact h2.elim
    | some z =>
      rw [q] at h2
      obtain ⟨a, ov, ea, g, ro⟩ := dget_rel R2 q r2 (E2.relD R1 r1)
      refine ⟨a, ov, ea, g, _, rfl, ?_⟩
      rw [relO_some ro]
      have h2 : OkB X.K W H Q (xor true z.isSome) s2 := h2
      rw [Bool.true_xor] at h2
      exact h2 W2 H2 (E1.trans E2) R2
/-- a, b, c = x, y, z, plain names -/
def parM3 (i j l : Nat) (fs : List (Env → Sto → Res D)) (env : Env) (st : Sto) : Out := (argsM fs env st).out env fun ds s => match ds with
  | [d, d2, d3] => .nx (((env.set i (some d)).set j (some d2)).set l (some d3)) s
  | _ => .bad
theorem rs_par3 {i j l : Nat} {x y z : Str} {kt k2 pt2} {fs : List (Env → Sto → Res D)} (hc : X.calm = true) (hN : X.N.Nodup) (hi : X.N[i]? = some x) (hj : X.N[j]? = some y) (hl : X.N[l]? = some z) (hij : i ≠ j) (hil : i ≠ l) (hjl : j ≠ l)
    (hx : X.env.scope.names.lookup x = some .local) (hy : X.env.scope.names.lookup y = some .local) (hz : X.env.scope.names.lookup z = some .local) (ha : RA X Wx [a, b, c] (argsM fs))
    (hw : swappedStores [.Tuple [.Name x px, .Name y py, .Name z pz] kt pt] (.Tuple [a, b, c] k2 pt2) X.env = pure (some [x, y, z]) := by rfl)
    (hs : swapsWithSole [.Tuple [.Name x px, .Name y py, .Name z pz] kt pt] (.Tuple [a, b, c] k2 pt2) pos.line X.env = pure false := by rfl) : RS X Wx (.Assign [.Tuple [.Name x px, .Name y py, .Name z pz] kt pt] (.Tuple [a, b, c] k2 pt2) pos) (parM3 i j l fs) := by
  refine PS.conv (ps_par3 hc hN hi hj hl hij hil hjl hx hy hz ha hw hs) fun E σ H ⟨W, env, st, R, Ev, h⟩ => ⟨W, env, st, R, Ev, out_split h Ev R fun ds s h1 W1 H1 vs E1 R1 r1 => ?_⟩
  split at h1
  · rename_i d d2 d3
    obtain ⟨v, r, rfl, q1, w, r', rfl, q2, u, r2, rfl, q3, q4⟩ := r1
    cases q4
    exact ⟨v, w, u, rfl, h1 W1 _ H1 E1 R1 ((((Ev.mono E1 R).set i q1).set j q2).set l q3)⟩
  · exact h1.elim
end
end Mi
/-! Dc2 -/
/-! {k: v for t0 in i0 for t1 in i1}, no tests -/
namespace Md
open L2 PySem PySem.Spec PyProof.Rows
abbrev two (kx vx t0 i0 t1 i1 : Expr) (sc : Scope) (po : Pos) : Expr := .DictComp kx vx [⟨t0, i0, [], 0⟩, ⟨t1, i1, [], 0⟩] sc po
section
variable {P : Program} {w : World} {A : Around} {R : Result → Shared → Prop} {s : Shared} {kx vx t0 i0 t1 i1 : Expr} {sc : Scope} {po : Pos} {g : Value} {L : Addr} {en : PySem.Env}
theorem turnO : compTurn (two kx vx t0 i0 t1 i1 sc po) 0 g (.ref L) en = (do
      standAt i0.pos
      match ← pyNext g with
      | none => pure (.done .next)
      | some y =>
        letOwnedTupleGo t0 g y
        assign t0 en y
        let z ← eval i1 en
        standAt i1.pos
        let z ← foldedSetIterable i1 en z
        let _ ← runOwn (.compStart (two kx vx t0 i0 t1 i1 sc po) 1 (← holding [z] (pyIter z)) (.ref L) en) en
        again (.compLoop (two kx vx t0 i0 t1 i1 sc po) 0 g (.ref L) en)) := by rfl
theorem turnI : compTurn (two kx vx t0 i0 t1 i1 sc po) 1 g (.ref L) en = (do
      standAt i1.pos
      match ← pyNext g with
      | none => pure (.done .next)
      | some y =>
        letOwnedTupleGo t1 g y
        assign t1 en y
        (do let k ← eval kx en
            let v ← holding [k] (eval vx en)
            standAt  { kx.pos with endLine := vx.pos.endLine, endCol := vx.pos.endCol }
            holding [k, v] (dictSet L k v))
        again (.compLoop (two kx vx t0 i0 t1 i1 sc po) 1 g (.ref L) en)) := by rfl

/-- the outer loop -/
theorem loopO (hf : ∀ x, foldedSetIterable i1 en x = pure x) (I : Nat → Shared → Prop)
    (turn : ∀ n s, I n s → wpAny (model P w) A (pyNext g) (fun r s1 => match r with
      | none => R (.ok .next) s1
      | some y => wpAny (model P w) A (letOwnedTupleGo t0 g y) (fun _ s2 => wpAny (model P w) A (assign t0 en y) (fun _ s3 => wpAny (model P w) A (eval i1 en) (fun z s4 => wpAny (model P w) A (pyIter z) (fun g1 s5 =>
          codeAny (model P w) A (.compStart (two kx vx t0 i0 t1 i1 sc po) 1 g1 (.ref L) en) (fun r s6 => match r with
            | .ok _ => ∃ m, m < n ∧ I m s6
            | .error _ => False) s5) (notedBy (model P w) A en fun e s' => R (.error e) s') s4) (notedBy (model P w) A en fun e s' => R (.error e) s') s3) (notedBy (model P w) A en fun e s' => R (.error e) s') s2) (notedBy (model P w) A en fun e s' => R (.error e) s') s1) (notedBy (model P w) A en fun e s' => R (.error e) s') s)
    (n : Nat) (h : I n s) : codeAny (model P w) A (.compLoop (two kx vx t0 i0 t1 i1 sc po) 0 g (.ref L) en) R s := by
  refine codeAny_loop rfl I ?_ n h
  intro n s hI
  show wpAny (model P w) A ((compTurn (two kx vx t0 i0 t1 i1 sc po) 0 g (.ref L) en).onRaise fun x => do noteFrame x en; theTreesLotGoes x) _ _ s
  apply wpAny_noted
  rw [turnO]
  apply wpAny_bind; apply wpAny_standAt; apply wpAny_bind
  refine wpAny_mono (turn n s hI) (fun r s1 q1 => ?_) fun _ _ z => z
  match r, q1 with
  | none, q1 => exact wpAny_pure q1
  | some y, q1 =>
    apply wpAny_bind
    refine wpAny_mono q1 (fun _ s2 q2 => ?_) fun _ _ z => z
    apply wpAny_bind
    refine wpAny_mono q2 (fun _ s3 q3 => ?_) fun _ _ z => z
    apply wpAny_bind
    refine wpAny_mono q3 (fun x s4 q4 => ?_) fun _ _ z => z
    apply wpAny_bind; apply wpAny_standAt; apply wpAny_bind
    refine wpAny_of_eq (hf x) (wpAny_bind (wpAny_holding (wpAny_mono q4 (fun g1 s5 q5 => ?_) fun _ _ z => z)))
    refine  wpAny_bind (wpAny_runOwn ?_)
    rw [Around.mark_none]
    refine codeAny_mono q5 fun r s6 q6 => ?_
    match r, q6 with
    | .ok f, q6 => first | exact wpAny_pure ⟨rfl, q6⟩ | exact wpAny_bind (wpAny_pure (wpAny_pure ⟨rfl, q6⟩))
    | .error e, q6 => exact q6.elim
/-- the inner loop -/
theorem loopI (I : Nat → Shared → Prop)
    (turn : ∀ n s, I n s → wpAny (model P w) A (pyNext g) (fun r s1 => match r with
      | none => R (.ok .next) s1
      | some y => wpAny (model P w) A (letOwnedTupleGo t1 g y) (fun _ s2 => wpAny (model P w) A (assign t1 en y) (fun _ s3 => wpAny (model P w) A (eval kx en) (fun k s4 => wpAny (model P w) A (eval vx en) (fun v s5 =>
          wpAny (model P w) A (dictSet L k v) (fun _ s6 => ∃ m, m < n ∧ I m s6) (notedBy (model P w) A en fun e s' => R (.error e) s') s5) (notedBy (model P w) A en fun e s' => R (.error e) s') s4) (notedBy (model P w) A en fun e s' => R (.error e) s') s3) (notedBy (model P w) A en fun e s' => R (.error e) s') s2) (notedBy (model P w) A en fun e s' => R (.error e) s') s1) (notedBy (model P w) A en fun e s' => R (.error e) s') s)
    (n : Nat) (h : I n s) : codeAny (model P w) A (.compLoop (two kx vx t0 i0 t1 i1 sc po) 1 g (.ref L) en) R s := by
  refine codeAny_loop rfl I ?_ n h
  intro n s hI
  show wpAny (model P w) A ((compTurn (two kx vx t0 i0 t1 i1 sc po) 1 g (.ref L) en).onRaise fun x => do noteFrame x en; theTreesLotGoes x) _ _ s
  apply wpAny_noted
  rw [turnI]
  apply wpAny_bind; apply wpAny_standAt; apply wpAny_bind
  refine wpAny_mono (turn n s hI) (fun r s1 q1 => ?_) fun _ _ z => z
  match r, q1 with
  | none, q1 => exact wpAny_pure q1
  | some y, q1 =>
    apply wpAny_bind
    refine wpAny_mono q1 (fun _ s2 q2 => ?_) fun _ _ z => z
    apply wpAny_bind
    refine wpAny_mono q2 (fun _ s3 q3 => ?_) fun _ _ z => z
    apply wpAny_bind; apply wpAny_bind
    refine wpAny_mono q3 (fun k s4 q4 => ?_) fun _ _ z => z
    apply wpAny_bind; apply wpAny_holding
    refine wpAny_mono q4 (fun v s5 q5 => ?_) fun _ _ z => z
    apply wpAny_bind; apply wpAny_standAt; apply wpAny_holding
    exact wpAny_mono q5 (fun _ s6 q6 => wpAny_pure ⟨rfl, q6⟩) fun _ _ z => z
/-- the inner clause's start -/
theorem startI (h0 : codeAny (model P w) A (.compLoop (two kx vx t0 i0 t1 i1 sc po) 1 g (.ref L) en) R s)
    (h : wpAny (model P w) A (pyIter g) (fun g1 s1 => codeAny (model P w) A (.compLoop (two kx vx t0 i0 t1 i1 sc po) 1 g1 (.ref L) en) R s1) (notedBy (model P w) A en fun e s' => R (.error e) s') s) :
    codeAny (model P w) A (.compStart (two kx vx t0 i0 t1 i1 sc po) 1 g (.ref L) en) R s := by
  apply codeAny_of_tree
  show wpAny _ _ ((compStart (two kx vx t0 i0 t1 i1 sc po) 1 g (.ref L) en).onRaise fun x => do noteFrame x en; standAt theWindowsPlace) _ _ s
  apply wpAny_notedAt
  unfold compStart
  show  wpAny _ _ (ask >>= _) _ _ s
  apply wpAny_bind
  refine wpAny_askSetting (wpAny_ite ?_)
  split
  · first
      | exact wpAny_pure ⟨rfl, h0⟩
      | exact wpAny_bind (wpAny_pure (wpAny_pure ⟨rfl, h0⟩))
  · apply wpAny_bind; apply wpAny_rule
    first
      | exact wpAny_bind (wpAny_standAt (wpAny_bind (wpAny_mono h (fun g1 s1 q => wpAny_pure ⟨rfl, q⟩) fun _ _ z => z)))
      | (show wpAny _ _ (standAt i1.pos >>= _) _ _ s
         exact wpAny_bind (wpAny_standAt (wpAny_bind (wpAny_mono h (fun g1 s1 q => wpAny_pure ⟨rfl, q⟩) fun _ _ z => z))))
end

section
variable {Y : Cx}
theorem go {α : Type} {t : Sem α} {Q Q' : α → Shared → Prop} {E : Value → Shared → Prop} {s : Shared} (hx : ∀ v s, ¬ Y.xe v s) (h : wpAny (model Y.prog Y.w) Y.A t Q Y.xe s) (k : ∀ a s, Q a s → Q' a s) : wpAny (model Y.prog Y.w) Y.A t Q' E s :=
  wpAny_mono h k fun v s z => absurd z (hx v s)
/-- an iterator's objects, pinned while a turn is under way, and free again -/
theorem freed {tg : Expr} {J : It} {fp : List Addr} {it : Addr} {tn : Nat → Heap → Prop} {i : Nat} {pins : List (Addr × Obj)} {σ σ0 : L2.St} {H : Hp} {a s : Shared} (T : Turn Y.prog Y.w Y.K tg J fp it tn) (ha : tn i a.heap) (I : Inv Y (pins ++ pinsAt fp a.heap) σ H s)
    (hl : σ0.length = σ.length) (hk : ∀ (j : Nat) v, σ0[j]? = some (some v) → σ[j]? = some (some v)) : Inv Y pins σ0 H s ∧ tn i s.heap ∧ ∀ b ∈ fp, H b = none := by
  have pin : ∀ b ∈ fp, ∀ o, a.heap.get? b = some o → s.heap.get? b = some o ∧ H b = none := fun b hb o e => by
    have z := I.pin (b, o) (List.mem_append.mpr (.inr (List.mem_append.mpr (.inr (mem_pinsAt hb e)))))
    exact ⟨z.1, z.2.1⟩
  refine ⟨I.unpinned.weak hl hk, T.keep i _ _ ha fun b hb o e => (pin b hb o e).1, fun b hb => ?_⟩
  obtain ⟨o, e, _⟩ := T.obj i _ ha b hb
  exact (pin b hb o e).2
/-- what the inner loop asks -/
def tIn (J : It) (L : Addr) (g : TG) (tk tv : TE) (us : List Nat) (σ : L2.St) (H : Hp) (Nx : Hp → Prop) : Prop :=
  ∃ W : Nat → Nat → Hp → Prop, (∃ m, W 0 m H) ∧ ∀ j k H, W j k H → (J.stop j H ∧ Nx H) ∨ (J.go j H ∧ ∃ Ny : Hp → Prop, (∀ H', Ny H' → ∃ k', k' < k ∧ W (j + 1) k' H') ∧
    ∀ x H', J.yld j H x H' → g x (wipe σ us) H' fun σ2 H2 => wipe σ2 us = wipe σ us ∧ tk σ2 H2 fun y H3 => tv σ2 H3 fun z H4 => ∃ kvs k, y = kV k ∧ H4 L = some (.dK kvs) ∧ kvs.length < sizeLine ∧ Ny (upd H4 L (.dK (putK kvs k z))))
variable {kx vx t0 i0 t1 i1 : Expr} {sc : Scope} {po : Pos}
theorem inner {J : It} {L it : Addr} {fp : List Addr} {tn : Nat → Heap → Prop} {g : TG} {tk tv : TE} {us : List Nat} {pins : List (Addr × Obj)} {σ : L2.St} {H : Hp} {s : Shared} {Nx : Hp → Prop} {G : Shared → Prop} (hc : Y.calm = true) (hx : ∀ v s, ¬ Y.xe v s)
    (pg : PG Y t1 g) (pk : PE Y kx tk) (pv : PE Y vx tv) (T : Turn Y.prog Y.w Y.K t1 J fp it tn) (I : Inv Y pins σ H s) (st : tn 0 s.heap) (f : ∀ b ∈ fp, FpOk Y pins H b) (h : tIn J L g tk tv us σ H Nx)
    (hG : ∀ s' H', Inv Y pins (wipe σ us) H' s' → Nx H' → G s') :
    codeAny (model Y.prog Y.w) Y.A (.compLoop (two kx vx t0 i0 t1 i1 sc po) 1 (.ref it) (.ref L) Y.env) (fun r s' => match r with
      | .ok _ => G s'
      | .error _ => False) s := by
  obtain ⟨W, ⟨m, w0⟩, hW⟩ := h
  have own : ∀ {H'}, (∀ b ∈ fp, H' b = none) → ∀ b ∈ fp, FpOk Y pins H' b := fun z b hb => ⟨z b hb, (f b hb).2⟩
  refine loopI (fun k s' => ∃ j H', Inv Y pins (wipe σ us) H' s' ∧ tn j s'.heap ∧ (∀ b ∈ fp, H' b = none) ∧ W j k H') ?_ m ⟨0, H, I.weak (wipe_length _ _) fun _ _ e => (wipe_some e).1, st, fun b hb => (f b hb).1, w0⟩
  rintro k s1 ⟨j, H1, I1, st1, n1, w1⟩
  rcases hW j k H1 w1 with ⟨e, nx⟩ | ⟨gg, Ny, hN, step⟩
  · refine thnF (T.done Y rfl rfl rfl hc j pins s1 _ H1 (fun _ _ => False) I1 (own n1) st1 e) fun r s2 ⟨er, I2⟩ => ?_
    rw [er]
    exact hG s2 H1 I2 nx
  · refine thnF (T.item Y rfl rfl rfl hc j pins s1 _ H1 (fun _ _ => False) I1 (own n1) st1 gg) fun r s2 ⟨u, er, q2⟩ => ?_
    rw [er]
    refine thnF q2 fun _ s3 ⟨x, H3, I3, rx, yx, st3, n3⟩ => ?_
    refine go hx (pg.run _ s3 _ H3 x u _ (I3.pinned (own n3) (T.obj _ _ st3)) rx (step x H3 yx)) fun _ s4 ⟨σ4, H4, I4, hw, q4⟩ => ?_
    refine go hx (pk.run _ s4 σ4 H4 _ I4 q4) fun k1 s5 ⟨y, H5, I5, r5, q5⟩ => ?_
    refine go hx (pv.run _ s5 σ4 H5 _ I5 q5) fun v1 s6 ⟨z, H6, I6, r6, kvs, key, e, hL, hz, ny⟩ => ?_
    subst e
    refine d_dictSet (X := Y) I6 hL hz r5 r6 fun s7 I7 => ?_
    obtain ⟨k', lt, w'⟩ := hN _ ny
    obtain ⟨a1, a2, a3⟩ := freed (σ0 := wipe σ us) T st3 I7 (by rw [← hw, wipe_length]) fun i v e => by rw [← hw] at e; exact (wipe_some e).1
    exact ⟨k', lt, j + 1, _, a1, a2, a3, w'⟩
theorem outer {J : It} {L it : Addr} {fp : List Addr} {tn : Nat → Heap → Prop} {g g1 : TG} {wi : TI} {tk tv : TE} {us us1 : List Nat} {σ0 : L2.St} {H : Hp} {s : Shared} {Qx : Hp → Prop} {R : Result → Shared → Prop} {W : Nat → Nat → Hp → Prop} {m0 : Nat} (hc : Y.calm = true) (hx : ∀ v s, ¬ Y.xe v s) (hsub : ∀ i ∈ us1, i ∈ us)
    (hf : ∀ x, foldedSetIterable i1 Y.env x = pure x) (pg : PG Y t0 g) (pi : PI Y t1 i1 wi) (pg1 : PG Y t1 g1) (pk : PE Y kx tk) (pv : PE Y vx tv) (T : Turn Y.prog Y.w Y.K t0 J fp it tn) (I : Inv Y [] σ0 H s) (st : tn 0 s.heap) (nf : ∀ b ∈ fp, H b = none)
    (own : ∀ {σ' : L2.St} {H' : Hp} {s' : Shared}, Inv Y [] σ' H' s' → (∀ b ∈ fp, H' b = none) → ∀ b ∈ fp, FpOk Y [] H' b) (w0 : W 0 m0 H)
    (hW : ∀ i m H, W i m H → (J.stop i H ∧ Qx H) ∨ (J.go i H ∧ ∃ Nx : Hp → Prop, (∀ H', Nx H' → ∃ m', m' < m ∧ W (i + 1) m' H') ∧
      ∀ x H', J.yld i H x H' → g x σ0 H' fun σ2 H2 => wipe σ2 us = σ0 ∧ wi σ2 H2 fun J1 H3 => tIn J1 L g1 tk tv us1 σ2 H3 Nx))
    (hR : ∀ s' H', Inv Y [] σ0 H' s' → Qx H' → R (.ok .next) s') :
    codeAny (model Y.prog Y.w) Y.A (.compLoop (two kx vx t0 i0 t1 i1 sc po) 0 (.ref it) (.ref L) Y.env) R s := by
  refine loopO hf (fun n s' => ∃ i H', Inv Y [] σ0 H' s' ∧ tn i s'.heap ∧ (∀ b ∈ fp, H' b = none) ∧ W i n H') ?_ m0 ⟨0, H, I, st, nf, w0⟩
  rintro n s1 ⟨i, H1, I1, st1, n1, w1⟩
  rcases hW i n H1 w1 with ⟨e, qx⟩ | ⟨gg, Nx, hN, step⟩
  · refine thnF (T.done Y rfl rfl rfl hc i [] s1 _ H1 (fun _ _ => False) I1 (own I1 n1) st1 e) fun r s2 ⟨er, I2⟩ => ?_
    rw [er]
    exact hR s2 H1 I2 qx
  · refine thnF (T.item Y rfl rfl rfl hc i [] s1 _ H1 (fun _ _ => False) I1 (own I1 n1) st1 gg) fun r s2 ⟨u, er, q2⟩ => ?_
    rw [er]
    refine thnF q2 fun _ s3 ⟨x, H3, I3, rx, yx, st3, n3⟩ => ?_
    refine go hx (pg.run _ s3 _ H3 x u _ (I3.pinned (own I3 n3) (T.obj _ _ st3)) rx (step x H3 yx)) fun _ s4 ⟨σ4, H4, I4, hw, q4⟩ => ?_
    refine go hx (pi.run _ s4 σ4 H4 _ I4 q4) fun z s5 q5 => go hx q5 fun itv s6 ⟨it1, fp1, tn1, J1, H6, e1, I6, T1, st6, f6, q6⟩ => ?_
    rw [e1]
    have lp := inner (G := fun s' => ∃ m, m < n ∧ ∃ i H', Inv Y [] σ0 H' s' ∧ tn i s'.heap ∧ (∀ b ∈ fp, H' b = none) ∧ W i m H') (t0 := t0) (i0 := i0) (i1 := i1) (sc := sc) (po := po) hc hx pg1 pk pv T1 I6 st6 f6 q6 fun s7 H7 I7 nx => by
      obtain ⟨m', lt, w'⟩ := hN H7 nx
      obtain ⟨a1, a2, a3⟩ := freed (σ0 := σ0) T st3 I7 (by rw [← hw, wipe_length, wipe_length]) fun j v e => by
        rw [← hw] at e
        obtain  ⟨e1, e2⟩ := wipe_some e
        rw [wipe_out fun z => e2 (hsub j z)]
        exact e1
      exact ⟨m', lt, i + 1, H7, a1, a2, a3, w'⟩
    exact startI lp (T1.self Y.A 0 _ _ _ st6 lp)
end

section
variable {X : Cx} {kx vx t0 i0 t1 i1 : Expr} {sc : Scope} {po : Pos}
def tTwo (wi : TI) (g : TG) (wi1 : TI) (g1 : TG) (tk tv : TE) (us us1 : List Nat) : TE := fun σ H Q => wi σ H fun J H1 => ∀ L, H1 L = none →
  ∃ W : Nat → Nat → Hp → Prop, (∃ m, W 0 m (upd H1 L (.dK []))) ∧ ∀ i m H, W i m H → (J.stop i H ∧ Q (.ref L) H) ∨ (J.go i H ∧ ∃ Nx : Hp → Prop, (∀ H', Nx H' → ∃ m', m' < m ∧ W (i + 1) m' H') ∧
    ∀ x H', J.yld i H x H' → g x (wipe σ us) H' fun σ2 H2 => wipe σ2 us = wipe σ us ∧ wi1 σ2 H2 fun J1 H3 => tIn J1 L g1 tk tv us1 σ2 H3 Nx)
abbrev Blk (X : Cx) (sc : Scope) (f : Cx → Prop) : Prop := ∀ (s : Shared) (H : Hp) (C : Addr) (cl : List (Str × Addr)) (fp : List Addr), f (X.blk s H sc (compEnvC sc cl C X.env) fp)
theorem pe_two {own : List (Str × Nat)} {us1 : List Nat} {wi wi1 : TI} {g g1 : TG} {tk tv : TE} (hc : X.calm = true) (hN : X.N.Nodup) (hi : PI X t0 i0 wi) (ok : BlkOk X.N X.env.scope sc own) (hv : ∀ i ∈ us1, i ∈ own.map (·.2)) (hg : Blk X sc fun Y => PG Y t0 g) (hi1 : Blk X sc fun Y => PI Y t1 i1 wi1)
    (hg1 : Blk X sc fun Y => PG Y t1 g1) (hk : Blk X sc fun Y => PE Y kx tk) (he : Blk X sc fun Y => PE Y vx tv) (hs : ∀ x, foldedSetIterable i0 X.env x = pure x) (hs1 : ∀ env x, foldedSetIterable i1 env x = pure x) : PE X (two kx vx t0 i0 t1 i1 sc po) (tTwo wi g wi1 g1 tk tv (own.map (·.2)) us1) := by
  refine  ⟨fun pins s σ H Q I h => ?_⟩
  rw [arm_eval_DictComp]
  have hfree : ∀ y ∈ sc.names, y.2 = .free → ∃ c, X.env.cells.lookup y.1 = some c := fun y hy e => (ok.free y hy e).elim (fun z => I.ok.has _ (.inl z)) fun z => I.ok.has _ (.inr z)
  refine wpAny_comprehension_free (use := none) rfl hs (closure_ok hfree) ok.kind (fun y hy e => by rw [ok.uniq y hy, e]) (thn (hi.run pins s σ H _ I h) fun xv s1 q1 => thn q1 fun itv s2 q2 => ?_)
  obtain ⟨it, fp, tn, J, H2, e, I2, T, st2, f2, q⟩ := q2
  rw [e]
  refine  wpAny_newObj_type (newEnv_comp ?_)
  have new : H2 s2.heap.objs.size = none := I2.hok.fresh (Nat.le_refl _)
  obtain ⟨W, ⟨m0, w0⟩, hW⟩ := q _ new
  -- the dict is laid
  obtain ⟨s3, hs3⟩ : ∃ s3 : Shared, s3 = { s2 with heap := s2.heap.push { cls := .type "dict", data := .dict #[] } } := ⟨_, rfl⟩
  obtain ⟨H3, hH3⟩ : ∃ H3 : Hp, H3 = upd H2 s2.heap.objs.size (.dK []) := ⟨_, rfl⟩
  have I3 : Inv X pins σ H3 s3 := by
    rw [hs3, hH3]
    exact I2.laid (t' := s2.toks) (fun b o z => Heap.get?_push_of_some _ z) (Nat.le_refl _) (dk_empty s2.heap I2.big)
  have old : ∀ b ∈ fp, b < s2.heap.objs.size := fun b hb => let ⟨_, z, _⟩ := T.obj _ _ st2 b hb; Heap.lt_size z
  have f3 : ∀ b ∈ fp, FpOk X pins H3 b ∧ b < s3.heap.objs.size := fun b hb => by
    have lt := old b hb
    refine ⟨⟨?_, (f2 b hb).2⟩, ?_⟩
    · rw [hH3, upd_ne (Nat.ne_of_lt lt)]
      exact (f2 b hb).1
    · rw [hs3]
      show b < (s2.heap.push _).objs.size
      rw [Heap.size_push]
      exact Nat.lt_succ_of_lt lt
  have st3 : tn 0 s3.heap := T.keep _ _ _ st2 fun b _ o z => by rw [hs3]; exact Heap.get?_push_of_some _ z
  -- the block
  have  I4 := block_start I3 ok hN f3
  have goal : codeAny (model X.prog X.w) X.A (.compStart (two kx vx t0 i0 t1 i1 sc po) 0 (.ref it) (.ref s2.heap.objs.size) (compEnvC sc (cellsFrom (s3.heap.objs.size + 1) sc.names (cloFrom X.env.cells sc.names [])) s3.heap.objs.size X.env)) (compPost (model X.prog X.w) X.A X.xe none (EP X pins σ Q) (.ref s2.heap.objs.size) s3.heap.objs.size) { s3 with heap := pushCells (s3.heap.push { cls := .type "dict", data := .dict #[] }) sc.names } := by
    generalize hce : compEnvC sc (cellsFrom (s3.heap.objs.size + 1) sc.names (cloFrom X.env.cells sc.names [])) s3.heap.objs.size X.env = ce at I4 ⊢
    have cL : ce.locals = s3.heap.objs.size := by rw [← hce]; rfl
    obtain ⟨s4, hs4⟩ : ∃ s4 : Shared, s4 = { s3 with heap := pushCells (s3.heap.push { cls := .type "dict", data := .dict #[] }) sc.names } := ⟨_, rfl⟩
    rw [← hs4] at I4 ⊢
    have st4 : tn 0 s4.heap := T.keep _ _ _ st3 fun b _ o z => by rw [hs4]; exact pushCells_keeps _ _ _ _ (Heap.get?_push_of_some _ z)
    have own4 : ∀ {σ' : L2.St} {H' : Hp} {s' : Shared}, Inv (X.blk s3 H3 sc ce fp) [] σ' H' s' → (∀ b ∈ fp, H' b = none) → ∀ b ∈ fp, FpOk (X.blk s3 H3 sc ce fp) [] H' b := fun {σ' H' s'} J' nn b hb =>
      ⟨nn b hb, (J'.ok.exf b hb).1, J'.ok.exfs b hb, .inl hb, fun x c z => (J'.ok.exf b hb).2 x c z, fun p hp => absurd (show p ∈ ([] : List (Addr × Obj)) ++ [] from hp) (by simp)⟩
    have lp : codeAny (model X.prog X.w) X.A (.compLoop (two kx vx t0 i0 t1 i1 sc po) 0 (.ref it) (.ref s2.heap.objs.size) ce) (compPost (model X.prog X.w) X.A X.xe none (EP X pins σ Q) (.ref s2.heap.objs.size) s3.heap.objs.size) s4 := by
      refine outer (Y := X.blk s3 H3 sc ce fp) (us := own.map (·.2)) (us1 := us1) (σ0 := wipe σ (own.map (·.2))) (H := H3) (W := W) (m0 := m0) (Qx := Q (.ref s2.heap.objs.size)) hc (fun _ _ z => z) hv (hs1 ce) ?_ ?_ ?_ ?_ ?_ T I4 st4 (fun b hb => (f3 b hb).1.1) own4 (by rw [hH3]; exact w0) hW ?_
      · rw [← hce]; exact hg _ _ _ _ _
      · rw [← hce]; exact hi1 _ _ _ _ _
      · rw [← hce]; exact hg1 _ _ _ _ _
      · rw [← hce]; exact hk _ _ _ _ _
      · rw [← hce]; exact he _ _ _ _ _
      · intro s5 H5 I5 qx
        have back : Inv X pins σ H5 s5 := I3.call' (ch := fp) I5.os I5.base I5.hok I5.bare fun b hb => ⟨(f3 b hb).1.2.2.2.1, (f3 b hb).1.2.1, (f3 b hb).1.2.2.2.2.1, (f3 b hb).1.2.2.2.2.2⟩
        have nC : H5 s3.heap.objs.size = none := by rw [← cL]; exact I5.free
        obtain ⟨m, hn, _⟩ := I5.loc
        obtain ⟨f0, f1, f2, f3, f4, f5⟩ := I3.fpOk (Nat.le_refl _) nC
        refine ⟨m, by rw [← cL]; exact hn, fun h'' sb => ⟨.ref s2.heap.objs.size, H5, back.turned (t' := s5.toks) (fun b o hb z => (sb.2 b hb).trans z) f0 f1 f3 f4 f5, rfl, qx⟩⟩
    exact codeAny_compStart_dict lp (T.self X.A 0 _ _ _ st4 lp)
  rw [hs3] at goal
  exact goal
end
end Md
/-! EnT -/
/-! enumerate(t), t a tuple -/
namespace PySem
open PySem.Sem (wp)
theorem Md.enumNew {v : Value} {o : Obj} {H : Heap → Prop} (B : Begins v o H) : Meets (Builtin.«enumerate.__new__» ⟨[.type "enumerate", v], []⟩) (fun _ R s => H s.heap ∧
    R (.ok (.ret (.ref (s.heap.push o).objs.size))) { s with heap := (s.heap.push o).push { cls := .type "enumerate", data := .fields #[.none, .bool false, .ref s.heap.objs.size, rawInt 0, .none, .none] } }) :=
  .of_wp fun prog w A R s hs => by
    obtain  ⟨hp, g, d, tk, os⟩ := s
    obtain ⟨h1, h⟩ := hs
    have hsub := sub_enumerate
    have begin1 : ∀ {A1 : Around} {E1 : Value → Shared → Prop} {Q1 : Value → Shared → Prop}, Q1 (.ref hp.objs.size) ⟨hp.push o, g, d, tk, os⟩ → wpAny (model prog w) A1 (pyIter v) Q1 E1 ⟨hp, g, d, tk, os⟩ :=
      fun z => B.iter prog w _ _ ⟨hp, g, d, tk, os⟩ _ h1 z
    wp_walk
    refine  wpAny_stack_any fun st => wpAny_pure ?_
    split
    · rename_i c _ _ _ _ _
      cases (c == Value.type "enumerate") <;> (wp_walk using begin1; exact ⟨_, rfl, h⟩)
    · wp_walk using begin1
      exact ⟨_, rfl, h⟩
theorem Md.enumCall {prog : Program} {w : World} {A : Around} {E : Value → Shared → Prop} {s : Shared} {v : Value} {o : Obj} {H : Heap → Prop} {Q : Value → Shared → Prop} (B : Begins v o H) (h1 : H s.heap)
    (h : ∀ h', IsEnum h' (s.heap.objs.size + 1) s.heap.objs.size 0 .none → h'.get? s.heap.objs.size = some o → (∀ b x, s.heap.get? b = some x → h'.get? b = some x) → Q (.ref (s.heap.objs.size + 1)) { s with heap := h' }) :
    wpAny (model prog w) A (call (.type "enumerate") [v]) Q E s := by
  refine callType_new F.called_enumerate (by decide) (F.typeCall_enumerate_1 _) (F.newCall_enumerate_1 _) (fun obj => F.args_object_init_2 obj _) F.entry_enumerate_new (Md.enumNew B) ⟨h1, ?_⟩
  have sz : (s.heap.push o).objs.size = s.heap.objs.size + 1 := Heap.size_push ..
  have he : IsEnum ((s.heap.push o).push { cls := .type "enumerate", data := .fields #[.none, .bool false, .ref s.heap.objs.size, rawInt 0, .none, .none] }) (s.heap.objs.size + 1) s.heap.objs.size 0 .none := by
    have z := Heap.get?_push_size (s.heap.push o) (o := { cls := .type "enumerate", data := .fields #[.none, .bool false, .ref s.heap.objs.size, rawInt 0, .none, .none] }) rfl
    rw [sz] at z
    exact z
  show _ ∧ _
  rw [sz]
  exact ⟨⟨_, he, rfl⟩, h _ he (Heap.get?_push_of_some _ (Heap.get?_push_size _ B.free)) fun b x q => Heap.get?_push_of_some _ (Heap.get?_push_of_some _ q)⟩
end PySem
namespace Md
open L2 PySem PySem.Spec PyProof.Rows
/-- pairs of a number and the tuple's item -/
def IteT (K : PySem.W.Frag) (a : Addr) : It where
  go i H := ∃ (xs : List V) (x : V), SqT K H a xs ∧ xs[i]? = some x
  yld i H v H' := ∃ T x, v = .ref T ∧ H T = none ∧ H' = upd H T (.tup [.int (i : Nat), x]) ∧ ∀ xs, SqT K H a xs → xs[i]? = some x
  stop i H := ∃ xs : List V, SqT K H a xs ∧ xs.length ≤ i
/-- where an enumerate and its tuple's iterator stand -/
structure EtAt (a e it i : Nat) (h : Heap) : Prop where
  en : ∃ old, IsEnum h e it ((i : Nat) : Int) old
  tp : h.IsTupleIter it a i
  n1 : e ≠ it
  n2 : a ≠ it
  n3 : a ≠ e
theorem turnEt {P : Program} {w : World} {K : PySem.W.Frag} {es : List Expr} {k : Nat} {tp : Pos} (a e it : Addr) : Turn P w K (.Tuple es k tp) (IteT K a) [e, it] e (EtAt a e it) where
  mem := List.mem_cons_self ..
  obj i h st b hb := by
    obtain ⟨old, he⟩ := st.en
    obtain ⟨o, ho, _, hd⟩ := st.tp
    rcases  List.mem_cons.mp hb with z | z
    · subst z; exact ⟨_, he, fun v q => nomatch q⟩
    · rw [List.mem_singleton.mp z]; exact ⟨o, ho, fun v q => by rw [hd] at q; cases q⟩
  keep i h h' st kp := ⟨let ⟨old, he⟩ := st.en; ⟨old, kp e (by simp) _ he⟩, st.tp.at fun o q => kp it (by simp) o q, st.n1, st.n2, st.n3⟩
  item := by
    intro X e1 e2 e3 hc i pins s σ H E I own st gg
    subst e1 e2 e3
    obtain ⟨old, he⟩ := st.en
    obtain ⟨xs, x, hq, hx⟩ := gg
    obtain  ⟨its, rv, p, hz⟩ := I.tuple hq
    obtain  ⟨u, hu, ru⟩ := rv.get hx
    have el : e < s.heap.objs.size := Heap.lt_size he
    have il : it < s.heap.objs.size := by obtain ⟨_, q, _⟩ := st.tp; exact Heap.lt_size q
    have lt : i < its.toArray.size := by
      have := (List.getElem?_eq_some_iff.mp hu).1
      simpa using this
    have hh : X.A.in1.handled = none := I.ok.hd hc
    refine wpAny_pyNext_enum_itemD (Draws.tuple hh it a st.n2 its.toArray) he ⟨st.tp, p⟩ lt st.n1 (by simp [st.n1, Ne.symm st.n3]) fun y h' tk py ho st' hT hsz kp => ?_
    have ey : y = u := by
      have q : its.toArray[i]? = some y := py
      rw [List.getElem?_toArray, hu] at q
      exact  (Option.some.inj q).symm
    subst ey
    refine ⟨_, rfl, wpAny_letOwnedTupleGo_enum (s := { s with heap := h', toks := tk + 1 }) ho fun h'' he' sb => ?_⟩
    have hT2 : h''.get? s.heap.objs.size = some { cls := .type "tuple", data := .seq #[.int i tk, y] } := (sb.2 _ (Nat.ne_of_gt el)).trans hT
    have  new : ObjOk X.prog X.w (upd H s.heap.objs.size (.tup [.int (i : Nat), x])) h'' s.heap.objs.size (.tup [.int (i : Nat), x]) :=
      ⟨by show 2 ≤ sizeLine; decide, [.int i tk, y], .cons ⟨_, rfl⟩ (.cons ru .nil), ⟨_, hT2, rfl, _, rfl⟩⟩
    have I1 : Inv X pins σ (upd H s.heap.objs.size (.tup [.int (i : Nat), x])) { s with heap := h'', toks := tk + 1 } :=
      I.turnedNew (ch := [e, it]) (fun b ob hb q => (sb.2 b fun z => hb (by simp [z])).trans (kp b ob (fun z => hb (by simp [z])) (fun z => hb (by simp [z])) q)) own (Nat.le_refl _) new
    refine ⟨.ref s.heap.objs.size, _, I1, rfl, ⟨_, x, rfl, I.hok.fresh (Nat.le_refl _), rfl, fun ys hy => by rw [I.tuple_inj hy hq]; exact hx⟩, ⟨⟨y, ?_⟩, st'.1.at fun o q => (sb.2 it (Ne.symm st.n1)).trans q, st.n1, st.n2, st.n3⟩, fun b hb => ?_⟩
    · have z : ((i + 1 : Nat) : Int) = (i : Int) + 1 := by omega
      rw [z]
      exact he'
    · have lb : b < s.heap.objs.size := by
        rcases  List.mem_cons.mp hb with z | z
        · rw [z]; exact el
        · rw [List.mem_singleton.mp z]; exact il
      rw [upd_ne (Nat.ne_of_lt lb)]
      exact (own b hb).1
  done := by
    intro X e1 e2 e3 hc i pins s σ H E I own st gg
    subst e1 e2 e3
    obtain ⟨old, he⟩ := st.en
    obtain ⟨xs, hq, hx⟩ := gg
    obtain  ⟨its, rv, p, hz⟩ := I.tuple hq
    obtain ⟨f0, f1, f2, f3, f4, f5⟩ := own it (by simp)
    have hl := rv.length
    have hh : X.A.in1.handled = none := I.ok.hd hc
    unfold pyNext
    refine wpAny_bind (wpAny_attempt (wpAny_callSpecial?_slot (name := Str.ofString "__next__") ⟨_, he, rfl⟩ F.slot_enumerate_next
      (wpAny_call_entry F.slot_enumerate_next ⟨_, he, rfl⟩ F.entry_enumerate_next ?_ (F.args_enumerate_next_1 _))))
    show  wpAny _ _ (field (.ref e) 2 >>= _) _ _ _
    refine wpAny_bind (wpAny_field he rfl (x := .ref it) rfl (wpAny_bind (RZ.nextOf_tuple_end hh st.tp (show s.heap.IsTuple a its.toArray from p) (by simp; omega) fun h' x' he' hx' => ?_)))
    obtain ⟨o, ho, hc'⟩ := hx'
    refine wpAny_bind (wpAny_isInstance (T := "StopIteration") (b := true) ⟨o, ho, hc'⟩ isSubtype_stop ?_)
    exact wpAny_pure ⟨rfl, I.turned (t' := s.toks) (fun b o hb q => he' b o hb q) f0 f1 f3 f4 f5⟩
  self A i s Q E st h := let ⟨_, he⟩ := st.en; wpAny_pyIter_enum he h
def iEnumT (K : PySem.W.Frag) (ta : TA) : TI := fun σ H R => ta σ H fun vs H1 => ∃ a xs, vs = [.ref a] ∧ SqT K H1 a xs ∧ R (IteT K a) H1
theorem pi_enumT {X : Cx} {e : Expr} {ta : TA} {p pos tp : Pos} {es : List Expr} {k : Nat} (hg : Gl X "enumerate") (hm : X.mg "enumerate" = none) (ha : PA X [e] ta) (hs : starEach [e] X.env = [(false, eval e X.env)] := by rfl) :
    PI X (.Tuple es k tp) (.Call (.Name "enumerate" p) [e] [] pos) (iEnumT X.K ta) := by
  refine ⟨fun pins s σ H R I h => Call_ (ld_blt I hg hm boot_enumerate (PyProof.Rows.callWith_type1 (thn (ha.run pos pins s σ H _ I h) fun us s1 ⟨vs, H1, I1, r1, a, xs, ex, hq, q⟩ => ?_) hs rfl))⟩
  subst ex
  cases r1 with
  | cons r rr =>
    cases rr
    cases r
    obtain ⟨its, rv, p', hz⟩ := I1.tuple hq
    have la : a < s1.heap.objs.size := by obtain ⟨_, z, _⟩ := p'; exact Heap.lt_size z
    refine PySem.Md.enumCall (begins_tuple a its.toArray) p' fun h' he ho kp => wpAny_pyIter_enum he ?_
    have I2 : Inv X pins σ H1 { s1 with heap := h' } := I1.kept (t' := s1.toks) kp
    refine ⟨s1.heap.objs.size + 1, [s1.heap.objs.size + 1, s1.heap.objs.size], _, _, H1, rfl, I2, turnEt a (s1.heap.objs.size + 1) s1.heap.objs.size, ⟨⟨.none, he⟩, ⟨_, ho, rfl, rfl⟩, Nat.succ_ne_self _, Nat.ne_of_lt la, Nat.ne_of_lt (Nat.lt_succ_of_lt la)⟩, fun b hb => ?_, q⟩
    have le : s1.heap.objs.size ≤ b := by
      rcases  List.mem_cons.mp hb with z | z
      · rw  [z]; exact Nat.le_add_right _ _
      · rw [List.mem_singleton.mp z]; exact Nat.le_refl _
    exact I1.fpOk le (I1.hok.fresh le)
end Md
/-! Mv10 -/
namespace Mi
open L2 PySem PySem.Spec PyProof.Rows
/-! ### a, b = a list that stays -/
section
variable {X : Cx} {pos : Pos}
def gL (n : Nat) (gr : List T → Env → Option Env) (d : D) (env : Env) : Option Env := match d with
  | .t (.lst ts) => if ts.length = n then gr ts env else none
  | _ => none
theorem rg_lst {us : List Nat} {es : List Expr} {k n : Nat} {gr : List T → Env → Option Env} (hc : X.calm = true) (h : RGs X us es gr)
    (hn : (assignEach es X.env).length = n := by rfl) (hst : (assignEach es X.env).findIdx? (·.1) = none := by rfl) : RG X us (.Tuple es k pos) (gL n gr) := by
  refine PG.conv (pg_unl hc h hn hst) fun v σ H Q ⟨W, env, st, d, env', R, Ev, r, e, h⟩ => ?_
  unfold gL at e
  split at e
  · rename_i ts
    split at e
    · rename_i hl
      obtain ⟨a, vs, e1, _, q, rr⟩ := r
      exact ⟨a, vs, e1, SqL.of q, by rw [relTs_len rr]; exact hl, W, env, st, ts, env', R, Ev, rr, e, h⟩
    · cases e
  · cases e
end

/-! ### enumerate(t), a tuple -/
section
variable {X : Cx} {Wx : WX} {e : Expr} {f : Env → Sto → Res D} {p pos tpos : Pos}
def enTOf (f : Env → Sto → Res D) (env : Env) (st : Sto) : Res ItM := (f env st).bind fun d s => match d with
  | .t (.tup ts) => .ok (enIt d ts.length) s
  | _ => .bad
theorem JOk.enumT {K : PySem.W.Frag} {W : Wd} {H : Hp} {st : Sto} {ts : List T} {a : Addr} {n : Nat} (R : Rl K W st H) (r : RelD K W H (.t (.tup ts)) (.ref a)) : JOk K (Md.IteT K a) (enIt (.t (.tup ts)) n) W H := by
  intro W' H' st' i E' R'
  obtain ⟨a', vs, e1, s, rr⟩ := E'.relD R r
  cases e1
  have key : ∀ o, (enIt (.t (.tup ts)) n).nth st' i = some o → (o = none ∧ ts.length ≤ i) ∨ ∃ x, ts[i]? = some x ∧ o = some (.t (.tup [.int (i : Nat), x])) := fun o h => by
    have h : ((items st' (.t (.tup ts))).bind fun ds => match ds[i]? with
      | some (.t x) => some (some (D.t (.tup [.int (i : Nat), x])))
      | some _ => none
      | none => some none) = some o := h
    have q : items st' (.t (.tup ts)) = some (ts.map .t) := rfl
    rw [q] at h
    simp only [Option.bind_some, List.getElem?_map] at h
    cases q2 : ts[i]? with
    | none => rw [q2] at h; cases h; exact .inl ⟨rfl, List.getElem?_eq_none_iff.mp q2⟩
    | some x => rw [q2] at h; cases h; exact .inr ⟨x, rfl, rfl⟩
  refine ⟨fun h => ?_, fun dd h => ?_⟩
  · rcases key _ h with ⟨_, z⟩ | ⟨x, _, z⟩
    · exact ⟨vs, s.sq, by rw [relTs_len rr]; exact z⟩
    · cases z
  · rcases key _ h with ⟨z, _⟩ | ⟨x, q, z⟩
    · cases z
    · cases z
      obtain ⟨v, e3, rv⟩ := relTs_get rr q
      refine ⟨⟨vs, v, s.sq, e3⟩, fun u H2 hy => ?_⟩
      obtain ⟨t, w, rfl, ht, rfl, hw⟩ := hy
      have e4 : w = v := Option.some.inj ((hw vs s.sq).symm.trans e3)
      subst e4
      exact ⟨W', R'.more ht, R'.rest ht, t, _, rfl, .inl upd_same, V.int (i : Nat), [w], rfl, rfl, w, [], rfl, (R'.more ht).relT R' x w rv, rfl⟩
theorem ri_enumT {elts : List Expr} {kk : Nat} (hg : Gl X "enumerate") (hm : X.mg "enumerate" = none) (h : RE X Wx e f) (hs : starEach [e] X.env = [(false, eval e X.env)] := by rfl) : RI X Wx (.Tuple elts kk tpos) (.Call (.Name "enumerate" p) [e] [] pos) (enTOf f) := by
  refine PI.conv (Md.pi_enumT hg hm (ra_cons h ra_nil hs) hs) fun σ H Q ⟨W, env, st, R, Ev, h⟩ => ⟨W, env, st, R, Ev, ?_⟩
  show ((f env st).bind fun d st1 => (argsM [] env st1).bind fun ds st2 => .ok (d :: ds) st2).Holds _ _
  have key := split (A' := fun d s => (match d with
    | .t (.tup ts) => Res.ok (enIt d ts.length) s
    | _ => .bad).Holds (fun it s => ∀ W' H' J, Ext W H W' H' → Rl X.K W' s H' → JOk X.K J it W' H' → Q J H') (OkX X.K W H fun c o H' => Wx c o σ H')) h (fun d s h1 => h1) fun _ _ _ hx => hx
  cases q : f env st with
  | bad => rw [q] at key; exact key
  | exc C fs s => rw [q] at key; exact key
  | ok d s =>
    rw [q] at key
    intro W1 H1 vs E1 R1 r1
    obtain ⟨v, u, rfl, rv, ru⟩ := r1
    cases ru
    cases d with
    | t y =>
      cases y with
      | tup ts =>
        obtain ⟨a, ws, rfl, sq, rr⟩ := id rv
        exact ⟨a, ws, rfl, sq.sq, key W1 H1 _ E1 R1 (JOk.enumT R1 rv)⟩
      | _ => exact key.elim
    | _ => exact key.elim
end
/-! ### {k: v for .. for ..}: the new dict is the store's n-th from the first turn on -/
def dcS (n : Nat) (ga : D → Env → Option Env) (fk fe : Env → Sto → Res D) (it : ItM) (env0 : Env) : Nat → Nat → Sto → Option Sto
  | 0, i, st => match it.nth st i with
    | some none => some st
    | _ => none
  | m + 1, i, st => match it.nth st i with
    | some none => some st
    | some (some d) => match ga d env0 with
      | some env1 => match fk env1 st with
        | .ok y st2 => match fe env1 st2 with
          | .ok z st3 => match keyOf y, st3[n]? with
            | some k, some (.dk false kvs) => if kvs.length < LIM then dcS n ga fk fe it env0 m (i + 1) (st3.set n (.dk false (putG kvs k z))) else none
            | _, _ => none
          | _ => none
        | _ => none
      | none => none
    | none => none
def dcO (n : Nat) (us1 : List Nat) (ga : D → Env → Option Env) (fit1 : Env → Sto → Res ItM) (ga1 : D → Env → Option Env) (fk fe : Env → Sto → Res D) (it : ItM) (env0 : Env) : Nat → Nat → Sto → Option Sto
  | 0, i, st => match it.nth st i with
    | some none => some st
    | _ => none
  | m + 1, i, st => match it.nth st i with
    | some none => some st
    | some (some d) => match ga d env0 with
      | some env1 => match fit1 env1 st with
        | .ok it1 st1 => match dcS n ga1 fk fe it1 (wipeE env1 us1) it1.most 0 st1 with
          | some st2 => dcO n us1 ga fit1 ga1 fk fe it env0 m (i + 1) st2
          | none => none
        | _ => none
      | none => none
    | none => none
def dcN2 (us us1 : List Nat) (fit : Env → Sto → Res ItM) (ga : D → Env → Option Env) (fit1 : Env → Sto → Res ItM) (ga1 : D → Env → Option Env) (fk fe : Env → Sto → Res D) (env : Env) (st : Sto) : Res D := (fit env st).bind fun it s =>
  match dcO s.length us1 ga fit1 ga1 fk fe it (wipeE env us) it.most 0 (s ++ [.dk false []]) with
  | some s2 => .ok (.r s.length) s2
  | none => .bad
theorem dcS_run {K : PySem.W.Frag} {n : Nat} {us : List Nat} {ga : D → Env → Option Env} {fk fe : Env → Sto → Res D} {σ : L2.St} {W1 : Wd} {H1 : Hp} {J : It} {it : ItM} {env : Env} {s s' : Sto} {L : Addr} {Nx : Hp → Prop} (hn : W1.ρ[n]? = some L)
    (R1 : Rl K W1 s H1) (Ev : EnvR K W1 H1 env σ) (j : JOk K J it W1 H1) (hr : dcS n ga fk fe it (wipeE env us) it.most 0 s = some s') (fin : ∀ W H, Ext W1 H1 W H → Rl K W s' H → Nx H) :
    Md.tIn J L (tG K us ga) (tE K W0 fk) (tE K W0 fe) us σ H1 Nx := by
  refine ⟨fun i m H => ∃ W st, Ext W1 H1 W H ∧ Rl K W st H ∧ dcS n ga fk fe it (wipeE env us) m i st = some s', ⟨it.most, W1, s, .refl, R1, hr⟩, ?_⟩
  rintro i m H ⟨W, st, E, R, h⟩
  obtain ⟨j1, j2⟩ := j W H st i E R
  cases q : it.nth st i with
  | none => cases m <;> (unfold dcS at h; rw [q] at h; cases h)
  | some od =>
    cases od with
    | none =>
      have stop : dcS n ga fk fe it (wipeE env us) m i st = some st := by cases m <;> (unfold dcS; rw [q])
      rw [stop] at h
      cases h
      exact .inl ⟨j1 q, fin W H E R⟩
    | some d =>
      cases m with
      | zero => unfold dcS at h; rw [q] at h; cases h
      | succ m =>
        obtain ⟨jg, jy⟩ := j2 d q
        refine .inr ⟨jg, fun H' => ∃ W st, Ext W1 H1 W H' ∧ Rl K W st H' ∧ dcS n ga fk fe it (wipeE env us) m (i + 1) st = some s', fun H' h => ⟨m, Nat.lt_succ_self m, h⟩, fun x H3 hy => ?_⟩
        obtain ⟨W3, E3, R3, r3⟩ := jy x H3 hy
        unfold dcS at h
        simp only [q] at h
        cases q2 : ga d (wipeE env us) with
        | none => rw [q2] at h; cases h
        | some env1 =>
          simp only [q2] at h
          refine ⟨W3, wipeE env us, st, d, env1, R3, (Ev.mono (E.trans E3) R1).wipe us, r3, q2, fun σ3 Ev3 ag => ⟨ag.wipe, W3, env1, st, R3, Ev3, ?_⟩⟩
          cases q4 : fk env1 st with
          | bad => simp only [q4] at h; cases h
          | exc C x y => simp only [q4] at h; cases h
          | ok y st2 =>
            simp only [q4] at h
            intro W5 H5 yv E5 R5 r5
            refine ⟨W5, env1, st2, R5, Ev3.mono E5 R3, ?_⟩
            cases q5 : fe env1 st2 with
            | bad => simp only [q5] at h; cases h
            | exc C x y => simp only [q5] at h; cases h
            | ok z st3 =>
              simp only [q5] at h
              intro W6 H6 zv E6 R6 r6
              have E06 := E.trans (E3.trans (E5.trans E6))
              split at h
              · rename_i k kvs q6 q7
                split at h
                · rename_i hl
                  obtain ⟨a, ea, e1⟩ := E06.relD R1 (d := .r n) ⟨L, hn, rfl⟩
                  cases e1
                  obtain ⟨vs, p1, p2⟩ := R6.live n L _ ea q7
                  rw [if_neg (by decide)] at p1
                  have E7 : Ext W6 H6 W6 (upd H6 L (.dK (putK vs k zv))) := Ext.put ea p1
                  have R7 := R6.putO (so := .dk false (putG kvs k z)) ea p1 ⟨_, by rw [if_neg (by decide)]; exact upd_same, relKs_put (E7.relD R6 r6) ((E7.kt R6).relKs (List.prefix_refl _) p2)⟩
                  exact ⟨vs, k, keyOf_rel q6 r5, p1, by rw [relKs_len p2]; exact lim_lt (Nat.le_of_lt hl), W6, _, E06.trans E7, R7, h⟩
                · cases h
              · cases h
theorem dcO_run {K : PySem.W.Frag} {us us1 : List Nat} {ga ga1 : D → Env → Option Env} {fit1 : Env → Sto → Res ItM} {fk fe : Env → Sto → Res D} {σ : L2.St} {W1 : Wd} {H1 : Hp} {J : It} {it : ItM} {env : Env} {s s' : Sto} {Q : VK}
    (R1 : Rl K W1 s H1) (Ev : EnvR K W1 H1 env σ) (j : JOk K J it W1 H1) (hr : dcO s.length us1 ga fit1 ga1 fk fe it (wipeE env us) it.most 0 (s ++ [.dk false []]) = some s') (fin : ∀ L W H, Ext W1 H1 W H → Rl K W s' H → W.ρ[s.length]? = some L → Q (.ref L) H) :
    ∀ L, H1 L = none → ∃ Wn : Nat → Nat → Hp → Prop, (∃ m, Wn 0 m (upd H1 L (.dK []))) ∧ ∀ i m H, Wn i m H → (J.stop i H ∧ Q (.ref L) H) ∨ (J.go i H ∧ ∃ Nx : Hp → Prop, (∀ H', Nx H' → ∃ m', m' < m ∧ Wn (i + 1) m' H') ∧
      ∀ x H', J.yld i H x H' → tG K us ga x (wipe σ us) H' fun σ2 H2 => wipe σ2 us = wipe σ us ∧ tI K W0 fit1 σ2 H2 fun J1 H3 => Md.tIn J1 L (tG K us1 ga1) (tE K W0 fk) (tE K W0 fe) us1 σ2 H3 Nx) := by
  intro L hL
  have E2 : Ext W1 H1 (W1.add L) (upd H1 L (.dK [])) := Ext.add W1 hL
  have R2 : Rl K (W1.add L) (s ++ [.dk false []]) (upd H1 L (.dK [])) := R1.addO hL ⟨[], by rw [if_neg (by decide)]; exact upd_same, rfl⟩
  have last : (W1.add L).ρ[s.length]? = some L := by show (W1.ρ ++ [L])[s.length]? = some L; rw [← R1.len, List.getElem?_append_right (Nat.le_refl _), Nat.sub_self]; rfl
  refine ⟨fun i m H => ∃ W st, Ext (W1.add L) (upd H1 L (.dK [])) W H ∧ Rl K W st H ∧ dcO s.length us1 ga fit1 ga1 fk fe it (wipeE env us) m i st = some s', ⟨it.most, W1.add L, _, .refl, R2, hr⟩, ?_⟩
  rintro i m H ⟨W, st, E, R, h⟩
  have stay : ∀ {W' H'}, Ext (W1.add L) (upd H1 L (.dK [])) W' H' → W'.ρ[s.length]? = some L := fun E' => by
    obtain ⟨a, ea, e1⟩ := E'.relD R2 (d := .r s.length) ⟨L, last, rfl⟩
    cases e1
    exact ea
  obtain ⟨j1, j2⟩ := j W H st i (E2.trans E) R
  cases q : it.nth st i with
  | none => cases m <;> (unfold dcO at h; rw [q] at h; cases h)
  | some od =>
    cases od with
    | none =>
      have stop : dcO s.length us1 ga fit1 ga1 fk fe it (wipeE env us) m i st = some st := by cases m <;> (unfold dcO; rw [q])
      rw [stop] at h
      cases h
      exact .inl ⟨j1 q, fin L W H (E2.trans E) R (stay E)⟩
    | some d =>
      cases m with
      | zero => unfold dcO at h; rw [q] at h; cases h
      | succ m =>
        obtain ⟨jg, jy⟩ := j2 d q
        refine .inr ⟨jg, fun H' => ∃ W st, Ext (W1.add L) (upd H1 L (.dK [])) W H' ∧ Rl K W st H' ∧ dcO s.length us1 ga fit1 ga1 fk fe it (wipeE env us) m (i + 1) st = some s', fun H' h => ⟨m, Nat.lt_succ_self m, h⟩, fun x H3 hy => ?_⟩
        obtain ⟨W3, E3, R3, r3⟩ := jy x H3 hy
        unfold dcO at h
        simp only [q] at h
        cases q2 : ga d (wipeE env us) with
        | none => rw [q2] at h; cases h
        | some env1 =>
          simp only [q2] at h
          refine ⟨W3, wipeE env us, st, d, env1, R3, (Ev.mono (E2.trans (E.trans E3)) R1).wipe us, r3, q2, fun σ3 Ev3 ag => ⟨ag.wipe, W3, env1, st, R3, Ev3, ?_⟩⟩
          cases q4 : fit1 env1 st with
          | bad => simp only [q4] at h; cases h
          | exc C x y => simp only [q4] at h; cases h
          | ok it1 st1 =>
            simp only [q4] at h
            intro W4 H4 J1 E4 R4 jo
            cases q5 : dcS s.length ga1 fk fe it1 (wipeE env1 us1) it1.most 0 st1 with
            | none => rw [q5] at h; cases h
            | some st2 =>
              rw [q5] at h
              exact dcS_run (stay (E.trans (E3.trans E4))) R4 (Ev3.mono E4 R3) jo q5 fun W5 H5 E5 R5 => ⟨W5, st2, E.trans (E3.trans (E4.trans E5)), R5, h⟩
section
variable {X : Cx} {Wx : WX} {kx vx tg iter tg1 iter1 : Expr} {scope : Scope} {own : List (Str × Nat)} {vs1 : List Nat} {pos : Pos} {ga ga1 : D → Env → Option Env} {fk fe : Env → Sto → Res D} {fit fit1 : Env → Sto → Res ItM}
theorem re_dc2 (hc : X.calm = true) (hN : X.N.Nodup) (hi : RI X Wx tg iter fit) (ok : BlkOk X.N X.env.scope scope own) (hv : ∀ i ∈ vs1, i ∈ own.map (·.2))
    (hg : ∀ (s : Shared) (H : Hp) (C : Addr) (cl : List (Str × Addr)) (fp : List Addr), RG (X.blk s H scope (compEnvC scope cl C X.env) fp) (own.map (·.2)) tg ga)
    (hi1 : ∀ (s : Shared) (H : Hp) (C : Addr) (cl : List (Str × Addr)) (fp : List Addr), RI (X.blk s H scope (compEnvC scope cl C X.env) fp) W0 tg1 iter1 fit1)
    (hg1 : ∀ (s : Shared) (H : Hp) (C : Addr) (cl : List (Str × Addr)) (fp : List Addr), RG (X.blk s H scope (compEnvC scope cl C X.env) fp) vs1 tg1 ga1)
    (hk : ∀ (s : Shared) (H : Hp) (C : Addr) (cl : List (Str × Addr)) (fp : List Addr), RE (X.blk s H scope (compEnvC scope cl C X.env) fp) W0 kx fk)
    (he : ∀ (s : Shared) (H : Hp) (C : Addr) (cl : List (Str × Addr)) (fp : List Addr), RE (X.blk s H scope (compEnvC scope cl C X.env) fp) W0 vx fe) (hs : ∀ x, foldedSetIterable iter X.env x = pure x := by intro _; rfl) (hs1 : ∀ env x, foldedSetIterable iter1 env x = pure x := by intro _ _; rfl) :
    RE X Wx (.DictComp kx vx [⟨tg, iter, [], 0⟩, ⟨tg1, iter1, [], 0⟩] scope pos) (dcN2 (own.map (·.2)) vs1 fit ga fit1 ga1 fk fe) := by
  refine PE.conv (Md.pe_two (g := tG X.K (own.map (·.2)) ga) (wi1 := tI X.K W0 fit1) (g1 := tG X.K vs1 ga1) (tk := tE X.K W0 fk) (tv := tE X.K W0 fe) hc hN hi ok hv hg hi1 hg1 hk he hs hs1) fun σ H Q ⟨W, env, st, R, Ev, h⟩ => ⟨W, env, st, R, Ev, split h (fun it s h1 W1 H1 J E1 R1 j => ?_) fun C fs st' hx => hx⟩
  split at h1
  · rename_i s2 hr
    refine dcO_run R1 (Ev.mono E1 R) j hr fun L W2 H2 E2 R2 at_ => ?_
    exact h1 W2 H2 _ (E1.trans E2) R2 ⟨L, at_, rfl⟩
  · exact h1.elim
end
end Mi
/-! Mv11 -/
namespace Mi
open L2 PySem PySem.Spec PyProof.Rows
/-! ### x in a list of data of any depth -/
section
variable {X : Cx}
def deepIn (d e : D) (st : Sto) : Option Bool := (pyD st d).bind fun p => (pyD st e).bind fun q => match q with
  | .list ds => if (SeqAt.shaped p && SeqAt.shaped (.list ds)) = true then some (ds.any fun z => PyData.eqv z p) else none
  | _ => none
def inG (d e : D) (st : Sto) : Option Bool := match inB d e st with
  | some b => some b
  | none => deepIn d e st
def inDM (d e : D) (st : Sto) : Option D := (inG d e st).map bD
theorem o_inDM (hu : X.A.units + 65 < cLine) : OpR X (compareOp .In) (rM X.K inDM) := by
  have ho : OpR X (compareOp .In) _ := OpR.or (OpR.or op_in_str op_in_seq) (op_inD hu)
  refine op_of ho fun W st d e x y H Q z R r1 r2 h q => ?_
  unfold inDM inG at h
  cases e1 : inB d e st with
  | some b =>
    rw [e1] at h
    cases h
    rcases inB_rel R e1 r1 r2 with ⟨p, k, rfl, rfl, h2⟩ | ⟨p, xs, rfl, h1, h2, h3, h4⟩
    · exact .inl (.inl ⟨p, k, rfl, rfl, by rw [h2]; exact q W H _ .refl R rfl⟩)
    · exact .inl (.inr ⟨p, xs, rfl, h1, h2, h3, by rw [h4]; exact q W H _ .refl R rfl⟩)
  | none =>
    rw [e1] at h
    cases e2 : deepIn d e st with
    | none => simp only [e2] at h; cases h
    | some b =>
      simp only [e2] at h
      cases h
      unfold deepIn at e2
      cases e3 : pyD st d with
      | none => rw [e3] at e2; cases e2
      | some p =>
        cases e4 : pyD st e with
        | none => rw [e3, e4] at e2; cases e2
        | some l =>
          rw [e3, e4] at e2
          cases l with
          | list ds =>
            have e2 : (if (SeqAt.shaped p && SeqAt.shaped (.list ds)) = true then some (ds.any fun z => PyData.eqv z p) else none) = some b := e2
            split at e2
            · rename_i c
              rw [Bool.and_eq_true] at c
              exact .inr ⟨p, ds, dpD_of R e3 r1, dpD_of R e4 r2, c.1, c.2, by rw [Option.some.inj e2]; exact q W H _ .refl R rfl⟩
            · cases e2
          | _ => cases e2
end
end Mi
/-! Mv12 -/
namespace Mi
open L2 PySem PySem.Spec PyProof.Rows
theorem csl_nil {P : Addr → Prop} : ∀ C, csL [] C = true → P C := fun C h => by cases h
theorem csl_cons {P : Addr → Prop} {a : Addr} {l : List Addr} (h : P a) (r : ∀ C, csL l C = true → P C) : ∀ C, csL (a :: l) C = true → P C := fun C e => by
  have e : (decide (C = a) || csL l C) = true := e
  rcases Bool.or_eq_true _ _ |>.mp e with e | e
  · rw [of_decide_eq_true e]; exact h
  · exact r C e
end Mi
/-! Mv13 -/
namespace Mi
open L2 PySem PySem.Spec PyProof.Rows
/-! ### list(x): a list that will be changed -/
section
variable {X : Cx} {Wx : WX} {e : Expr} {es : List Expr} {f : Env → Sto → Res D} {p pos : Pos}
def newLM (fs : List (Env → Sto → Res D)) (env : Env) (st : Sto) : Res D := (argsM fs env st).bind fun ds st1 => match ds with
  | [d] => match items st1 d with
    | some is => .ok (.r st1.length) (st1 ++ [.lst is])
    | none => .bad
  | _ => .bad
theorem re_newL {x : Str} {fs : List (Env → Sto → Res D)} (hg : Gl X x) (hm : X.mg x = none) (hv : bootBuiltins x = some (.type "list")) (ha : RA X Wx (e :: es) (argsM fs)) (hn : x ≠ "__name__" := by decide) (hdb : (x == ("__debug__" : Str)) = false := by decide)
    (he : starEach (e :: es) X.env = (false, eval e X.env) :: starEach es X.env := by rfl) (hpl : (backTo pos (starEach es X.env)).any (·.1) = false := by rfl) : RE X Wx (.Call (.Name x p) (e :: es) [] pos) (newLM fs) := by
  refine PE.conv (pe_callTy call_list_of hg hm hv ha hn hdb he hpl) fun σ H Q ⟨W, env, st, R, Ev, h⟩ => ⟨W, env, st, R, Ev, split h (fun ds st1 h1 W1 H1 vs E1 R1 r1 => ?_) fun C fs st' hx => hx⟩
  split at h1
  · rename_i d
    obtain ⟨v, ev, r2⟩ := rel1 r1
    subst ev
    cases e1 : items st1 d with
    | none => rw [e1] at h1; exact h1.elim
    | some is =>
      rw [e1] at h1
      obtain ⟨a, vs, rfl, sq, rr⟩ := items_seq R1 e1 r2
      exact ⟨a, vs, rfl, sq, fun p hp => h1 (W1.add p) _ _ (E1.trans (Ext.add W1 hp)) (R1.add hp rr) ⟨p, by
        show (W1.ρ ++ [p])[st1.length]? = some p
        rw [← R1.len, List.getElem?_append_right (Nat.le_refl _), Nat.sub_self]; rfl, rfl⟩⟩
  · exact h1.elim
end
end Mi
/-! Zm -/
/-! zip of two walked things, each a list or a tuple; zip(list, tuple) in a loop -/
namespace Md
open L2 PySem PySem.Spec PyProof.Rows RZ
/-- an iterator of a list (false) or of a tuple (true) -/
def It2 (k : Bool) (h : Heap) (j l : Addr) (i : Nat) : Prop := match k with
  | false => h.IsListIter j l i
  | true => h.IsTupleIter j l i
def Sq2 (k : Bool) (h : Heap) (l : Addr) (xs : Array Value) : Prop := match k with
  | false => h.IsList l xs
  | true => h.IsTuple l xs
theorem It2.ext {k : Bool} {h h' : Heap} {j b l : Addr} {i : Nat} (x : It2 k h j l i) (e : Heap.ExtBut b h h') (n : j ≠ b) : It2 k h' j l i := by
  cases k
  · exact Heap.IsListIter.extBut x e n
  · exact Heap.IsTupleIter.extBut x e n
theorem Sq2.ext {k : Bool} {h h' : Heap} {b l : Addr} {xs : Array Value} (x : Sq2 k h l xs) (e : Heap.ExtBut b h h') (n : l ≠ b) : Sq2 k h' l xs := by
  cases k
  · exact Heap.IsList.extBut x e n
  · exact Heap.IsTuple.extBut x e n
theorem It2.stay {k : Bool} {h h' : Heap} {j l : Addr} {i : Nat} (x : It2 k h j l i) (e : ∀ o, h.get? j = some o → h'.get? j = some o) : It2 k h' j l i := by
  cases k
  · exact Heap.IsListIter.at x e
  · exact Heap.IsTupleIter.at x e
theorem It2.obj {k : Bool} {h : Heap} {j l : Addr} {i : Nat} (x : It2 k h j l i) : ∃ o, h.get? j = some o ∧ ∀ v, o.data ≠ .cell v := by
  cases k
  · obtain ⟨o, e, _, d⟩ := x
    exact ⟨o, e, fun v q => by rw [d] at q; cases q⟩
  · obtain ⟨o, e, _, d⟩ := x
    exact ⟨o, e, fun v q => by rw [d] at q; cases q⟩
section
variable {P : Program} {w : World} {A : Around} {E : Value → Shared → Prop} {s : Shared} {k k2 : Bool} {z TI TO j1 j2 l1 l2 : Addr} {n m : Nat} {xs ys : Array Value} {x y a b : Value}
theorem next2 {j l : Addr} {Q : Value → Shared → Prop} (c : It2 k s.heap j l n) (d : Sq2 k s.heap l xs) (hx : xs[n]? = some x) (hQ : ∀ h', It2 k h' j l (n + 1) → Heap.SameBut j s.heap h' → Q x { s with heap := h' }) :
    wpAny (model P w) A (Builtin.SmallTypes.nextOf (.ref j)) Q E s := by
  cases k
  · exact wpAny_nextOf_list_item c d hx hQ
  · exact nextOf_tuple_item c d hx hQ
theorem stop2 {j l : Addr} {Q : Value → Shared → Prop} (hh : A.handled = none) (c : It2 k s.heap j l n) (d : Sq2 k s.heap l xs) (hx : xs[n]? = none)
    (hE : ∀ h' e, Heap.ExtBut j s.heap h' → (∃ o, h'.get? e = some o ∧ o.cls = .type "StopIteration") → E (.ref e) { s with heap := h' }) : wpAny (model P w) A (Builtin.SmallTypes.nextOf (.ref j)) Q E s := by
  cases k
  · exact wpAny_nextOf_list_end hh c d hx hE
  · exact nextOf_tuple_end hh c d hx hE
/-- what stays: all but the zip, its pair and its two iterators -/
abbrev Rest (h h' : Heap) (z TO j1 j2 : Addr) : Prop := ∀ c o, c ≠ z → c ≠ TO → c ≠ j1 → c ≠ j2 → h.get? c = some o → h'.get? c = some o
theorem zip2_item {Q : Value → Shared → Prop} (D : ZipApart z TI TO j1 j2 l1 l2) (q0 : IsZip s.heap z TI TO .none) (q1 : IsPair s.heap TI (.ref j1) (.ref j2)) (q2 : IsPair s.heap TO a b) (c1 : It2 k s.heap j1 l1 n) (c2 : It2 k2 s.heap j2 l2 m)
    (d1 : Sq2 k s.heap l1 xs) (d2 : Sq2 k2 s.heap l2 ys) (hx : xs[n]? = some x) (hy : ys[m]? = some y)
    (hQ : ∀ h', IsZip h' z TI TO (rawInt s.heap.objs.size) → IsPair h' TO x y → It2 k h' j1 l1 (n + 1) → It2 k2 h' j2 l2 (m + 1) → IsPair h' s.heap.objs.size x y → Rest s.heap h' z TO j1 j2 → Q (.ref s.heap.objs.size) { s with heap := h' }) :
    wpAny (model P w) A (Builtin.«zip.__next__» ⟨[.ref z], []⟩) (fun r s' => ∃ v, r = .done (.ret v) ∧ Q v s') E s := by
  (show wpAny _ _ (field (.ref z) 2 >>= _) _ _ _)
  (refine wpAny_bind (wpAny_field q0 rfl (x := .bool false) rfl ?_))
  (show wpAny _ _ (field (.ref z) 3 >>= _) _ _ _)
  (refine wpAny_bind (wpAny_field q0 rfl (x := .ref TI) rfl (wpAny_bind (wpAny_seqItems q1 rfl ?_))))
  (show wpAny _ _ (Builtin.SmallTypes.ownedTupleIsFree (.ref z) >>= _) _ _ _)
  (refine wpAny_bind ?_)
  (unfold Builtin.SmallTypes.ownedTupleIsFree)
  (refine wpAny_bind (wpAny_field q0 rfl (x := .none) rfl (wpAny_pure ?_)))
  (simp only [if_true])
  (refine wpAny_bind (wpAny_rule (wpAny_bind (wpAny_field q0 rfl (x := .ref TO) rfl (wpAny_bind (wpAny_setField_rec q0 (by simp) fun g1 q01 b1 => ?_))))))
  replace q01 : IsZip g1 z TI TO .ellipsis := q01
  have e1 := b1.extBut
  (refine wpAny_bind ?_)
  (simp only [List.zipIdx_cons, List.zipIdx_nil, List.forIn_cons, List.forIn_nil])
  (refine wpAny_bind (wpAny_bind (wpAny_onRaise ?_)))
  (show wpAny _ _ (Builtin.SmallTypes.nextOf (.ref j1) >>= _) _ _ _)
  (refine wpAny_bind (next2 (c1.ext e1 D.i1z) (d1.ext e1 D.l1z) hx fun g2 c12 b2 => wpAny_pure ?_))
  have e2 := b2.extBut
  have q22 : IsPair g2 TO a b := e2 _ _ D.TOi1 (e1 _ _ D.TOz q2)
  (refine wpAny_bind (wpAny_seqItems q22 rfl (wpAny_bind (wpAny_updateSeq_pair q22 fun g3 q23 b3 => ?_))))
  replace q23 : IsPair g3 TO x b := q23
  have e3 := b3.extBut
  (refine wpAny_bind (wpAny_letGo (wpAny_pure (wpAny_bind (wpAny_bind (wpAny_onRaise ?_))))))
  (show wpAny _ _ (Builtin.SmallTypes.nextOf (.ref j2) >>= _) _ _ _)
  (refine wpAny_bind (next2 (((c2.ext e1 D.i2z).ext e2 D.i12.symm).ext e3 D.TOi2.symm) (((d2.ext e1 D.l2z).ext e2 D.l2i1).ext e3 D.l2TO) hy fun g4 c24 b4 => wpAny_pure ?_))
  have e4 := b4.extBut
  have q24 : IsPair g4 TO x b := e4 _ _ D.TOi2 q23
  (refine wpAny_bind (wpAny_seqItems q24 rfl (wpAny_bind (wpAny_updateSeq_pair q24 fun g5 q25 b5 => ?_))))
  replace q25 : IsPair g5 TO x y := q25
  have e5 := b5.extBut
  (refine wpAny_bind (wpAny_letGo (wpAny_pure (wpAny_pure (wpAny_bind (wpAny_seqItems q25 rfl (wpAny_bind (wpAny_newTuple ?_))))))))
  have sz : g5.objs.size = s.heap.objs.size := by rw [b5.1, b4.1, b3.1, b2.1, b1.1]
  have q05 : IsZip g5 z TI TO .ellipsis := e5 _ _ D.TOz.symm (e4 _ _ D.i2z.symm (e3 _ _ D.TOz.symm (e2 _ _ D.i1z.symm q01)))
  have r5 : Rest s.heap g5 z TO j1 j2 := fun c o n1 n2 n3 n4 e => e5 _ _ n2 (e4 _ _ n4 (e3 _ _ n2 (e2 _ _ n3 (e1 _ _ n1 e))))
  have c15 : It2 k g5 j1 l1 (n + 1) := ((c12.ext e3 D.TOi1.symm).ext e4 D.i12).ext e5 D.TOi1.symm
  have c25 : It2 k2 g5 j2 l2 (m + 1) := c24.ext e5 D.TOi2.symm
  have zl : z < g5.objs.size := Heap.lt_size q05
  (show wpAny _ _ (Builtin.SmallTypes.ownedTupleHandOut (.ref z) (.ref g5.objs.size) >>= _) _ _ _)
  (refine wpAny_bind ?_)
  (unfold Builtin.SmallTypes.ownedTupleHandOut)
  have q06 : IsZip (g5.push { cls := .type "tuple", data := .seq #[x, y] }) z TI TO .ellipsis := Heap.get?_push_of_some _ q05
  (refine wpAny_bind (wpAny_setField_rec q06 (by simp) fun g7 q07 b7 => ?_))
  replace q07 : IsZip g7 z TI TO (rawInt g5.objs.size) := q07
  (refine wpAny_setField_rec q07 (by simp) fun g8 q08 b8 => ?_)
  replace q08 : IsZip g8 z TI TO (rawInt g5.objs.size) := q08
  have up : ∀ c o, c ≠ z → g5.get? c = some o → g8.get? c = some o := fun c o n1 e => b8.extBut _ _ n1 (b7.extBut _ _ n1 (Heap.get?_push_of_some _ e))
  have t8 : IsPair g8 g5.objs.size x y := b8.extBut _ _ (Nat.ne_of_gt zl) (b7.extBut _ _ (Nat.ne_of_gt zl) (Heap.get?_push_size _ rfl))
  rw [sz] at q08 t8
  (refine wpAny_pure ⟨_, rfl, ?_⟩)
  show Q (.ref g5.objs.size) _
  rw [sz]
  exact hQ g8 q08 (up _ _ D.TOz q25) (c15.stay fun o e => up _ o D.i1z e) (c25.stay fun o e => up _ o D.i2z e) t8 fun c o n1 n2 n3 n4 e => up c o n1 (r5 c o n1 n2 n3 n4 e)
theorem zip2_stop {Q : Fin → Shared → Prop} (hh : A.handled = none) (D : ZipApart z TI TO j1 j2 l1 l2) (q0 : IsZip s.heap z TI TO .none) (q1 : IsPair s.heap TI (.ref j1) (.ref j2)) (q2 : IsPair s.heap TO a b) (c1 : It2 k s.heap j1 l1 n) (c2 : It2 k2 s.heap j2 l2 m)
    (d1 : Sq2 k s.heap l1 xs) (d2 : Sq2 k2 s.heap l2 ys) (he : xs[n]? = none ∨ ys[m]? = none) (hE : ∀ h' e, Rest s.heap h' z TO j1 j2 → (∃ o, h'.get? e = some o ∧ o.cls = .type "StopIteration") → E (.ref e) { s with heap := h' }) :
    wpAny (model P w) A (Builtin.«zip.__next__» ⟨[.ref z], []⟩) Q E s := by
  (show wpAny _ _ (field (.ref z) 2 >>= _) _ _ _)
  (refine wpAny_bind (wpAny_field q0 rfl (x := .bool false) rfl ?_))
  (show wpAny _ _ (field (.ref z) 3 >>= _) _ _ _)
  (refine wpAny_bind (wpAny_field q0 rfl (x := .ref TI) rfl (wpAny_bind (wpAny_seqItems q1 rfl ?_))))
  (show wpAny _ _ (Builtin.SmallTypes.ownedTupleIsFree (.ref z) >>= _) _ _ _)
  (refine wpAny_bind ?_)
  (unfold Builtin.SmallTypes.ownedTupleIsFree)
  (refine wpAny_bind (wpAny_field q0 rfl (x := .none) rfl (wpAny_pure ?_)))
  (simp only [if_true])
  (refine wpAny_bind (wpAny_rule (wpAny_bind (wpAny_field q0 rfl (x := .ref TO) rfl (wpAny_bind (wpAny_setField_rec q0 (by simp) fun g1 q01 b1 => ?_))))))
  replace q01 : IsZip g1 z TI TO .ellipsis := q01
  have e1 := b1.extBut
  (refine wpAny_bind ?_)
  (simp only [List.zipIdx_cons, List.zipIdx_nil, List.forIn_cons, List.forIn_nil])
  (refine wpAny_bind (wpAny_bind (wpAny_onRaise ?_)))
  (show wpAny _ _ (Builtin.SmallTypes.nextOf (.ref j1) >>= _) _ _ _)
  have out : ∀ (g : Heap) (e : Addr), IsZip g z TI TO .ellipsis → Rest s.heap g z TO j1 j2 → (∃ o, g.get? e = some o ∧ o.cls = .type "StopIteration") → wpAny (model P w) A (setField (.ref z) 0 .none) (fun _ s' => E (.ref e) s') E { s with heap := g } := by
    intro g e qg rg ⟨o, ho, hc⟩
    have ez : e ≠ z := fun h => by subst h; rw [qg] at ho; cases ho; simp at hc
    exact wpAny_setField_rec qg (by simp) fun g' _ b' => hE g' e (fun c o n1 n2 n3 n4 x => b'.extBut _ _ n1 (rg c o n1 n2 n3 n4 x)) ⟨o, b'.extBut _ _ ez ho, hc⟩
  cases hx : xs[n]? with
  | none =>
    (refine wpAny_bind (stop2 hh (c1.ext e1 D.i1z) (d1.ext e1 D.l1z) hx fun g2 e e2 h => ?_))
    exact out g2 e (e2 _ _ D.i1z.symm q01) (fun c o n1 _ n3 _ x => e2 _ _ n3 (e1 _ _ n1 x)) h
  | some x =>
    have hy : ys[m]? = none := by
      rcases he with h | h
      · (rw [hx] at h; cases h)
      · exact h
    (refine wpAny_bind (next2 (c1.ext e1 D.i1z) (d1.ext e1 D.l1z) hx fun g2 c12 b2 => wpAny_pure ?_))
    have e2 := b2.extBut
    have q22 : IsPair g2 TO a b := e2 _ _ D.TOi1 (e1 _ _ D.TOz q2)
    (refine wpAny_bind (wpAny_seqItems q22 rfl (wpAny_bind (wpAny_updateSeq_pair q22 fun g3 q23 b3 => ?_))))
    have e3 := b3.extBut
    (refine wpAny_bind (wpAny_letGo (wpAny_pure (wpAny_bind (wpAny_bind (wpAny_onRaise ?_))))))
    (show wpAny _ _ (Builtin.SmallTypes.nextOf (.ref j2) >>= _) _ _ _)
    (refine wpAny_bind (stop2 hh (((c2.ext e1 D.i2z).ext e2 D.i12.symm).ext e3 D.TOi2.symm) (((d2.ext e1 D.l2z).ext e2 D.l2i1).ext e3 D.l2TO) hy fun g4 e e4 h => ?_))
    exact out g4 e (e4 _ _ D.i2z.symm (e3 _ _ D.TOz.symm (e2 _ _ D.i1z.symm q01))) (fun c o n1 n2 n3 n4 x => e4 _ _ n4 (e3 _ _ n2 (e2 _ _ n3 (e1 _ _ n1 x)))) h
theorem pyNext2_item {Q : Option Value → Shared → Prop} (D : ZipApart z TI TO j1 j2 l1 l2) (q0 : IsZip s.heap z TI TO .none) (q1 : IsPair s.heap TI (.ref j1) (.ref j2)) (q2 : IsPair s.heap TO a b) (c1 : It2 k s.heap j1 l1 n) (c2 : It2 k2 s.heap j2 l2 m)
    (d1 : Sq2 k s.heap l1 xs) (d2 : Sq2 k2 s.heap l2 ys) (hx : xs[n]? = some x) (hy : ys[m]? = some y)
    (hQ : ∀ h', IsZip h' z TI TO (rawInt s.heap.objs.size) → IsPair h' TO x y → It2 k h' j1 l1 (n + 1) → It2 k2 h' j2 l2 (m + 1) → IsPair h' s.heap.objs.size x y → Rest s.heap h' z TO j1 j2 → Q (some (.ref s.heap.objs.size)) { s with heap := h' }) :
    wpAny (model P w) A (pyNext (.ref z)) Q E s := by
  have t : s.TypeIs (.ref z) "zip" := ⟨_, q0, rfl⟩
  unfold pyNext
  exact wpAny_bind (wpAny_attempt (wpAny_callSpecial?_slot (name := Str.ofString "__next__") t F.slot_zip_next (wpAny_call_entry F.slot_zip_next t F.entry_zip_next
    (zip2_item D q0 q1 q2 c1 c2 d1 d2 hx hy fun h' a1 a2 a3 a4 a5 a6 => wpAny_pure (hQ h' a1 a2 a3 a4 a5 a6)) (F.args_zip_next_1 _))))
theorem pyNext2_stop {Q : Option Value → Shared → Prop} (hh : A.handled = none) (D : ZipApart z TI TO j1 j2 l1 l2) (q0 : IsZip s.heap z TI TO .none) (q1 : IsPair s.heap TI (.ref j1) (.ref j2)) (q2 : IsPair s.heap TO a b) (c1 : It2 k s.heap j1 l1 n) (c2 : It2 k2 s.heap j2 l2 m)
    (d1 : Sq2 k s.heap l1 xs) (d2 : Sq2 k2 s.heap l2 ys) (he : xs[n]? = none ∨ ys[m]? = none) (hQ : ∀ h', Rest s.heap h' z TO j1 j2 → Q none { s with heap := h' }) : wpAny (model P w) A (pyNext (.ref z)) Q E s := by
  have t : s.TypeIs (.ref z) "zip" := ⟨_, q0, rfl⟩
  unfold pyNext
  refine wpAny_bind (wpAny_attempt (wpAny_callSpecial?_slot (name := Str.ofString "__next__") t F.slot_zip_next (wpAny_call_entry F.slot_zip_next t F.entry_zip_next (zip2_stop hh D q0 q1 q2 c1 c2 d1 d2 he fun h' e r ho => ?_) (F.args_zip_next_1 _))))
  obtain ⟨o, ho, hc⟩ := ho
  exact wpAny_bind (wpAny_isInstance (T := "StopIteration") (b := true) ⟨o, ho, hc⟩ isSubtype_stop (wpAny_pure (hQ _ r)))
end
/-! zip(list, tuple) -/
abbrev zh1 (h : Heap) (l1 : Addr) : Heap := h.push { cls := .type "list_iterator", data := .fields #[.ref l1, .int 0 0] }
abbrev zh2 (h : Heap) (l1 l2 : Addr) : Heap := (zh1 h l1).push { cls := .type "tuple_iterator", data := .fields #[.ref l2, .int 0 0] }
abbrev zh3 (h : Heap) (l1 l2 : Addr) : Heap := (zh2 h l1 l2).push { cls := .type "tuple", data := .seq #[.ref h.objs.size, .ref (zh1 h l1).objs.size] }
abbrev zh4 (h : Heap) (l1 l2 : Addr) : Heap := (zh3 h l1 l2).push { cls := .type "tuple", data := .seq #[.none, .none] }
abbrev zh5 (h : Heap) (l1 l2 : Addr) : Heap := (zh4 h l1 l2).push { cls := .type "zip", data := .fields #[.none, .bool false, .bool false, .ref (zh2 h l1 l2).objs.size, .ref (zh3 h l1 l2).objs.size] }
theorem meets_zlt (l1 l2 : Addr) (xs ys : Array Value) : Meets (Builtin.«zip.__new__» ⟨[.type "zip", .ref l1, .ref l2], []⟩) (fun _ R s => s.heap.IsList l1 xs ∧ s.heap.IsTuple l2 ys ∧ R (.ok (.ret (.ref (zh4 s.heap l1 l2).objs.size))) { s with heap := zh5 s.heap l1 l2 }) :=
  .of_wp fun P w A R s h => by
    obtain  ⟨hp, g, d, tk, os⟩ := s
    obtain ⟨i1, i2, h⟩ := h
    have hsub := sub_zip
    have j1 : Heap.IsList (Shared.heap ⟨hp, g, d, tk, os⟩) l1 xs := i1
    have j2 : Heap.IsTuple (Shared.heap ⟨hp.push { cls := .type "list_iterator", data := .fields #[.ref l1, .int 0 0] }, g, d, tk, os⟩) l2 ys := Heap.IsTuple.push i2 _
    wp_walk using wpAny_pyIter_list j1, wpAny_pyIter_tuple j2
    exact ⟨_, rfl, h⟩
theorem call_zlt {P : Program} {w : World} {A : Around} {E : Value → Shared → Prop} {s : Shared} {l1 l2 : Addr} {xs ys : Array Value} {Q : Value → Shared → Prop} (i1 : s.heap.IsList l1 xs) (i2 : s.heap.IsTuple l2 ys)
    (h : ∀ h', IsZip h' (s.heap.objs.size + 4) (s.heap.objs.size + 2) (s.heap.objs.size + 3) .none → IsPair h' (s.heap.objs.size + 2) (.ref s.heap.objs.size) (.ref (s.heap.objs.size + 1)) → IsPair h' (s.heap.objs.size + 3) .none .none →
      It2 false h' s.heap.objs.size l1 0 → It2 true h' (s.heap.objs.size + 1) l2 0 → (∀ c o, s.heap.get? c = some o → h'.get? c = some o) → Q (.ref (s.heap.objs.size + 4)) { s with heap := h' }) : wpAny (model P w) A (call (.type "zip") [.ref l1, .ref l2]) Q E s := by
  refine callType_new F.called_zip (by decide) (F.typeCall_zip_2 _ _) (F.newCall_zip_2 _ _) (fun o => F.args_object_init_3 o _ _) F.entry_zip_new (meets_zlt l1 l2 xs ys) ⟨i1, i2, ?_⟩
  have n1 : (zh1 s.heap l1).objs.size = s.heap.objs.size + 1 := Heap.size_push ..
  have n2 : (zh2 s.heap l1 l2).objs.size = s.heap.objs.size + 2 := by rw [Heap.size_push, n1]
  have n3 : (zh3 s.heap l1 l2).objs.size = s.heap.objs.size + 3 := by rw [Heap.size_push, n2]
  have n4 : (zh4 s.heap l1 l2).objs.size = s.heap.objs.size + 4 := by rw [Heap.size_push, n3]
  have p0 : ∀ c o, s.heap.get? c = some o → (zh1 s.heap l1).get? c = some o := fun c o x => Heap.get?_push_of_some _ x
  have p1 : ∀ c o, (zh1 s.heap l1).get? c = some o → (zh2 s.heap l1 l2).get? c = some o := fun c o x => Heap.get?_push_of_some _ x
  have p2 : ∀ c o, (zh2 s.heap l1 l2).get? c = some o → (zh3 s.heap l1 l2).get? c = some o := fun c o x => Heap.get?_push_of_some _ x
  have p3 : ∀ c o, (zh3 s.heap l1 l2).get? c = some o → (zh4 s.heap l1 l2).get? c = some o := fun c o x => Heap.get?_push_of_some _ x
  have p4 : ∀ c o, (zh4 s.heap l1 l2).get? c = some o → (zh5 s.heap l1 l2).get? c = some o := fun c o x => Heap.get?_push_of_some _ x
  have g5 : (zh5 s.heap l1 l2).get? (zh4 s.heap l1 l2).objs.size = some _ := Heap.get?_push_size _ rfl
  have g4 : (zh5 s.heap l1 l2).get? (zh3 s.heap l1 l2).objs.size = some _ := p4 _ _ (Heap.get?_push_size _ rfl)
  have g3 : (zh5 s.heap l1 l2).get? (zh2 s.heap l1 l2).objs.size = some _ := p4 _ _ (p3 _ _ (Heap.get?_push_size _ rfl))
  have g2 : (zh5 s.heap l1 l2).get? (zh1 s.heap l1).objs.size = some _ := p4 _ _ (p3 _ _ (p2 _ _ (Heap.get?_push_size _ rfl)))
  have g1 : (zh5 s.heap l1 l2).get? s.heap.objs.size = some _ := p4 _ _ (p3 _ _ (p2 _ _ (p1 _ _ (Heap.get?_push_size _ rfl))))
  show _ ∧ _
  rw [n2, n3, n4] at g5
  rw [n1, n2] at g3
  rw [n3] at g4
  rw [n1] at g2
  rw [n4]
  exact ⟨⟨_, g5, rfl⟩, h _ g5 g3 g4 ⟨_, g1, rfl, rfl⟩ ⟨_, g2, rfl, rfl⟩ fun c o x => p4 _ _ (p3 _ _ (p2 _ _ (p1 _ _ (p0 _ _ x))))⟩
/-- the list at a and the tuple at b as they stand at each turn -/
def ItzM (K : PySem.W.Frag) (a b : Addr) : It :=
  ⟨fun i H => ∃ (xs ys : List V) (x y : V), SqL K H a xs ∧ SqT K H b ys ∧ xs[i]? = some x ∧ ys[i]? = some y,
    fun i H v H' => ∃ p x y, v = .ref p ∧ H p = none ∧ H' = upd H p (.tup [x, y]) ∧ (∀ xs, SqL K H a xs → xs[i]? = some x) ∧ ∀ ys, SqT K H b ys → ys[i]? = some y,
    fun i H => ∃ xs ys : List V, SqL K H a xs ∧ SqT K H b ys ∧ (xs.length ≤ i ∨ ys.length ≤ i)⟩
theorem turn_zipM {P : Program} {w : World} {K : PySem.W.Frag} {elts : List Expr} {kk : Nat} {tpos : Pos} {a b z TI TO j1 j2 : Addr} (D : ZipApart z TI TO j1 j2 a b) :
    Turn P w K (.Tuple elts kk tpos) (ItzM K a b) [z, TI, TO, j1, j2] z (fun i h => IsZip h z TI TO .none ∧ IsPair h TI (.ref j1) (.ref j2) ∧ (∃ x y, IsPair h TO x y) ∧ It2 false h j1 a i ∧ It2 true h j2 b i) where
  mem := List.mem_cons_self
  obj := fun i h st c hc => by
    obtain ⟨q0, q1, ⟨x, y, q2⟩, c1, c2⟩ := st
    obtain ⟨o1, u1, v1⟩ := c1.obj
    obtain ⟨o2, u2, v2⟩ := c2.obj
    simp only [List.mem_cons, List.not_mem_nil, or_false] at hc
    rcases hc with q | q | q | q | q <;> subst q
    · exact ⟨_, q0, fun v q => nomatch q⟩
    · exact ⟨_, q1, fun v q => nomatch q⟩
    · exact ⟨_, q2, fun v q => nomatch q⟩
    · exact ⟨o1, u1, v1⟩
    · exact ⟨o2, u2, v2⟩
  keep := fun i h h' st r => by
    obtain ⟨q0, q1, ⟨x, y, q2⟩, c1, c2⟩ := st
    exact ⟨r z (by simp) _ q0, r TI (by simp) _ q1, ⟨x, y, r TO (by simp) _ q2⟩, c1.stay fun o q => r j1 (by simp) o q, c2.stay fun o q => r j2 (by simp) o q⟩
  item := by
    intro  X hP hw hK hc i pins s σ H E I hf st hg
    subst hP hw hK
    obtain ⟨q0, q1, ⟨x0, y0, q2⟩, c1, c2⟩ := st
    obtain ⟨xs, ys, x, y, sx, sy, hx, hy⟩ := hg
    obtain ⟨us, rv, p, _⟩ := I.list sx
    obtain ⟨ws, rv2, p2, _⟩ := I.tuple sy
    obtain  ⟨u, hu, ru⟩ := rv.get hx
    obtain  ⟨u2, hu2, ru2⟩ := rv2.get hy
    have zl : z < s.heap.objs.size := Heap.lt_size q0
    have fresh := I.hok.fresh (Nat.le_refl s.heap.objs.size)
    refine pyNext2_item (xs := us.toArray) (ys := ws.toArray) D q0 q1 q2 c1 c2 p.isList p2 (x := u) (y := u2) (by simpa using hu) (by simpa using hu2) fun h' z' TO' c1' c2' hT hk => ?_
    refine ⟨_, rfl, wpAny_letOwnedTupleGo_zip (s := { s with heap := h' }) z' fun h2 z2 sb => ?_⟩
    have old : ∀ c o, c ∉ [z, TI, TO, j1, j2] → s.heap.get? c = some o → h2.get? c = some o := fun c o hb q => by
      simp only [List.mem_cons, List.not_mem_nil, or_false, not_or] at hb
      exact (sb.2 c hb.1).trans (hk c o hb.1 hb.2.2.1 hb.2.2.2.1 hb.2.2.2.2 q)
    have hT2 : h2.get? s.heap.objs.size = some { cls := .type "tuple", data := .seq #[u, u2] } := (sb.2 _ (Nat.ne_of_gt zl)).trans hT
    have new : ObjOk X.prog X.w (upd H s.heap.objs.size (.tup [x, y])) h2 s.heap.objs.size (.tup [x, y]) := ⟨by show 2 ≤ sizeLine; decide, [u, u2], .cons ru (.cons ru2 .nil), ⟨_, hT2, rfl, _, rfl⟩⟩
    have I1 : Inv X pins σ (upd H s.heap.objs.size (.tup [x, y])) { s with heap := h2 } := I.turnedNew (t' := s.toks) (ch := [z, TI, TO, j1, j2]) old hf (Nat.le_refl _) new
    refine ⟨.ref s.heap.objs.size, _, I1, rfl, ⟨_, x, y, rfl, fresh, rfl, fun l hl => by rw [I.list_inj hl sx]; exact hx, fun l hl => by rw [I.tuple_inj hl sy]; exact hy⟩, ⟨z2, ?_, ⟨u, u2, ?_⟩, ?_, ?_⟩, fun c hcm => ?_⟩
    · exact (sb.2 _ D.TIz).trans (hk _ _ D.TIz D.TITO D.TIi1 D.TIi2 q1)
    · exact  (sb.2 _ D.TOz).trans TO'
    · exact c1'.stay fun o q => (sb.2 _ D.i1z).trans q
    · exact c2'.stay fun o q => (sb.2 _ D.i2z).trans q
    · have lt : c < s.heap.objs.size := by
        obtain ⟨o1, u1, _⟩ := c1.obj
        obtain ⟨o2, u2, _⟩ := c2.obj
        have hcm2 := hcm
        simp only [List.mem_cons, List.not_mem_nil, or_false] at hcm2
        rcases hcm2 with q | q | q | q | q <;> rw [q]
        · exact zl
        · exact Heap.lt_size q1
        · exact Heap.lt_size q2
        · exact Heap.lt_size u1
        · exact Heap.lt_size u2
      rw [upd_ne (Nat.ne_of_lt lt)]
      exact (hf c hcm).1
  done := by
    intro  X hP hw hK hc i pins s σ H E I hf st hg
    subst hP hw hK
    obtain ⟨q0, q1, ⟨x0, y0, q2⟩, c1, c2⟩ := st
    obtain ⟨xs, ys, sx, sy, he⟩ := hg
    obtain ⟨us, rv, p, _⟩ := I.list sx
    obtain ⟨ws, rv2, p2, _⟩ := I.tuple sy
    have n1 := rv.length
    have n2 := rv2.length
    have he2 : us.toArray[i]? = none ∨ ws.toArray[i]? = none := he.imp (fun q => by simp; omega) fun q => by simp; omega
    refine pyNext2_stop (I.ok.hd hc) D q0 q1 q2 c1 c2 p.isList p2 he2 fun h' hk => ⟨rfl, I.turnedL (t' := s.toks) (ch := [z, TI, TO, j1, j2]) (fun c o hb q => ?_) hf⟩
    simp only [List.mem_cons, List.not_mem_nil, or_false, not_or] at hb
    exact hk c o hb.1 hb.2.2.1 hb.2.2.2.1 hb.2.2.2.2 q
  self  := fun A i s Q E st h => wpAny_pyIter_zip st.1 h
def iZipM (K : PySem.W.Frag) (ta : TA) : TI := fun σ H R => ta σ H fun vs H1 => ∃ a b xs ys, vs = [.ref a, .ref b] ∧ SqL K H1 a xs ∧ SqT K H1 b ys ∧ R (ItzM K a b) H1
theorem pi_zipM {X : Cx} {e e2 : Expr} {ta : TA} {p pos tpos : Pos} {elts : List Expr} {kk : Nat} (hg : Gl X "zip") (hm : X.mg "zip" = none) (ha : PA X [e, e2] ta)
    (hs : starEach [e, e2] X.env = (false, eval e X.env) :: starEach [e2] X.env := by rfl) (hpl : (backTo pos (starEach [e2] X.env)).any (·.1) = false := by rfl) : PI X (.Tuple elts kk tpos) (.Call (.Name "zip" p) [e, e2] [] pos) (iZipM X.K ta) := by
  refine ⟨fun pins s σ H R I h => Call_ (ld_blt I hg hm PyProof.Rows.boot_zip (PyProof.Rows.callWith_type1 (thn (ha.run pos pins s σ H _ I h) fun us s1 ⟨vs, H1, I1, r1, q1⟩ => ?_) hs hpl))⟩
  obtain ⟨a, b, xs, ys, rfl, sx, sy, q⟩ := q1
  cases r1 with
  | cons r rr =>
    cases rr with
    | cons r' rr =>
      cases rr
      cases r
      cases r'
      obtain ⟨us, rv, p1, _⟩ := I1.list sx
      obtain ⟨ws, rv2, p2, _⟩ := I1.tuple sy
      obtain ⟨o2, ho2, _⟩ := id p2
      refine call_zlt p1.isList (show s1.heap.IsTuple b ws.toArray from p2) fun h' q0 q1 q2 c1 c2 hk => wpAny_pyIter_zip q0 ?_
      have  I2 : Inv X pins σ H1 { s1 with heap := h' } := I1.kept (t' := s1.toks) hk
      refine ⟨s1.heap.objs.size + 4, [s1.heap.objs.size + 4, s1.heap.objs.size + 2, s1.heap.objs.size + 3, s1.heap.objs.size, s1.heap.objs.size + 1], _, _, H1, rfl, I2, turn_zipM (PySem.W.ktu_apart s1.heap.objs.size a b p1.lt (Heap.lt_size ho2)), ⟨q0, q1, ⟨_, _, q2⟩, c1, c2⟩, fun c hcm => ?_, q⟩
      have le : s1.heap.objs.size ≤ c := by
        simp only [List.mem_cons, List.not_mem_nil, or_false] at hcm
        rcases hcm with q | q | q | q | q <;> rw [q] <;> first | exact Nat.le_refl _ | exact Nat.le_add_right _ _
      exact I1.fpOk le (I1.hok.fresh le)
end Md
/-! Mv14 -/
namespace Mi
open L2 PySem PySem.Spec PyProof.Rows RZ Md
/-! ### zip of a list and a tuple -/
def zipItM (d : D) (us : List T) (n : Nat) : ItM := ⟨fun st i => (lsq st d).bind fun ds => zipAt ds (us.map .t) i, n⟩
theorem JOk.zipM {K : PySem.W.Frag} {W : Wd} {H : Hp} {st : Sto} {d : D} {us : List T} {a b : Addr} {n : Nat} (R : Rl K W st H) (r1 : RelD K W H d (.ref a)) (r2 : RelD K W H (.t (.tup us)) (.ref b)) : JOk K (ItzM K a b) (zipItM d us n) W H := by
  intro W' H' st' i E' R'
  obtain ⟨b2, ws, z2, q2, rr2⟩ := E'.relD R r2
  cases z2
  have rd2 := relDs_t (K := K) (W := W') rr2
  have get : ∀ o, (zipItM d us n).nth st' i = some o → ∃ ds vs, zipAt ds (us.map .t) i = some o ∧ SqL K H' a vs ∧ RelDs K W' H' ds vs := fun o h => by
    have h : (lsq st' d).bind (fun ds => zipAt ds (us.map .t) i) = some o := h
    cases q1 : lsq st' d with
    | none => (rw [q1] at h; cases h)
    | some ds =>
      rw [q1] at h
      obtain ⟨a', vs, e1, s1, rr1⟩ := lsq_rel R' q1 (E'.relD R r1)
      cases e1
      exact ⟨ds, vs, h, s1, rr1⟩
  refine ⟨fun h => ?_, fun dd h => ?_⟩
  · obtain ⟨ds, vs, h, s1, rr1⟩ := get _ h
    exact ⟨vs, ws, s1, q2.sq, by rw [relDs_len rr1, relDs_len rd2]; exact zipAt_none h⟩
  · obtain ⟨ds, vs, h, s1, rr1⟩ := get _ h
    obtain ⟨x, y, c1, c2, rfl⟩ := zipAt_some h
    obtain ⟨v, e3, rv⟩ := relDs_get rr1 c1
    obtain ⟨u, e4, ru⟩ := relDs_get rd2 c2
    refine ⟨⟨vs, ws, v, u, s1, q2.sq, e3, e4⟩, fun z H2 hy => ?_⟩
    obtain ⟨p, v', u', rfl, hp, rfl, k1, k2⟩ := hy
    obtain rfl : v = v' := Option.some.inj (e3.symm.trans (k1 vs s1))
    obtain rfl : u = u' := Option.some.inj (e4.symm.trans (k2 ws q2.sq))
    have E2 : Ext W' H' W' (upd H' p (.tup [v, u])) := R'.more hp
    exact ⟨W', E2, R'.rest hp, p, [v, u], rfl, Or.inl upd_same, v, [u], rfl, E2.relT R' _ _ rv, u, [], rfl, E2.relT R' _ _ ru, rfl⟩
def zipOfM (fs : List (Env → Sto → Res D)) (env : Env) (st : Sto) : Res ItM := (argsM fs env st).bind fun ds s => match ds with
  | [d, .t (.tup us)] => optR ((lsq s d).map fun xs => zipItM d us xs.length) s
  | _ => .bad
section
variable {X : Cx} {Wx : WX} {a b : Expr} {pos p tpos : Pos}
theorem ri_zipM {elts : List Expr} {kk : Nat} {fs : List (Env → Sto → Res D)} (hg : Gl X "zip") (hm : X.mg "zip" = none) (ha : RA X Wx [a, b] (argsM fs))
    (hs : starEach [a, b] X.env = (false, eval a X.env) :: starEach [b] X.env := by rfl) (hpl : (backTo pos (starEach [b] X.env)).any (·.1) = false := by rfl) : RI X Wx (.Tuple elts kk tpos) (.Call (.Name "zip" p) [a, b] [] pos) (zipOfM fs) := by
  refine PI.conv (pi_zipM hg hm ha hs hpl) fun σ H Q ⟨W, env, st, R, Ev, h⟩ => ⟨W, env, st, R, Ev, split h (fun ds s h1 W1 H1 vs E1 R1 r1 => ?_) fun C fs st' hx => hx⟩
  split at h1
  · rename_i d us
    obtain ⟨it, e1, q⟩ := optR_holds h1
    obtain ⟨v, w, rfl, rd, re⟩ := rel2 r1
    cases z1 : lsq s d with
    | none => (rw [z1] at e1; cases e1)
    | some xs =>
      rw [z1] at e1
      cases e1
      obtain ⟨b1, vs2, rfl, s2, rr2⟩ := id re
      obtain ⟨a1, vs1, rfl, s1, rr1⟩ := lsq_rel R1 z1 rd
      exact ⟨a1, b1, vs1, vs2, rfl, s1, s2.sq, q W1 H1 _ E1 R1 (.zipM R1 rd re)⟩
  · exact h1.elim
end
end Mi
/-! Mv15 -/
namespace Mi
open L2 PySem PySem.Spec PyProof.Rows RZ
/-! ### a slice of a list that names objects: a new list -/
section
variable {K : PySem.W.Frag} {W : Wd} {H : Hp}
theorem relDs_dropN : ∀ (n : Nat) {ds : List D} {vs : List V}, RelDs K W H ds vs → RelDs K W H (ds.drop n) (vs.drop n)
  | 0, ds, vs, h => h
  | n + 1, [], vs, h => by cases h; exact rfl
  | n + 1, d :: ds, vs, h => by
    obtain ⟨v, u, rfl, a, b⟩ := h
    exact relDs_dropN n b
theorem relDs_takeN : ∀ (n : Nat) {ds : List D} {vs : List V}, RelDs K W H ds vs → RelDs K W H (ds.take n) (vs.take n)
  | 0, ds, vs, h => rfl
  | n + 1, [], vs, h => by cases h; exact rfl
  | n + 1, d :: ds, vs, h => by
    obtain ⟨v, u, rfl, a, b⟩ := h
    exact ⟨v, u.take n, rfl, a, relDs_takeN n b⟩
theorem relDs_cutN {ds : List D} {vs : List V} {lo hi : Option Int} (r : RelDs K W H ds vs) : RelDs K W H (cutG ds lo hi) (cutV vs lo hi) := by
  unfold cutG cutV
  rw [relDs_len r]
  exact relDs_takeN _ (relDs_dropN _ r)
end
def slN (d : D) (lo hi : Option Int) (st : Sto) : Option (D × Sto) := (lsq st d).map fun ds => (.r st.length, st ++ [.lst (cutG ds lo hi)])
def sliceN (f : Env → Sto → Res D) (fl fh : Env → Sto → Res (Option Int)) (env : Env) (st : Sto) : Res D := (f env st).bind fun d st1 => (fl env st1).bind fun lo st2 => (fh env st2).bind fun hi st3 => optS (slN d lo hi st3)
section
variable {X : Cx} {Wx : WX} {e : Expr} {f : Env → Sto → Res D} {p2 pos : Pos}
theorem sl_new : SlR X (fun x lo hi H Q => ∃ W st d, Rl X.K W st H ∧ RelD X.K W H d x ∧ ∃ z, slN d lo hi st = some z ∧ OkD X.K W H Q z.1 z.2) := by
  intro pins s σ H x v vl vu lo hi sl Q I rx hs pl pu ⟨W, st, d, R, r1, z, h, q⟩
  unfold slN at h
  cases e1 : lsq st d with
  | none => (rw [e1] at h; cases h)
  | some ds =>
    rw [e1] at h
    cases h
    obtain ⟨a, vs, rfl, nt, rr⟩ := lsq_rel R e1 r1
    exact sl_list pins s σ H _ v vl vu lo hi sl Q I rx hs pl pu ⟨a, vs, rfl, nt, fun p hp => q (W.add p) _ _ (Ext.add W hp) (R.add hp (relDs_cutN rr)) ⟨p, by
      show (W.ρ ++ [p])[st.length]? = some p
      rw [← R.len, List.getElem?_append_right (Nat.le_refl _), Nat.sub_self]; rfl, rfl⟩⟩
theorem re_sliceN {lo hi : Option Expr} {fl fh : Env → Sto → Res (Option Int)} (he : RE X Wx e f) (hl : RO X Wx lo fl) (hh : RO X Wx hi fh) : RE X Wx (.Subscript e (.Slice lo hi none p2) pos) (sliceN f fl fh) := by
  refine PE.conv (pe_slice sl_new he hl hh) fun σ H Q ⟨W, env, st, R, Ev, h⟩ => ⟨W, env, st, R, Ev, split h (fun d st1 h1 W1 H1 v E1 R1 r1 => ?_) fun C fs st' hx => hx⟩
  refine ⟨W1, env, st1, R1, Ev.mono E1 R, split h1 (fun lo st2 h2 W2 H2 E2 R2 => ?_) fun C fs st' hx => hx.mono E1⟩
  refine ⟨W2, env, st2, R2, (Ev.mono E1 R).mono E2 R1, split h2 (fun hi st3 h3 W3 H3 E3 R3 => ?_) fun C fs st' hx => hx.mono (E1.trans E2)⟩
  obtain ⟨z, e1, q⟩ := optS_holds h3
  exact ⟨W3, st3, d, R3, (E2.trans E3).relD R1 r1, z, e1, q.mono (E1.trans (E2.trans E3))⟩
end
end Mi
/-! Mv16 -/
namespace Mi
open L2 PySem PySem.Spec PyProof.Rows RZ
/-! ### a text times a number -/
section
variable {X : Cx}
theorem mulOk_small {x : Str} {n : Int} (h : x.length ≤ 1000 ∧ 0 ≤ n ∧ n ≤ 1000) : MulOk x n := by
  obtain ⟨h1, h2, h3⟩ := h
  refine ⟨?_, fun h4 _ h5 => ?_, fun h4 _ => ?_⟩
  · rw [decide_eq_false (by omega), decide_eq_false (by omega)]; rfl
  · have e : (1000 : Int) ≤ (2 ^ 63 - 1) / n := Int.le_ediv_of_mul_le (by omega) (by omega)
    omega
  · have e : x.length * n.toNat ≤ 1000 * 1000 := Nat.mul_le_mul h1 (by omega)
    exact notLongL (Nat.le_trans e (lim_size (Nat.le_refl _)))
theorem op_mul_strS : OpR X (binaryOp .Mult) (fun x y H Q => ∃ i n, x = .str i ∧ y = .int n ∧ (i.length ≤ 1000 ∧ 0 ≤ n ∧ n ≤ 1000) ∧ Q (.str (Txt.mul i n)) H) := by
  intro  pins s σ H x y v u Q I rx ry h
  obtain ⟨i, n, rfl, rfl, hz, q⟩ := h
  obtain ⟨t, rfl⟩ := rx
  obtain ⟨t', rfl⟩ := ry
  exact SB.mul (mulOk_small hz) fun t' k => ⟨.str (Txt.mul i n), H, I.tok _, ⟨_, rfl⟩, q⟩
def mulS (d e : D) (_ : Sto) : Option D := match d, e with
  | .t (.str x), .t (.int n) => if x.length ≤ 1000 ∧ 0 ≤ n ∧ n ≤ 1000 then some (sD (Txt.mul x n)) else none
  | _, _ => none
theorem o_mulS : OpR X (binaryOp .Mult) (rM X.K mulS) := op_of op_mul_strS fun W st d e x y H Q z R r1 r2 h q => by
  unfold mulS at h
  split at h
  · split at h
    · rename_i c
      cases h; cases r1; cases r2
      exact ⟨_, _, rfl, rfl, c, q W H _ .refl R rfl⟩
    · cases h
  · cases h
def mulB (d e : D) (st : Sto) : Option D := match d with
  | .t (.str _) => mulS d e st
  | _ => mulA d e st
theorem o_mulB : OpR X (binaryOp .Mult) (rM X.K mulB) := by
  have ho : OpR X (binaryOp .Mult) _ := OpR.or (o_mulS (X := X)) o_mulA
  (intro pins s σ H x y v u Q I r1 r2 h)
  refine ho pins s σ H x y v u Q I r1 r2 ?_
  obtain ⟨W, st, d, e, R, q1, q2, z, e1, q⟩ := h
  unfold mulB at e1
  split at e1
  · exact .inl ⟨W, st, _, e, R, q1, q2, z, e1, q⟩
  · exact .inr ⟨W, st, _, e, R, q1, q2, z, e1, q⟩
end
end Mi
/-! Dcs -/
/-! name = {k: v for ..} on one line, the name a local -/
namespace Md
open L2 PySem PySem.Spec PyProof.Rows
section
variable {X : Cx}
theorem ps_setDc {i : Nat} {y : Str} {py : Pos} {kx vx tg iter : Expr} {ifs : List Expr} {scope : Scope} {own : List (Str × Nat)} {pos spos : Pos} {wi : TI} {g : TG} {tt : TT} {tk tv : TE} (hc : X.calm = true) (hN : X.N.Nodup) (hy : X.N[i]? = some y) (hyl : X.env.scope.names.lookup y = some .local)
    (hsw : swapsWith (.DictComp kx vx [⟨tg, iter, ifs, 0⟩] scope pos) (some (.Name y py)) spos.line X.env = pure true) (hi : PI X tg iter wi) (ok : BlkOk X.N X.env.scope scope own)
    (hg  : ∀ (s : Shared) (H : Hp) (C : Addr) (cl : List (Str × Addr)) (fp : List Addr), PG (X.blk s H scope (compEnvC scope cl C X.env) fp) tg g) (ht : ∀ (s : Shared) (H : Hp) (C : Addr) (cl : List (Str × Addr)) (fp : List Addr), PTs (X.blk s H scope (compEnvC scope cl C X.env) fp) ifs tt)
    (hk : ∀ (s : Shared) (H : Hp) (C : Addr) (cl : List (Str × Addr)) (fp : List Addr), PE (X.blk s H scope (compEnvC scope cl C X.env) fp) kx tk) (he : ∀ (s : Shared) (H : Hp) (C : Addr) (cl : List (Str × Addr)) (fp : List Addr), PE (X.blk s H scope (compEnvC scope cl C X.env) fp) vx tv)
    (hs : ∀ x, foldedSetIterable iter X.env x = pure x := by intro _; rfl) : PS X (.Assign [.Name y py] (.DictComp kx vx [⟨tg, iter, ifs, 0⟩] scope pos) spos) (tAsg (tDc wi g tt tk tv (own.map (·.2))) (gName i)) := by
  refine  ⟨fun pins s σ H D I h => ?_⟩
  rw  [exec_Assign_Name_used _ _ _ _ hsw]
  have h : tDc wi g tt tk tv (own.map (·.2)) σ H (fun x H1 => gName i x σ H1 D.nx) := h
  refine wpAny_bind (wpAny_standAt (wpAny_bind (wpAny_bind (thn (dc_core (use := some (assign (.Name y py) X.env)) (Qf := fun _ s' => SP X pins D .next s') hc hN I hi ok hg ht hk he hs h fun L C s' m H' J q hn f => ?_) fun _ s' hq => wpAny_pure (wpAny_pure hq)))))
  (show wpAny _ _ (assign (.Name y py) X.env (.ref L)) _ _ _)
  refine wpAny_assign_Name (store_ok2 (v := V.ref L) J hN hy (.inl hyl) rfl (fun s2 J2 ⟨a, sb, ha⟩ => ?_) (.inr hyl))
  obtain  ⟨f0, f1, f2, f3, f4, f5⟩ := f
  have n : C ≠ a := by
    rcases ha with z | z
    · (rw [z]; exact f1)
    · exact  fun e => f4 y a z e.symm
  exact ⟨m, hn.sameBut sb n, fun h3 sb3 => ⟨_, H', J2.turned (t' := s2.toks) (fun b o hb e => (sb3.2 b hb).trans e) f0 f1 f3 f4 f5, q⟩⟩
theorem sw_dc {kx vx : Expr} {gs : List Comprehension} {scope : Scope} {pos py : Pos} {y : Str} {l : Nat} {env : Env} (hk : env.scope.kind = .function) (hy : env.scope.names.lookup y = some .local) (hl : (py.line == pos.line) = true)
    (ha : (scope.names.any fun (n, k) => n == y && (k == .local || k == .cell)) = false) : swapsWith (.DictComp kx vx gs scope pos) (some (.Name y py)) l env = pure true := by
  have e1 : env.kindOf y = some .local := hy
  have e2 : env.blockKind = .function := by unfold Env.blockKind; rw [hk]; rfl
  unfold swapsWith
  simp only [e1, e2, ha, Expr.pos, hl]
  rfl
end
end Md
/-! Mv17 -/
namespace Mi
open L2 PySem PySem.Spec PyProof.Rows RZ Md
section
variable {X : Cx} {Wx : WX} {kx vx tg iter : Expr} {ifs : List Expr} {scope : Scope} {own : List (Str × Nat)} {pos : Pos} {ga : D → Env → Option Env} {gt : Env → Sto → Res Bool} {fk fe : Env → Sto → Res D} {fit : Env → Sto → Res ItM}
theorem rs_setDc {i : Nat} {y : Str} {py spos : Pos} (hc : X.calm = true) (hN : X.N.Nodup) (hy : X.N[i]? = some y) (hyl : X.env.scope.names.lookup y = some .local)
    (hsw : swapsWith (.DictComp kx vx [⟨tg, iter, ifs, 0⟩] scope pos) (some (.Name y py)) spos.line X.env = pure true) (hi : RI X Wx tg iter fit) (ok : BlkOk X.N X.env.scope scope own)
    (hg : ∀ (s : Shared) (H : Hp) (C : Addr) (cl : List (Str × Addr)) (fp : List Addr), RG (X.blk s H scope (compEnvC scope cl C X.env) fp) (own.map (·.2)) tg ga) (ht : ∀ (s : Shared) (H : Hp) (C : Addr) (cl : List (Str × Addr)) (fp : List Addr), RTs (X.blk s H scope (compEnvC scope cl C X.env) fp) ifs gt)
    (hk : ∀ (s : Shared) (H : Hp) (C : Addr) (cl : List (Str × Addr)) (fp : List Addr), RE (X.blk s H scope (compEnvC scope cl C X.env) fp) W0 kx fk)
    (he : ∀ (s : Shared) (H : Hp) (C : Addr) (cl : List (Str × Addr)) (fp : List Addr), RE (X.blk s H scope (compEnvC scope cl C X.env) fp) W0 vx fe) (hs : ∀ x, foldedSetIterable iter X.env x = pure x := by intro _; rfl) :
    RS X Wx (.Assign [.Name y py] (.DictComp kx vx [⟨tg, iter, ifs, 0⟩] scope pos) spos) (setM i (dcN (own.map (·.2)) fit ga gt fk fe)) := by
  refine PS.conv (ps_setDc (g := tG X.K (own.map (·.2)) ga) (tt := tT X.K W0 gt) (tk := tE X.K W0 fk) (tv := tE X.K W0 fe) hc hN hy hyl hsw hi ok hg ht hk he hs) fun E σ H ⟨W, env, st, R, Ev, h⟩ => ?_
  have hh := out_split h Ev R (A := fun d s => Out.Holds X.K Wx E W H (.nx (env.set i (some d)) s)) fun d s q => q
  refine ⟨W, env, st, R, Ev, split hh (fun it s h1 W1 H1 J E1 R1 j => ?_) fun C fs st' hx => hx⟩
  split at h1
  · rename_i acc s2 hr
    refine dc_run (Q := fun x H1 => gName _ x σ H1 E.nx) R1 (Ev.mono E1 R) j hr fun L W2 H2 vs hL w => ?_
    obtain ⟨a1, a2, a3⟩ := w.added hL
    exact h1 _ _ H2 (E1.trans a1) a2 (((Ev.mono E1 R).mono a1 R1).set i ⟨L, a3, rfl⟩)
  · exact h1.elim
end
end Mi
/-! Mv18 -/
namespace Mi
open L2 PySem PySem.Spec PyProof.Rows RZ Md
section
variable {X : Cx}
/-- len of a dict that is filled -/
def lenKB (ds : List D) (st : Sto) : Option D := match ds with
  | [.r m] => match st[m]? with
    | some (.dk false ks) => some (iD ks.length)
    | _ => none
  | _ => none
theorem c_lenK : CallR X (.builtin "len") (rC X.K lenKB) := call_of call_lenD fun W st ds xs H Q z R r h q => by
  unfold lenKB at h
  split at h
  · rename_i m
    obtain ⟨v, rfl, r1⟩ := rel1 r
    split at h
    · rename_i ks hk
      cases h
      obtain ⟨a, e, rfl⟩ := r1
      obtain ⟨vs, q1, q2⟩ := R.live m a _ e hk
      rw [if_neg (by decide)] at q1
      refine ⟨a, vs, rfl, q1, ?_⟩
      have l : vs.length = ks.length := relKs_len q2
      rw [l]
      exact q W H _ .refl R rfl
    · cases h
  · cases h
end
end Mi
/-! Mv19 -/
namespace Mi
open L2 PySem PySem.Spec PyProof.Rows
/-! ### the same plain value, twice: == says True, by the own == of classes too -/
section
variable {K : PySem.W.Frag}
/-- both stand for the same plain value, one that P tells of -/
def SameP (K : PySem.W.Frag) (P : T → Prop) : Eqv := fun x y H => ∃ (F : Addr → Prop) (t : T), P t ∧ Fz F H ∧ RelT K F H t x ∧ RelT K F H t y
theorem keep_ext {F : Addr → Prop} {H H' : Hp} (e : L2.Ext H H') : KeepT F H F H' := ⟨fun _ h => h, fun a o _ h => e a o h, fun a xs h => e _ _ h, fun a o xs h => e _ _ h, fun a fs h => e _ _ h⟩
theorem fz_ext {F : Addr → Prop} {H H' : Hp} (e : L2.Ext H H') (h : Fz F H) : Fz F H' := fun a ha => by
  obtain ⟨o, q⟩ := h a ha
  exact ⟨o, e a o q⟩
theorem mon_same {P : T → Prop} : Mon (SameP K P) := fun x y H H' e ⟨F, t, p, fz, r1, r2⟩ => ⟨F, t, p, fz_ext e fz, (keep_ext e).relT t x r1, (keep_ext e).relT t y r2⟩
theorem SameP.imp {P P' : T → Prop} (h : ∀ t, P t → P' t) {x y : V} {H : Hp} (d : SameP K P x y H) : SameP K P' x y H := by
  obtain ⟨F, t, p, r⟩ := d
  exact ⟨F, t, h t p, r⟩
theorem prs_same {P : T → Prop} {F : Addr → Prop} {H : Hp} (fz : Fz F H) : ∀ {ts : List T} {vs ws : List V}, (∀ u ∈ ts, P u) → RelTs K F H ts vs → RelTs K F H ts ws → Prs (SameP K P) vs ws H
  | [], vs, ws, _, h, g => by cases h; cases g; exact .nil
  | t :: ts, vs, ws, hp, h, g => by
    obtain ⟨v, r, rfl, a, b⟩ := h
    obtain ⟨v', r', rfl, a', b'⟩ := g
    exact .cons ⟨F, t, hp t List.mem_cons_self, fz, a, a'⟩ (prs_same fz (fun u hu => hp u (List.mem_cons_of_mem _ hu)) b b')
def flatT : T → Prop
  | .non => True
  | .bl _ => True
  | .int _ => True
  | .str _ => True
  | _ => False
def tupP (P : T → Prop) (t : T) : Prop := ∃ ts, t = .tup ts ∧ ∀ u ∈ ts, P u
def insP (C : Addr) (PI : List Str → List T → Prop) (t : T) : Prop := ∃ ns ts, t = .ins C ns ts ∧ PI ns ts
end
section
variable {X : Cx} {n : Nat} {P P' : T → Prop}
theorem eqG_flatP : EqG X 0 (SameP X.K flatT) := eqG_flat.imp fun x y H ⟨F, t, p, _, r1, r2⟩ => by
  cases t with
  | non => cases r1; cases r2; exact ⟨rfl, rfl, rfl⟩
  | bl b => cases r1; cases r2; exact ⟨rfl, rfl, by simp [eqV]⟩
  | int b => cases r1; cases r2; exact ⟨rfl, rfl, by simp [eqV]⟩
  | str b => cases r1; cases r2; exact ⟨rfl, rfl, by simp [eqV]⟩
  | _ => exact p.elim
theorem tup_conv {x y : V} {H : Hp} (d : SameP X.K (tupP P) x y H) : DTup X.K (SameP X.K P) x y H := by
  obtain ⟨F, t, ⟨ts, rfl, hp⟩, fz, r1, r2⟩ := d
  obtain ⟨a, vs, rfl, s1, q1⟩ := r1
  obtain ⟨b, ws, rfl, s2, q2⟩ := r2
  exact ⟨a, b, vs, ws, rfl, rfl, s1.sq, s2.sq, prs_same fz hp q1 q2⟩
theorem rcG_tupP (h : EqG X n (SameP X.K P)) : RcG X (n + 1) (SameP X.K (tupP P)) := fun A pins s σ H x y u v sb I rx ry d => rcG_tup mon_same h A pins s σ H x y u v sb I rx ry (tup_conv d)
theorem eqG_tupP (h : EqG X n (SameP X.K P)) : EqG X (n + 1) (SameP X.K (tupP P)) := (eqG_tup mon_same h).imp fun x y H d => tup_conv d
theorem eqG_orP (h : EqG X n (SameP X.K P)) (g : EqG X n (SameP X.K P')) : EqG X n (SameP X.K fun t => P t ∨ P' t) := (h.or g).imp fun x y H ⟨F, t, p, r⟩ => p.elim (fun p => .inl ⟨F, t, p, r⟩) fun p => .inr ⟨F, t, p, r⟩
theorem eqG_impP (h : EqG X n (SameP X.K P)) (f : ∀ t, P' t → P t) : EqG X n (SameP X.K P') := h.imp fun x y H d => d.imp f
/-- plain data of so many levels -/
def DataN : Nat → T → Prop
  | 0 => flatT
  | n + 1 => fun t => DataN n t ∨ tupP (DataN n) t
theorem eqG_data : ∀ n : Nat, EqG X n (SameP X.K (DataN n))
  | 0 => eqG_flatP
  | n + 1 => eqG_orP ((eqG_data n).mono (Nat.le_succ n)) (eqG_tupP (eqG_data n))
/-- what two instances of a class must be for its own == -/
def RIns (K : PySem.W.Frag) (C : Addr) (PI : List Str → List T → Prop) (a b : Addr) (H : Hp) : Prop := ∃ (F : Addr → Prop) (ns : List Str) (ts : List T), PI ns ts ∧ Fz F H ∧ RelT K F H (.ins C ns ts) (.ref a) ∧ RelT K F H (.ins C ns ts) (.ref b)
theorem ins_conv {C : Addr} {PI : List Str → List T → Prop} {x y : V} {H : Hp} (d : SameP X.K (insP C PI) x y H) : DIns C (RIns X.K C PI) x y H := by
  obtain ⟨F, t, ⟨ns, ts, rfl, hp⟩, fz, r1, r2⟩ := d
  have r1' := r1
  have r2' := r2
  obtain ⟨a, dx, vs, rfl, _, h1, _, _⟩ := r1
  obtain ⟨b, dy, ws, rfl, _, h2, _, _⟩ := r2
  exact ⟨a, b, dx, dy, _, _, rfl, rfl, h1, h2, F, ns, ts, hp, fz, r1', r2'⟩
/-- the module's facts of an own == -/
structure EqC (P : Program) (w : World) (K : PySem.W.Frag) (mg : Str → Option Value) (base : Heap) (k : Nat) (C f : Addr) (fd : FuncData) (ps : List Str) (PI : List Str → List T → Prop) : Prop where
  F : FnOk P w K mg base (L2.CX P w) k f fd ps (spEq (RIns K C PI))
  hs : PySem.W.findIn K (.ref C) "__eq__" = some (some (.ref f))
  hf : PySem.W.isFn K (.ref f) = true
  hb : Binds K fd ps []
theorem passF : Passes (L2.CX X.prog X.w) X fun _ _ _ => False := fun pins σ H s e s' I h => by
  obtain  ⟨_, _, _, _, _, _, _, _, _, _, _, _, z⟩ := h
  exact z.elim
theorem rcG_insP {k : Nat} {C f : Addr} {fd : FuncData} {ps : List Str} {PI : List Str → List T → Prop} (E : EqC X.prog X.w X.K X.mg X.base k C f fd ps PI) : RcG X k (SameP X.K (insP C PI)) := fun A pins s σ H x y u v sb I rx ry d => rcG_ins E.F E.hs E.hf E.hb passF A pins s σ H x y u v sb I rx ry (ins_conv d)
theorem eqG_insP {k : Nat} {C f : Addr} {fd : FuncData} {ps : List Str} {PI : List Str → List T → Prop} (E : EqC X.prog X.w X.K X.mg X.base k C f fd ps PI) : EqG X k (SameP X.K (insP C PI)) := (eqG_ins E.F E.hs E.hf E.hb passF).imp fun x y H d => ins_conv d
open Classical in
/-- d == e, the same -/
noncomputable def eqS (P : T → Prop) (d e : D) (_ : Sto) : Option D := if ∃ t, d = .t t ∧ e = .t t ∧ P t then some (.t (.bl true)) else none
theorem ext_of {K : PySem.W.Frag} {W : Wd} {st : Sto} {H H' : Hp} (R : Rl K W st H) (e : L2.Ext H H') : Ext W H W H' ∧ Rl K W st H' := by
  have E : Ext W H W H' := ⟨List.prefix_refl _, fun a h => .inl h, fun a h => h, fun a h => .inl h, fun a o h _ => e a o h, fun a o h => ⟨o, e a o h⟩, fun a o kvs h => e _ _ h⟩
  refine ⟨E, R.mono E rfl (fun a ha => ?_) (fun a ha h => R.sep a ha h) (fz_ext e R.fz)⟩
  obtain ⟨o, q⟩ := R.mem ha
  rw [q]; exact e a o q
theorem o_same (h : RcG X n (SameP X.K P)) (hr : Room n X.A) : OpR X (compareOp .Eq) (rM X.K (eqS P)) := op_of (op_eqG h hr) fun W st d e x y H Q z R r1 r2 hz q => by
  unfold eqS at hz
  split at hz
  · rename_i c
    obtain ⟨t, rfl, rfl, hp⟩ := c
    cases hz
    refine ⟨⟨W.F, t, hp, R.fz, r1, r2⟩, fun H' ext => ?_⟩
    obtain ⟨E, R'⟩ := ext_of R ext
    exact q W H' _ E R' rfl
  · cases hz
/-- d == e by data, or the same of an own class -/
noncomputable def eqE (P : T → Prop) (d e : D) (st : Sto) : Option D := match eqS P d e st with
  | some z => some z
  | none => eqM d e st
theorem o_eqE (hu : X.A.units + 64 < cLine) (h : RcG X n (SameP X.K P)) (hr : Room n X.A) : OpR X (compareOp .Eq) (rM X.K (eqE P)) := by
  have ho : OpR X (compareOp .Eq) _ := OpR.or (o_same h hr) (o_eq hu)
  refine op_of ho fun W st d e x y H Q z R r1 r2 hz q => ?_
  unfold eqE at hz
  cases e1 : eqS P d e st with
  | some z' => rw [e1] at hz; cases hz; exact .inl ⟨W, st, d, e, R, r1, r2, _, e1, q⟩
  | none => rw [e1] at hz; exact .inr ⟨W, st, d, e, R, r1, r2, _, hz, q⟩
end
section
variable {P : Program} {w : World} {K : PySem.W.Frag}  {mg : Str → Option Value}  {base : Heap} {x qual : Str} {st : Stmt} {f C : Addr} {fd : FuncData} {N ps : List Str} {k : Nat} {g : Env → Sto → Out} {PI : List Str → List T → Prop}
/-- an own == keeps its promise if its body says True of the same -/
theorem eq_def (F : Fun K x qual st f fd) (S : FnScope N ps (defScope st)) {m : Nat} (hn : ps.length = 2) (hm : N.length = m)
    (body : ∀ (cd : Value) (A : Around) (outer : List PySem.Env) (s : Shared) (H : Hp) (E : XK), Room k (A.deeper (envOfC qual (defScope st) s.heap.objs.size f cd)) →
      RSs (cxOf (L2.CX P w) P w K mg base N qual (defScope st) f cd A outer s H E) (WR E) (defBody st) g)
    (hg : ∀ ns ts, PI ns ts → g (startE m [.t (.ins C ns ts), .t (.ins C ns ts)]) [] = .rt (.t (.bl true)) []) : FnOk P w K mg base (L2.CX P w) (k + 1) f fd ps (spEq (RIns K C PI)) := by
  refine Fun.okX F S (fun vs H Q E ⟨a, b, e, _⟩ => by rw [e, hn]; rfl) fun cd A outer s H vs Q E room ⟨a, b, e, ⟨F0, ns, ts, hp, fz, r1, r2⟩, q⟩ => ⟨_, body cd A outer s H E room, ?_⟩
  subst e
  have R0 : Rl K ⟨[], F0⟩ [] H := ⟨rfl, List.nodup_nil, fun n a o h _ => by simp at h, fun a h => absurd h (by simp), fz⟩
  refine ⟨⟨[], F0⟩, startE m [.t (.ins C ns ts), .t (.ins C ns ts)], [], R0, by rw [← hm]; exact startE_rel ⟨_, _, rfl, r1, _, _, rfl, r2, rfl⟩, ?_⟩
  rw [hg ns ts hp]
  intro W' H' v E' R' r'
  cases r'
  exact q H' fun a o h => E'.keep a o h (by simp)
end
end Mi
/-! Mv20 -/
namespace Mi
open L2 PySem PySem.Spec PyProof.Rows
/-! ### [*f, .., g] as a plain list; == over lists of lists that are changed -/
section
variable {X : Cx} {Wx : WX} {es : List Expr} {pos : Pos}
def lstG (g : Env → Sto → Res (List D)) (env : Env) (st : Sto) : Res D := (g env st).bind fun ds st1 => match plains ds with
  | some ts => if ts.length ≤ LIM then .ok (.t (.lst ts)) st1 else .bad
  | none => .bad
theorem re_lstG {g : Env → Sto → Res (List D)} (h : RA X Wx es g) : RE X Wx (.List es pos) (lstG g) := by
  refine PE.conv (pe_lst h) fun σ H Q ⟨W, env, st, R, Ev, h⟩ => ⟨W, env, st, R, Ev, split h (fun ds st1 h1 W1 H1 vs E1 R1 r1 => ?_) fun C fs st' hx => hx⟩
  cases e2 : plains ds with
  | none => rw [e2] at h1; exact h1.elim
  | some ts =>
    rw [e2] at h1
    dsimp only at h1
    split at h1
    · rename_i hl
      have rt := relTs_of e2 r1
      refine ⟨by rw [relTs_len rt]; exact lim_size hl, fun p hp => ?_⟩
      exact h1 (W1.fix p) _ _ (E1.trans (Ext.fix W1 hp)) (R1.fix hp) ⟨p, vs, rfl, .inr rfl, upd_same, (Ext.fix W1 hp).relTs R1 _ _ rt⟩
    · exact h1.elim
end
/-- data, lists of the store at the first n levels too -/
def pyX : Nat → Sto → D → Option PyData
  | 0, st, d => pyD st d
  | n + 1, st, d => match pyD st d with
    | some p => some p
    | none => match d with
      | .r i => (items st (.r i)).bind fun ds => (ds.mapM (pyX n st)).map .list
      | _ => none
theorem dpall_of {K : PySem.W.Frag} {W : Wd} {H : Hp} {g : D → Option PyData} (hg : ∀ d p v, g d = some p → RelD K W H d v → Dp K H v p) : ∀ (ds : List D) (ps : List PyData) (vs : List V), ds.mapM g = some ps → RelDs K W H ds vs → DpAll K H vs ps
  | [], ps, vs, h, r => by cases h; cases r; exact .nil
  | d :: ds, ps, vs, h, r => by
    obtain ⟨v, u, rfl, r1, r2⟩ := r
    rw [List.mapM_cons] at h
    cases e1 : g d with
    | none => rw [e1] at h; cases h
    | some p =>
      rw [e1] at h
      cases e2 : ds.mapM g with
      | none => simp only [e2] at h; cases h
      | some qs =>
        simp only [e2] at h
        cases h
        exact .cons (hg d p v e1 r1) (dpall_of hg ds qs u e2 r2)
theorem dpX_of {K : PySem.W.Frag} {W : Wd} {H : Hp} {st : Sto} (R : Rl K W st H) : ∀ (n : Nat) {d : D} {p : PyData} {v : V}, pyX n st d = some p → RelD K W H d v → Dp K H v p
  | 0, d, p, v, h, r => dpD_of R h r
  | n + 1, d, p, v, h, r => by
    unfold pyX at h
    cases e1 : pyD st d with
    | some q => rw [e1] at h; cases h; exact dpD_of R e1 r
    | none =>
      rw [e1] at h
      cases d with
      | t x => cases h
      | x => cases h
      | r i =>
        dsimp only at h
        cases e2 : items st (.r i) with
        | none => rw [e2] at h; cases h
        | some ds =>
          rw [e2] at h
          have h : (ds.mapM (pyX n st)).map PyData.list = some p := h
          cases e3 : ds.mapM (pyX n st) with
          | none => rw [e3] at h; cases h
          | some ps =>
            rw [e3] at h
            cases h
            obtain ⟨a, e4, rfl⟩ := r
            have e2 : (match st[i]? with | some (.lst ds) => some ds | _ => none) = some ds := e2
            split at e2
            · rename_i ds' q
              cases e2
              obtain ⟨vs, q1, q2⟩ := R.live i a _ e4 q
              exact .lst (SqL.of q1) (dpall_of (fun d p v h r => dpX_of R n h r) ds ps vs e3 q2)
            · cases e2
def eqX (d e : D) (st : Sto) : Option Bool := match eqB d e st with
  | some b => some b
  | none => (pyX 3 st d).bind fun p => (pyX 3 st e).bind fun q => if (SeqAt.shaped p && SeqAt.shaped q) = true then some (PyData.eqv p q) else none
def eqXM (d e : D) (st : Sto) : Option D := (eqX d e st).map bD
theorem o_eqX {X : Cx} (hu : X.A.units + 64 < cLine) : OpR X (compareOp .Eq) (rM X.K eqXM) := by
  have ho : OpR X (compareOp .Eq) _ := OpR.or op_eq (op_eqD hu)
  refine op_of ho fun W st d e x y H Q z R r1 r2 h q => ?_
  unfold eqXM eqX at h
  cases e1 : eqB d e st with
  | some b =>
    rw [e1] at h
    cases h
    rcases eqB_rel R e1 r1 r2 with ⟨h1, h2⟩ | ⟨p, k, h1, h2, h3, h4, h5⟩
    · exact .inl ⟨h1, by rw [h2]; exact q W H _ .refl R rfl⟩
    · exact .inr ⟨p, k, h1, h2, h3, h4, by rw [h5]; exact q W H _ .refl R rfl⟩
  | none =>
    rw [e1] at h
    dsimp only at h
    cases e2 : pyX 3 st d with
    | none => rw [e2] at h; cases h
    | some p =>
      cases e3 : pyX 3 st e with
      | none => rw [e2, e3] at h; cases h
      | some k =>
        rw [e2, e3] at h
        have h : (if (SeqAt.shaped p && SeqAt.shaped k) = true then some (PyData.eqv p k) else none).map bD = some z := h
        split at h
        · rename_i c
          rw [Bool.and_eq_true] at c
          cases h
          exact .inr ⟨p, k, dpX_of R 3 e2 r1, dpX_of R 3 e3 r2, c.1, c.2, q W H _ .refl R rfl⟩
        · cases h
end Mi
/-! Mv21 -/
namespace Mi
open L2 PySem PySem.Spec PyProof.Rows
/-! ### == by an own __eq__ while an exception is handled -/
abbrev Pin := Addr × Obj
/-- what a def that lets nothing out promises there: a pin keeps the exception's object -/
structure FnQ (P : Program) (w : World) (K : PySem.W.Frag) (mg : Str → Option Value) (base : Heap) (k : Nat) (f : Addr)
    (fd : FuncData) (ps : List Str) (sp : Sp) : Prop where
  len  : ∀ vs H Q E, sp vs H Q E → vs.length = ps.length
  go : ∀ (p : Pin) (A : Around) (o : List PySem.Env) (s : Shared) (H : Hp) (g : Args) (us : List Value) (vs : List V) (Q : VK) (E : XK),
    L2H.RoomH k A → L2H.PinOk o H s p → Env0 P w K mg base A o s H → BindsTo s fd g (ps.zip us) → Vals vs us → sp vs H Q E →
    codeAny (model P w) A (.call (.ref f) g) (CR (L2.CX P w) o P w H s Q E) s
section
variable {P : Program} {w : World} {K : PySem.W.Frag} {mg : Str → Option Value} {base : Heap} {x qual : Str} {st : Stmt} {f C : Addr} {fd : FuncData} {N ps : List Str} {k : Nat} {sp : Sp}
/--  the context of its body -/
abbrev cxQ (P : Program) (w : World) (K : PySem.W.Frag) (mg : Str → Option Value) (base : Heap) (N : List Str) (qual : Str) (sc : Scope) (f : Addr) (cd : Value) (A : Around)
    (o : List PySem.Env) (s : Shared) (H : Hp) (E : XK) (p : Pin) : Cx := L2H.cxH (L2.CX P w) P w K mg base N qual sc f cd A o s H E p
theorem fn_Q (F : Fun K x qual st f fd) (S : FnScope N ps (defScope st)) (len : ∀ vs H Q E, sp vs H Q E → vs.length = ps.length)
    (hb : ∀ (cd : Value) (p : Pin) (A : Around) (o : List PySem.Env) (s : Shared) (H : Hp) (vs : List V) (Q : VK) (E : XK),
      L2H.RoomH k (A.deeper (envOfC qual (defScope st) s.heap.objs.size f cd)) → sp vs H Q E →
      ∃ t, PSs (cxQ P w K mg base N qual (defScope st) f cd A o s H E p) (defBody st) t ∧ t { nx := fun _ H' => Q .non H', rt := Q } (L2.start N vs) H) :
    FnQ P w K mg base (k + 1) f fd ps sp := by
  obtain ⟨c0, d0, kV, doc, pm, an, cd, ct, sl, e0, lk, hc⟩ := F.ex
  subst e0
  refine ⟨len, fun p A o s H g us vs Q E hr hp en bd r hs => ?_⟩
  have n1 := len _ _ _ _ hs
  have inK : K.In s.heap := en.mod.kin.keeps fun b ob e => (en.bs b ob e).1
  have nl : s.heap.NoLimit := en.mod.nolimit.keeps fun b ob e => (en.bs b ob e).1
  have kinds : ∀ y ∈ ps.zip us, (defScope st).names.lookup y.1 = some .local ∨ ((defScope st).names.lookup y.1 = some .cell ∧ ((cellsFrom (s.heap.objs.size + 1) (defScope st).names []).lookup y.1).isSome = true) := by
    intro y hy
    have m1 : y.1 ∈ ps := (List.of_mem_zip (a := y.1) (b := y.2) hy).1
    cases S.par y.1 m1 with
    | inl z => exact .inl z
    | inr z => exact .inr ⟨z, PySem.W.cellsFrom_some _ _ _ (.inl z)⟩
  refine codeAny_call_function hr.depth (inK _ _ lk) rfl S.co S.gen rfl (PySem.W.codeRec_of inK hc) (bd _ _ _ _ ?_)
  refine wpAny_newFunctionEnv_cells S.kind kinds fun env he s1 ic => ?_
  cases he
  refine ⟨nl.keeps ic.toInCall.keep, codeAny_func ?_⟩
  obtain ⟨t, ht, q⟩ := hb cd p A o s H vs Q E (hr.deeper _) hs
  have J := L2H.inv_startH (CX := L2.CX P w) (cd := cd) (E := E) S hp en n1 r ic
  refine wpAny_mono (ht.run [] s1 _ H _ J q) (fun fl s2 z => ?_) fun _ _ z => z
  cases fl with
  | ret u =>
    obtain ⟨v, σ2, H2, I2, rv, q2⟩ := z
    exact ⟨v, H2, I2.os, I2.bare, I2.base, I2.hok, rv, q2⟩
  | next =>
    obtain ⟨σ2, H2, I2, q2⟩ := z
    exact ⟨V.non, H2, I2.os, I2.bare, I2.base, I2.hok, rfl, q2⟩
  | brk => exact z.choose_spec.choose_spec.2.elim
  | cont => exact z.choose_spec.choose_spec.2.elim
end
/-- below a body, with room -/
structure SubQ (X : Cx) (n : Nat) (A : Around) : Prop where
  rm : L2H.RoomH n A
  fr : A.frames = X.A.frames
theorem SubQ.below {X : Cx} {n : Nat} {A : Around} (h : SubQ X (n + 1) A) : SubQ X n A.in1 :=
  ⟨⟨by have := h.rm.dp; show A.depth + 3 * n + 5 < _; omega, by have := h.rm.un; show A.units + 1 + 16 * n + 200 < _; omega⟩, h.fr⟩
theorem SubQ.mono {X : Cx} {n m : Nat} {A : Around} (h : SubQ X n A) (l : m ≤ n) : SubQ X m A := ⟨h.rm.mono l, h.fr⟩
theorem SubQ.lt {X : Cx} {n : Nat} {A : Around} (h : SubQ X n A) : A.units < cLine := by have := h.rm.un; omega
/-- what it leaves -/
def AfterQ (X : Cx) (pins : List Pin) (σ : L2.St) (H : Hp) (s' : Shared) : Prop := ∃ H', Inv X pins σ H' s' ∧ L2.Ext H H'
def EqQ (X : Cx) (n : Nat) (D : Eqv) : Prop := ∀ (A : Around) (pins : List Pin) (s : Shared) (σ : L2.St) (H : Hp) (x y : V) (u v : Value),
  SubQ X n A → Inv X pins σ H s → RelV x u → RelV y v → D x y H → wpAny (model X.prog X.w) A (eqBool u v) (fun r s' => r = true ∧ AfterQ X pins σ H s') X.xe s
def RcQ (X : Cx) (n : Nat) (D : Eqv) : Prop := ∀ (A : Around) (pins : List Pin) (s : Shared) (σ : L2.St) (H : Hp) (x y : V) (u v : Value),
  SubQ X n A → Inv X pins σ H s → RelV x u → RelV y v → D x y H → wpAny (model X.prog X.w) A (richCompare .Eq u v) (fun r s' => r = .bool true ∧ AfterQ X pins σ H s') X.xe s
section
variable {X : Cx} {n m : Nat} {D D' : Eqv} {P P' : T → Prop}
theorem EqQ.mono (h : EqQ X n D) (l : n ≤ m) : EqQ X m D := fun A pins s σ H x y u v sb => h A pins s σ H x y u v (sb.mono l)
theorem RcQ.mono (h : RcQ X n D) (l : n ≤ m) : RcQ X m D := fun A pins s σ H x y u v sb => h A pins s σ H x y u v (sb.mono l)
theorem EqQ.imp (h : EqQ X n D) (f : ∀ x y H, D' x y H → D x y H) : EqQ X n D' := fun A pins s σ H x y u v sb I a b d => h A pins s σ H x y u v sb I a b (f _ _ _ d)
theorem eqQ_flat : EqQ X 0 (SameP X.K flatT) := by
  intro A pins s σ H x y u v sb I rx ry ⟨F, t, p, _, r1, r2⟩
  have z : flatV x = true ∧ flatV y = true ∧ eqV x y = true := by
    cases t with
    | non => cases r1; cases r2; exact ⟨rfl, rfl, rfl⟩
    | bl b => cases r1; cases r2; exact ⟨rfl, rfl, by simp [eqV]⟩
    | int b => cases r1; cases r2; exact ⟨rfl, rfl, by simp [eqV]⟩
    | str b => cases r1; cases r2; exact ⟨rfl, rfl, by simp [eqV]⟩
    | _ => exact p.elim
  have q := eqAt_V (A := A) (s := s) rx ry z.1 z.2.1
  rw [z.2.2] at q
  exact  q X.prog X.w X.xe _ ⟨rfl, H, I, Ext.rfl'⟩
theorem eqQ_of (h : RcQ X n D) (hr : ∀ x y H, D x y H → ∃ a b, x = .ref a ∧ y = .ref b) : EqQ X n D := by
  intro  A pins s σ H x y u v sb I rx ry d
  obtain ⟨a, b, e1, e2⟩ := hr _ _ _ d
  subst e1 e2
  cases rx
  cases ry
  by_cases ab : a = b
  · subst ab
    exact  SeqAt.EqAt.same (A := A) (s := s) (.ref a) X.prog X.w X.xe _ ⟨rfl, H, I, Ext.rfl'⟩
  · refine GQ.eqBool_refG ab (wpAny_mono (h A pins s σ H (.ref a) (.ref b) _ _ sb I rfl rfl d) (fun r s' q => ?_) fun _ _ z => z)
    exact ⟨true, q.1, rfl, q.2⟩
theorem rcQ_tup (h : EqQ X n (SameP X.K P)) : RcQ X (n + 1) (SameP X.K (tupP P)) := by
  intro  A pins s σ H x y u v sb I rx ry d
  obtain ⟨a, b, xs, ys, e1, e2, ha, hb, pr⟩ := tup_conv d
  subst e1 e2
  cases rx
  cases ry
  obtain ⟨us, r1, t1, _⟩ := I.tuple ha
  obtain ⟨ws, r2, t2, _⟩ := I.tuple hb
  have sz : us.toArray.size = ws.toArray.size := by
    rw  [List.size_toArray, List.size_toArray, ← r1.length, ← r2.length]
    exact pr.1
  refine GQ.rc_tupG sz sb.lt (fun _ s' => AfterQ X pins σ H s') t1 t2 (fun i h1 h2 s' l => ?_) (fun s' l => ⟨rfl, l⟩) ⟨H, I, Ext.rfl'⟩
  obtain ⟨H1, I1, x1⟩ := l
  have j1 : i < us.length := by simpa using h1
  have j2 : i < ws.length := by simpa using h2
  have k1 : i < xs.length := by rw [r1.length]; exact j1
  have k2 : i < ys.length := by rw [r2.length]; exact j2
  obtain ⟨u1, m1, v1⟩ := r1.get (List.getElem?_eq_getElem k1)
  obtain ⟨u2, m2, v2⟩ := r2.get (List.getElem?_eq_getElem k2)
  rw [List.getElem?_eq_getElem j1] at m1
  rw [List.getElem?_eq_getElem j2] at m2
  cases m1
  cases m2
  have go := h A.in1 pins s' σ H1 _ _ _ _ sb.below I1 v1 v2 (mon_same _ _ _ _ x1 (pr.2 i _ _ (List.getElem?_eq_getElem k1) (List.getElem?_eq_getElem k2)))
  refine wpAny_mono go (fun r s2 q => ?_) fun _ _ z => z
  obtain ⟨c, H2, I2, x2⟩ := q
  exact ⟨c, H2, I2, x1.trans x2⟩
theorem ref_tup {x y : V} {H : Hp} (d : SameP X.K (tupP P) x y H) : ∃ a b, x = .ref a ∧ y = .ref b := by
  obtain ⟨a, b, _, _, e1, e2, _⟩ := tup_conv d
  exact ⟨a, b, e1, e2⟩
theorem eqQ_tup (h : EqQ X n (SameP X.K P)) : EqQ X (n + 1) (SameP X.K (tupP P)) := eqQ_of (rcQ_tup h) fun _ _ _ d => ref_tup d
theorem eqQ_or (h : EqQ X n (SameP X.K P)) (g : EqQ X n (SameP X.K P')) : EqQ X n (SameP X.K fun t => P t ∨ P' t) := fun A pins s σ H x y u v sb I rx ry ⟨F, t, p, r⟩ =>
  p.elim (fun p => h A pins s σ H x y u v sb I rx ry ⟨F, t, p, r⟩) fun p => g A pins s σ H x y u v sb I rx ry ⟨F, t, p, r⟩
theorem eqQ_data : ∀ n : Nat, EqQ X n (SameP X.K (DataN n))
  | 0 => eqQ_flat
  | n + 1 => eqQ_or ((eqQ_data n).mono (Nat.le_succ n)) (eqQ_tup (eqQ_data n))
/-- the module's facts of an own == -/
structure EqF (P : Program) (w : World) (K : PySem.W.Frag) (mg : Str → Option Value) (base : Heap) (k : Nat) (C f : Addr) (fd : FuncData) (ps : List Str) (PI : List Str → List T → Prop) : Prop where
  F : FnQ P w K mg base k f fd ps (spEq (RIns K C PI))
  hs : PySem.W.findIn K (.ref C) "__eq__" = some (some (.ref f))
  hf : PySem.W.isFn K (.ref f) = true
  hb : Binds K fd ps []
theorem rcQ_ins {k : Nat} {C f : Addr} {fd : FuncData} {ps : List Str} {PI : List Str → List T → Prop} (E : EqF X.prog X.w X.K X.mg X.base k C f fd ps PI) {p : Pin} (hp : p ∈ X.pn) : RcQ X k (SameP X.K (insP C PI)) := by
  intro  A pins s σ H x y u v sb I rx ry d
  obtain ⟨a, b, dx, dy, fs, gs, e1, e2, ha, hb, hr⟩ := ins_conv d
  subst e1 e2
  cases rx
  cases ry
  obtain ⟨_, J, _⟩ := ins_get I.hok ha
  obtain ⟨_, J', _⟩ := ins_get I.hok hb
  obtain ⟨_, L, _⟩ := J.look
  obtain ⟨_, L', _⟩ := J'.look
  obtain ⟨_, hF⟩ := I.fr
  refine PySem.W.cmp_K (op := .Eq) (tb := .ref C) sb.lt hF I.ok.mod.kin L L'.type (by simp [PySem.W.notFirst]) E.hs E.hf ?_
  have hsp : spEq (RIns X.K C PI) [.ref a, .ref b] H (fun v H' => v = .bl true ∧ L2.Ext H H') fun _ _ _ => False := ⟨a, b, rfl, hr, fun H' e => ⟨rfl, e⟩⟩
  have i0 := I.env0
  have en : Env0 X.prog X.w X.K X.mg X.base A X.stack s H := ⟨by rw [sb.fr]; exact i0.frames, i0.mod, i0.bs, i0.bsz, i0.funs, i0.frf, i0.hok, i0.bare⟩
  have nl := E.F.len _ _ _ _ hsp
  have vv : Vals [V.ref a, V.ref b] [Value.ref a, Value.ref b] := .cons rfl (.cons rfl .nil)
  have  P1 := I.pin p (List.mem_append_left _ hp)
  have pin : L2H.PinOk X.stack H s p := ⟨P1.1, P1.2.1, fun hm => (List.mem_cons.mp (I.stkSub p.1 hm)).elim P1.2.2.1 P1.2.2.2.1, P1.2.2.2.2⟩
  have bd := E.hb s [.ref a, .ref b] I.kIn (by simpa using nl)
  rw [List.append_nil] at bd
  refine wpAny_call (codeAny_mono (E.F.go p A X.stack s H ⟨[.ref a, .ref b], []⟩ _ _ _ _ sb.rm pin en bd vv hsp) fun r s2 q => ?_)
  cases r with
  | error e => exact passF pins σ H s e s2 I q
  | ok fl =>
    cases fl with
    | ret z =>
      obtain ⟨v2, H2, I2, rz, ez, ex⟩ := I.after q
      subst ez
      cases rz
      exact ⟨rfl, H2, I2, ex⟩
    | next => exact q.elim
    | brk => exact q.elim
    | cont => exact q.elim
theorem eqQ_ins {k : Nat} {C f : Addr} {fd : FuncData} {ps : List Str} {PI : List Str → List T → Prop} (E : EqF X.prog X.w X.K X.mg X.base k C f fd ps PI) {p : Pin} (hp : p ∈ X.pn) : EqQ X k (SameP X.K (insP C PI)) :=
  eqQ_of (rcQ_ins E hp) fun _ _ _ d => by
    obtain ⟨a, b, _, _, _, _, e1, e2, _⟩ := ins_conv d
    exact ⟨a, b, e1, e2⟩
theorem op_eqQ (h : RcQ X n D) (hr : L2H.RoomH n X.A) : OpR X (compareOp .Eq) (rEqG D) := by
  intro pins s σ H x y v u Q I rx ry ⟨d, q⟩
  show  wpAny (model X.prog X.w) X.A (richCompare .Eq v u) (EP X pins σ Q) X.xe s
  refine wpAny_mono (h X.A pins s σ H x y v u ⟨hr, rfl⟩ I rx ry d) (fun r s2 z => ?_) fun _ _ z => z
  obtain ⟨e, H2, I2, x2⟩ := z
  subst e
  exact ⟨.bl true, H2, I2, rfl, q H2 x2⟩
theorem o_sameQ (h : RcQ X n (SameP X.K P)) (hr : L2H.RoomH n X.A) : OpR X (compareOp .Eq) (rM X.K (eqS P)) := op_of (op_eqQ h hr) fun W st d e x y H Q z R r1 r2 hz q => by
  unfold eqS at hz
  split at hz
  · rename_i c
    obtain ⟨t, rfl, rfl, hp⟩ := c
    cases hz
    refine ⟨⟨W.F, t, hp, R.fz, r1, r2⟩, fun H' ext => ?_⟩
    obtain ⟨E, R'⟩ := ext_of R ext
    exact q W H' _ E R' rfl
  · cases hz
theorem o_eqQ (hu : X.A.units + 64 < cLine) (h : RcQ X n (SameP X.K P)) (hr : L2H.RoomH n X.A) : OpR X (compareOp .Eq) (rM X.K (eqE P)) := by
  have ho : OpR X (compareOp .Eq) _ := OpR.or (o_sameQ h hr) (o_eq hu)
  refine op_of ho fun W st d e x y H Q z R r1 r2 hz q => ?_
  unfold eqE at hz
  cases e1 : eqS P d e st with
  | some z' => rw [e1] at hz; cases hz; exact .inl ⟨W, st, d, e, R, r1, r2, _, e1, q⟩
  | none => rw [e1] at hz; exact .inr ⟨W, st, d, e, R, r1, r2, _, hz, q⟩
end
section
variable {P : Program} {w : World} {K : PySem.W.Frag} {mg : Str → Option Value} {base : Heap} {x qual : Str} {st : Stmt} {f C : Addr} {fd : FuncData} {N ps : List Str} {k : Nat} {g : Env → Sto → Out} {PI : List Str → List T → Prop}
/-- an own == keeps its promise there if its body says True of the same -/
theorem eq_defQ (F : Fun K x qual st f fd) (S : FnScope N ps (defScope st)) {m : Nat} (hn : ps.length = 2) (hm : N.length = m)
    (body : ∀ (cd : Value) (p : Pin) (A : Around) (o : List PySem.Env) (s : Shared) (H : Hp) (E : XK), L2H.RoomH k (A.deeper (envOfC qual (defScope st) s.heap.objs.size f cd)) →
      RSs (cxQ P w K mg base N qual (defScope st) f cd A o s H E p) (WR E) (defBody st) g)
    (hg : ∀ ns ts, PI ns ts → g (startE m [.t (.ins C ns ts), .t (.ins C ns ts)]) [] = .rt (.t (.bl true)) []) : FnQ P w K mg base (k + 1) f fd ps (spEq (RIns K C PI)) := by
  refine fn_Q F S (fun vs H Q E ⟨a, b, e, _⟩ => by rw [e, hn]; rfl) fun cd p A o s H vs Q E room ⟨a, b, e, ⟨F0, ns, ts, hp, fz, r1, r2⟩, q⟩ => ⟨_, body cd p A o s H E room, ?_⟩
  subst e
  have R0 : Rl K ⟨[], F0⟩ [] H := ⟨rfl, List.nodup_nil, fun n a o h _ => by simp at h, fun a h => absurd h (by simp), fz⟩
  refine ⟨⟨[], F0⟩, startE m [.t (.ins C ns ts), .t (.ins C ns ts)], [], R0, by rw [← hm]; exact startE_rel ⟨_, _, rfl, r1, _, _, rfl, r2, rfl⟩, ?_⟩
  rw [hg ns ts hp]
  intro W' H' v E' R' r'
  cases r'
  exact q H' fun a o h => E'.keep a o h (by simp)
end
/-! ### a class whose one attribute is data, and a class whose first attribute holds such instances -/
def PDat (ns : List Str) (ts : List T) : Prop := ∃ u, ns = [("parts" : Str)] ∧ ts = [u] ∧ eqM (.t u) (.t u) [] = some (bD true)
def PPts (C : Addr) : T → Prop := tupP fun t => tupP (insP C PDat) t ∨ DataN 12 t
def PHold (C : Addr) (ns : List Str) (ts : List T) : Prop := ∃ u ns' ts', ns = ("parts" : Str) :: ns' ∧ ts = u :: ts' ∧ PPts C u
theorem rcQ_pts {X : Cx} {k : Nat} {C f : Addr} {fd : FuncData} {ps : List Str} (E : EqF X.prog X.w X.K X.mg X.base k C f fd ps PDat) (hk : k ≤ 12) {p : Pin} (hp : p ∈ X.pn) : RcQ X 14 (SameP X.K (PPts C)) :=
  rcQ_tup (eqQ_or (eqQ_tup ((eqQ_ins E hp).mono hk)) ((eqQ_data 12).mono (by omega)))
theorem retAnd {fa fb : Env → Sto → Res D} {env : Env} {st : Sto} (a : fa env st = .ok (.t (.bl true)) st) (b : fb env st = .ok (.t (.bl true)) st) : retM (andV fa fb) env st = .rt (.t (.bl true)) st := by
  have z : andV fa fb env st = .ok (.t (.bl true)) st := by
    unfold andV
    rw [a]
    exact b
  unfold retM
  rw [z]
  rfl
theorem callB1 {g : List D → Sto → Option D} {fs : List (Env → Sto → Res D)} {env : Env} {st : Sto} {ds : List D} {z : D} (a : argsM fs env st = .ok ds st) (b : g ds st = some z) : callB g fs env st = .ok z st := by
  unfold callB
  rw [a]
  show optR (g ds st) st = _
  rw [b]
  rfl
theorem bin1 {g : D → D → Sto → Option D} {fa fb : Env → Sto → Res D} {env : Env} {st : Sto} {x y z : D} (a : fa env st = .ok x st) (b : fb env st = .ok y st) (c : g x y st = some z) : Mi.bin g fa fb env st = .ok z st := by
  unfold Mi.bin
  rw [a]
  show ((fb env st).bind fun y st2 => optR (g x y st2) st2) = _
  rw [b]
  show optR (g x y st) st = _
  rw [c]
  rfl
theorem fld1 {cs : Addr → Bool} {n : Str} {fo : Env → Sto → Res D} {env : Env} {st : Sto} {C : Addr} {ns : List Str} {ts : List T} {u : T} (a : fo env st = .ok (.t (.ins C ns ts)) st) (c : cs C = true) (l : (ns.zip ts).lookup n = some u) : fldM cs n fo env st = .ok (.t u) st := by
  unfold fldM
  rw [a]
  show (if cs C = true then optR (((ns.zip ts).lookup n).map D.t) st else .bad) = _
  rw [if_pos c, l]
  rfl
theorem lkH {n : Str} {ns : List Str} {u : T} {ts : List T} : (List.zip (n :: ns) (u :: ts)).lookup n = some u := by
  show ((n, u) :: List.zip ns ts).lookup n = some u
  simp [List.lookup]
end Mi
/-! Mv22 -/
namespace Mi
open L2 PySem PySem.Spec PyProof.Rows
/-! ### methods of own objects, those that are changed too -/
theorem relKs_none {K : PySem.W.Frag} {W : Wd} {H : Hp} {f : Str} : ∀ {fs : List (Str × D)} {vs : List (Str × V)}, RelKs K W H fs vs → fs.lookup f = none → vs.lookup f = none
  | [], vs, h, _ => by cases h; rfl
  | (m, d) :: r, vs, h, e => by
    obtain ⟨v, u, rfl, _, b⟩ := h
    by_cases hn : f = m
    · subst hn; simp [List.lookup] at e
    · have hnm : (f == m) = false := by simpa using hn
      have e : r.lookup f = none := by rw [← e]; simp [List.lookup, hnm]
      rw [← relKs_none b e]; simp [List.lookup, hnm]
theorem relZ_none {K : PySem.W.Frag} {F : Addr → Prop} {H : Hp} {f : Str} : ∀ {ns : List Str} {ts : List T} {vs : List V}, RelTs K F H ts vs → (ns.zip ts).lookup f = none → (ns.zip vs).lookup f = none
  | [], ts, vs, _, _ => rfl
  | m :: ns, [], vs, h, _ => by cases h; rfl
  | m :: ns, t :: ts, vs, h, e => by
    obtain ⟨v, u, rfl, _, b⟩ := h
    have e : ((m, t) :: ns.zip ts).lookup f = none := e
    show ((m, v) :: ns.zip u).lookup f = none
    by_cases hn : f = m
    · subst hn; simp [List.lookup] at e
    · have hnm : (f == m) = false := by simpa using hn
      have e : (ns.zip ts).lookup f = none := by rw [← e]; simp [List.lookup, hnm]
      rw [← relZ_none b e]; simp [List.lookup, hnm]
/-- an instance of C, m is no attribute of its own -/
def isInst (C : Addr) (m : Str) (st : Sto) (d : D) : Bool := match d with
  | .r n => (match st[n]? with
    | some (.ins C' fs) => decide (C' = C) && (fs.lookup m).isNone
    | _ => false)
  | .t (.ins C' ns ts) => decide (C' = C) && ((ns.zip ts).lookup m).isNone
  | _ => false
theorem isInst_rel {K : PySem.W.Frag} {W : Wd} {H : Hp} {st : Sto} {C : Addr} {m : Str} (R : Rl K W st H) {d : D} {v : V} (h : isInst C m st d = true) (r : RelD K W H d v) : ∃ a dx fs, v = .ref a ∧ H a = some (.ins C dx fs) ∧ fs.lookup m = none := by
  unfold isInst at h
  split at h
  · rename_i n
    split at h
    · rename_i C' fs q
      rw [Bool.and_eq_true, decide_eq_true_eq, Option.isNone_iff_eq_none] at h
      obtain ⟨rfl, e⟩ := h
      obtain ⟨a, ea, rfl⟩ := r
      obtain ⟨dx, vs, h1, h2⟩ := R.live n a _ ea q
      exact ⟨a, dx, vs, rfl, h1, relKs_none h2 e⟩
    · cases h
  · rename_i C' ns ts
    rw [Bool.and_eq_true, decide_eq_true_eq, Option.isNone_iff_eq_none] at h
    obtain ⟨rfl, e⟩ := h
    obtain ⟨a, dx, vs, rfl, _, h1, _, h2⟩ := r
    exact ⟨a, dx, _, rfl, h1, relZ_none h2 e⟩
  · cases h
section
variable {X : Cx} {Wx : WX} {k : Nat} {f g C : Addr} {fd : FuncData} {ps : List Str} {sp : Sp} {x m : Str} {p pos apos : Pos} {e o : Expr} {es : List Expr} {fo : Env → Sto → Res D} {fs : List (Env → Sto → Res D)}
/-- o.m(..), o an instance of the class at C -/
def methO (C : Addr) (m : Str) (F : List D → Sto → Res D) (fo : Env → Sto → Res D) (fa : Env → Sto → Res (List D)) (env : Env) (st : Sto) : Res D := (fo env st).bind fun d s => if isInst C m s d = true then (fa env s).bind fun ds s2 => F (d :: ds) s2 else .bad
theorem re_meth {n : Nat} {F : List D → Sto → Res D} {pl : Sem Bool} (c : Cls X.K C) (hm : Meth X.K C m g) (G : FnG X.prog X.w X.K X.mg X.base k g fd ps (spG X.K n F)) (room : Room k X.A) (gd : X.A.guards = some []) (tk : Takes X Wx) (hb : Binds X.K fd ps [])
    (ho : RE X Wx o fo) (ha : RA X Wx (e :: es) (argsM fs)) (hl : fs.length + 1 = n := by rfl)
    (hst  : starEach (e :: es) X.env = (false, eval e X.env) :: starEach es X.env := by rfl) (hpl : (backTo pos (starEach es X.env)).any (·.1) = false := by rfl)
    (ht  : eval (.Call (.Attribute o m apos) (e :: es) [] pos) X.env = (do
      let ov ← eval o X.env
      standAt apos.atName
      let  (f, first) ← holding [ov] (getMethod ov m pl)
      callWith  pos f first (backTo pos (starEach (e :: es) X.env)) (backToKw pos (keywordEach [] X.env))) := by rfl) :
    RE X Wx (.Call (.Attribute o m apos) (e :: es) [] pos) (methO C m F fo (argsM fs)) := by
  refine ⟨fun pins s σ H Q I ⟨W, env, st, R, Ev, h⟩ => ?_⟩
  refine PySem.W.methodCall_KW (pl := pl) (thn (ho.run pins s σ H (fun x H1 => ∃ a dx fl W1 s1 d, x = .ref a ∧ H1 a = some (.ins C dx fl) ∧ fl.lookup m = none ∧ Ext W H W1 H1 ∧ Rl X.K W1 s1 H1 ∧ RelD X.K W1 H1 d x ∧ ((argsM fs env s1).bind fun ds s2 => F (d :: ds) s2).Holds (OkD X.K W H Q) (OkX X.K W H fun c o H' => Wx c o σ H')) I
    ⟨W, env, st, R, Ev, split h (fun d s1 h1 W1 H1 v E1 R1 r1 => ?_) fun _ _ _ hx => hx⟩) fun u s1 ⟨x, H1, I1, rx, a, dx, fl, W1, st1, d, ex, ea, l, E1, R1, rd, h1⟩ => ?_) ht
  · split at h1
    · rename_i c
      obtain ⟨a, dx, fl, rfl, h2, h3⟩ := isInst_rel R1 c r1
      exact ⟨a, dx, fl, W1, s1, d, rfl, h2, h3, E1, R1, r1, h1⟩
    · exact h1.elim
  · subst ex
    obtain  rfl : u = Value.ref a := rx
    refine  getmeth_ok I1 ea c hm l ?_
    refine PySem.W.callWith_K (first := [.ref a]) (h₀ := X.base) I.ok.mod.kin hm.kp (thn (ha.run pos pins s1 σ H1 (fun vs H2 => spG X.K n F (.ref a :: vs) H2 Q fun c o H' => Wx c o σ H') I1
      ⟨W1, env, st1, R1, Ev.mono E1 R, splitA h1 (fun ds st2 e0 h2 W2 H2 vs E2 R2 r2 => ⟨W2, st2, d :: ds, R2, ⟨_, _, rfl, E2.relD R1 rd, r2⟩, by rw [List.length_cons, argsM_len e0, hl], Res.Holds.imp h2 (fun _ _ q => q.mono (E1.trans E2)) fun _ _ _ q => q.mono (E1.trans E2)⟩) fun _ _ _ hx => hx.mono E1⟩) fun us s2 ⟨vs, H2, I2, r, q2⟩ => ⟨I2.kIn, ?_⟩) hst hpl
    exact run_g (us := .ref a :: us) (vs := .ref a :: vs) G room gd tk hb I2 (.cons rfl r) q2
theorem re_meth0 {F : List D → Sto → Res D} {pl : Sem Bool} (c : Cls X.K C) (hm : Meth X.K C m g) (G : FnG X.prog X.w X.K X.mg X.base k g fd ps (spG X.K 1 F)) (room : Room k X.A) (gd : X.A.guards = some []) (tk : Takes X Wx) (hb : Binds X.K fd ps [])
    (ho : RE X Wx o fo)
    (ht  : eval (.Call (.Attribute o m apos) [] [] pos) X.env = (do
      let ov ← eval o X.env
      standAt apos.atName
      let  (f, first) ← holding [ov] (getMethod ov m pl)
      callWith  pos f first (backTo pos (starEach [] X.env)) (backToKw pos (keywordEach [] X.env))) := by rfl) :
    RE X Wx (.Call (.Attribute o m apos) [] [] pos) (methO C m F fo (argsM [])) := by
  refine ⟨fun pins s σ H Q I ⟨W, env, st, R, Ev, h⟩ => ?_⟩
  refine PySem.W.methodCall_KW (pl := pl) (thn (ho.run pins s σ H (fun x H1 => ∃ a dx fl, x = .ref a ∧ H1 a = some (.ins C dx fl) ∧ fl.lookup m = none ∧ spG X.K 1 F [.ref a] H1 Q fun c o H' => Wx c o σ H') I
    ⟨W, env, st, R, Ev, split h (fun d s1 h1 W1 H1 v E1 R1 r1 => ?_) fun _ _ _ hx => hx⟩) fun u s1 ⟨x, H1, I1, rx, a, dx, fl, ex, ea, l, q⟩ => ?_) ht
  · split at h1
    · rename_i c
      obtain ⟨a, dx, fl, rfl, h2, h3⟩ := isInst_rel R1 c r1
      exact ⟨a, dx, fl, rfl, h2, h3, W1, s1, [d], R1, ⟨_, _, rfl, r1, rfl⟩, rfl, Res.Holds.imp (show (F [d] s1).Holds _ _ from h1) (fun _ _ q => q.mono E1) fun _ _ _ q => q.mono E1⟩
    · exact h1.elim
  · subst ex
    obtain  rfl : u = Value.ref a := rx
    refine  getmeth_ok I1 ea c hm l ?_
    exact PySem.W.callWith_K0 (first := [.ref a]) I1.kIn hm.kp (run_g (us := [.ref a]) (vs := [.ref a]) G room gd tk hb I1 (.cons rfl .nil) q)
/-- o.n, a property of the class, of any object of it; it raises nothing -/
def propO (C : Addr) (n : Str) (F : List D → Sto → Res D) (fo : Env → Sto → Res D) (env : Env) (st : Sto) : Res D := (fo env st).bind fun d s => if isInst C n s d = true then (match F [d] s with
    | .ok d' s' => .ok d' s'
    | _ => .bad) else .bad
theorem re_propO {n : Str} {g pa : Addr} {sf : Str} {F : List D → Sto → Res D} (c : Cls X.K C) (hp : PropOf X.K C n pa g) (G : FnG X.prog X.w X.K X.mg X.base k g fd [sf] (spG X.K 1 F)) (room : Room (k + 1) X.A) (gd : X.A.guards = some []) (hb : Binds X.K fd [sf] []) (ho : RE X Wx o fo)
    (hab : attributeBase o n X.env (eval o X.env) = eval o X.env := by rfl) : RE X Wx (.Attribute o n pos) (propO C n F fo) := by
  refine ⟨fun pins s σ H Q I ⟨W, env, st, R, Ev, h⟩ => ?_⟩
  refine attr_of hab (thn (ho.run pins s σ H (fun x H1 => ∃ a dx fl, x = .ref a ∧ H1 a = some (.ins C dx fl) ∧ spG X.K 1 F [.ref a] H1 Q fun _ _ _ => False) I ⟨W, env, st, R, Ev, split h (fun d s h1 W1 H1 v E1 R1 r1 => ?_) fun _ _ _ hx => hx⟩) fun u s1 ⟨x, H1, I1, rx, a, dx, fl, ex, ea, q⟩ => ?_)
  · split at h1
    · rename_i c
      obtain ⟨a, dx, fl, rfl, h2, h3⟩ := isInst_rel R1 c r1
      refine ⟨a, dx, fl, rfl, h2, W1, s, [d], R1, ⟨_, _, rfl, r1, rfl⟩, rfl, ?_⟩
      cases q : F [d] s with
      | ok d' s' => rw [q] at h1; exact OkD.mono h1 E1
      | exc => rw [q] at h1; exact h1.elim
      | bad => rw [q] at h1; exact h1.elim
    · exact h1.elim
  · subst ex
    obtain  rfl : u = Value.ref a := rx
    exact getprop_g I1 ea c hp G room gd hb q
end
/-! ### == of two instances whose first attribute is the same -/
def PairI (K : PySem.W.Frag) (C : Addr) (PI : List Str → List T → List T → Prop) : Eqv := fun x y H => ∃ (F : Addr → Prop) (ns : List Str) (ts us : List T), PI ns ts us ∧ Fz F H ∧ RelT K F H (.ins C ns ts) x ∧ RelT K F H (.ins C ns us) y
def RPair (K : PySem.W.Frag) (C : Addr) (PI : List Str → List T → List T → Prop) (a b : Addr) (H : Hp) : Prop := PairI K C PI (.ref a) (.ref b) H
structure EqC2 (P : Program) (w : World) (K : PySem.W.Frag) (mg : Str → Option Value) (base : Heap) (k : Nat) (C f : Addr) (fd : FuncData) (ps : List Str) (PI : List Str → List T → List T → Prop) : Prop where
  F : FnOk P w K mg base (L2.CX P w) k f fd ps (spEq (RPair K C PI))
  hs : PySem.W.findIn K (.ref C) "__eq__" = some (some (.ref f))
  hf : PySem.W.isFn K (.ref f) = true
  hb : Binds K fd ps []
section
variable {X : Cx} {n k : Nat} {C f : Addr} {fd : FuncData} {ps : List Str} {PI : List Str → List T → List T → Prop}
theorem pair_conv {x y : V} {H : Hp} (d : PairI X.K C PI x y H) : DIns C (RPair X.K C PI) x y H := by
  obtain ⟨F, ns, ts, us, hp, fz, r1, r2⟩ := d
  have r1' := r1
  have r2' := r2
  obtain ⟨a, dx, vs, rfl, _, h1, _, _⟩ := r1
  obtain ⟨b, dy, ws, rfl, _, h2, _, _⟩ := r2
  exact ⟨a, b, dx, dy, _, _, rfl, rfl, h1, h2, F, ns, ts, us, hp, fz, r1', r2'⟩
theorem rcG_pair (E : EqC2 X.prog X.w X.K X.mg X.base k C f fd ps PI) : RcG X k (PairI X.K C PI) := fun A pins s σ H x y u v sb I rx ry d => rcG_ins E.F E.hs E.hf E.hb passF A pins s σ H x y u v sb I rx ry (pair_conv d)
open Classical in
noncomputable def eqE2 (C : Addr) (PI : List Str → List T → List T → Prop) (d e : D) (st : Sto) : Option D := if ∃ ns ts us, d = .t (.ins C ns ts) ∧ e = .t (.ins C ns us) ∧ PI ns ts us then some (.t (.bl true)) else eqM d e st
open Classical in
theorem o_pair (h : RcG X n (PairI X.K C PI)) (hr : Room n X.A) : OpR X (compareOp .Eq) (rM X.K fun d e st => if (∃ ns ts us, d = .t (.ins C ns ts) ∧ e = .t (.ins C ns us) ∧ PI ns ts us) then some (.t (.bl true)) else none) := op_of (op_eqG h hr) fun W st d e x y H Q z R r1 r2 hz q => by
  split at hz
  · rename_i c
    obtain ⟨ns, ts, us, rfl, rfl, hp⟩ := c
    cases hz
    refine ⟨⟨W.F, ns, ts, us, hp, R.fz, r1, r2⟩, fun H' ext => ?_⟩
    obtain ⟨E, R'⟩ := ext_of R ext
    exact q W H' _ E R' rfl
  · cases hz
theorem o_eqE2 (hu : X.A.units + 64 < cLine) (h : RcG X n (PairI X.K C PI)) (hr : Room n X.A) : OpR X (compareOp .Eq) (rM X.K (eqE2 C PI)) := by
  classical
  have ho : OpR X (compareOp .Eq) _ := OpR.or (o_pair h hr) (o_eq hu)
  refine op_of ho fun W st d e x y H Q z R r1 r2 hz q => ?_
  unfold eqE2 at hz
  split at hz
  · rename_i c
    exact .inl ⟨W, st, d, e, R, r1, r2, z, (if_pos c).trans hz, q⟩
  · exact .inr ⟨W, st, d, e, R, r1, r2, _, hz, q⟩
end
section
variable {P : Program} {w : World} {K : PySem.W.Frag}  {mg : Str → Option Value}  {base : Heap} {x qual : Str} {st : Stmt} {f C : Addr} {fd : FuncData} {N ps : List Str} {k : Nat} {g : Env → Sto → Out} {PI : List Str → List T → List T → Prop}
theorem eq_def2 (F : Fun K x qual st f fd) (S : FnScope N ps (defScope st)) {m : Nat} (hn : ps.length = 2) (hm : N.length = m)
    (body : ∀ (cd : Value) (A : Around) (outer : List PySem.Env) (s : Shared) (H : Hp) (E : XK), Room k (A.deeper (envOfC qual (defScope st) s.heap.objs.size f cd)) →
      RSs (cxOf (L2.CX P w) P w K mg base N qual (defScope st) f cd A outer s H E) (WR E) (defBody st) g)
    (hg : ∀ ns ts us, PI ns ts us → g (startE m [.t (.ins C ns ts), .t (.ins C ns us)]) [] = .rt (.t (.bl true)) []) : FnOk P w K mg base (L2.CX P w) (k + 1) f fd ps (spEq (RPair K C PI)) := by
  refine Fun.okX F S (fun vs H Q E ⟨a, b, e, _⟩ => by rw [e, hn]; rfl) fun cd A outer s H vs Q E room ⟨a, b, e, ⟨F0, ns, ts, us, hp, fz, r1, r2⟩, q⟩ => ⟨_, body cd A outer s H E room, ?_⟩
  subst e
  have R0 : Rl K ⟨[], F0⟩ [] H := ⟨rfl, List.nodup_nil, fun n a o h _ => by simp at h, fun a h => absurd h (by simp), fz⟩
  refine ⟨⟨[], F0⟩, startE m [.t (.ins C ns ts), .t (.ins C ns us)], [], R0, by rw [← hm]; exact startE_rel ⟨_, _, rfl, r1, _, _, rfl, r2, rfl⟩, ?_⟩
  rw [hg ns ts us hp]
  intro W' H' v E' R' r'
  cases r'
  exact q H' fun a o h => E'.keep a o h (by simp)
end
def PHold2 (C : Addr) (ns : List Str) (ts us : List T) : Prop := ∃ u ns' ts' us', ns = ("parts" : Str) :: ns' ∧ ts = u :: ts' ∧ us = u :: us' ∧ PPts C u
theorem rcG_pts {X : Cx} {k : Nat} {C f : Addr} {fd : FuncData} {ps : List Str} (E : EqC X.prog X.w X.K X.mg X.base k C f fd ps PDat) (hk : k ≤ 12) : RcG X 14 (SameP X.K (PPts C)) :=
  rcG_tupP (eqG_orP (eqG_tupP ((eqG_insP E).mono hk)) ((eqG_data 12).mono (by omega)))
end Mi
/-! Mv23 -/
namespace Mi
open L2 PySem PySem.Spec PyProof.Rows
/-! ### try with several clauses, with a name or without one -/
abbrev ClT := Value × Option Nat × (Addr → Value → Option Addr → TS)
/-- how the ends of a suite are wished -/
def endsAs (io : Option Nat) (D : Ends) : Ends := match io with
  | none => D
  | some i => { nx := fun σ' H' => D.nx (σ'.set i none) H', rt := D.rt, bk := fun σ' H' => D.bk (σ'.set i none) H', ct := fun σ' H' => D.ct (σ'.set i none) H' }
def setAs (io : Option Nat) (σ : L2.St) (a : Addr) : L2.St := match io with
  | none => σ
  | some i => σ.set i (some (.ref a))
def wHds (K : PySem.W.Frag) (Wout : WX) (D : Ends) : List ClT → WX
  | [] => Wout
  | (c, io, ts) :: r => fun cls d σ H => ∃ b, PySem.W.exmOne K cls c = some b ∧ (b = true → ∀ a, H a = none → ts a cls d (endsAs io D) (setAs io σ a) H) ∧ (b = false → wHds K Wout D r cls d σ H)
inductive ClOk (X : Cx) : List ExceptHandler → List ClT → Prop
  | nil : ClOk X [] []
  | only {x : Str} {c : Value} {ts : Addr → Value → Option Addr → TS} {b₀ : Stmt} {suite : List Stmt} {np pos' : Pos} {hds : List ExceptHandler} {l : List ClT} (hc : Names X x c)
      (hsu : ∀ (a : Addr) (oe : Obj) (cls : Value) (d : Option Addr) (pn : List (Addr × Obj)), Zc cls d oe → (∃ vs, oe.data = .fields vs) → PSs (X.suite a ((a, oe) :: pn)) (b₀ :: suite) (ts a cls d)) (r : ClOk X hds l) :
      ClOk X (.ExceptHandler (some (.Name x np)) none (b₀ :: suite) pos' :: hds) ((c, none, ts) :: l)
  | named {x n : Str} {i : Nat} {c : Value} {ts : Addr → Value → Option Addr → TS} {b₀ : Stmt} {suite : List Stmt} {np pos' : Pos} {hds : List ExceptHandler} {l : List ClT} (hN : X.N.Nodup) (hi : X.N[i]? = some n) (hln : X.env.kindOf n = some .local) (hc : Names X x c)
      (hsu : ∀ (a : Addr) (oe : Obj) (cls : Value) (d : Option Addr) (pn : List (Addr × Obj)), Zc cls d oe → (∃ vs, oe.data = .fields vs) → PSs (X.suite a ((a, oe) :: pn)) (b₀ :: suite) (ts a cls d)) (r : ClOk X hds l) :
      ClOk X (.ExceptHandler (some (.Name x np)) (some n) (b₀ :: suite) pos' :: hds) ((c, some i, ts) :: l)
section
variable {X : Cx} {body : List Stmt} {h₀ : ExceptHandler} {hds : List ExceptHandler} {l : List ClT} {pos : Pos} {tb : WX → TS} {Wout : WX}
theorem ps_try_cl (hs : X.stack = X.env :: X.outer) (hf : X.env.frame = some X.env.locals) (tk : Takes X Wout)
    (hb  : ∀ (W : WX) (pn : List (Addr × Obj)) (xe : Value → Shared → Prop), Takes (X.tr pn xe) W → PassesOwn (model X.prog X.w) X.A X.env xe → PSs (X.tr pn xe) body (tb W))
    (hh : ClOk X (h₀ :: hds) l) : PS X (.Try body (h₀ :: hds) [] [] pos) (fun D σ H => tb (wHds X.K Wout D l) D σ H) := by
  refine  ⟨fun pins s σ H D I h => ?_⟩
  have ok := I.ok
  have fr0 : X.A.frames = some (X.env :: X.outer) := by rw [ok.frames, hs]
  refine wpAny_Try_except ?_
  refine wpAny_mono ((hb (wHds X.K Wout D l) (X.pn ++ pins) (fun e s₁ => wpAny (model X.prog X.w) X.A (noteFrame e X.env) (fun _ s₂ => wpAny (model X.prog X.w) X.A (setFlight e none) (fun _ s₃ =>
    wpAny  (model X.prog X.w) X.A (handleBy e X.env (h₀ :: hds)) (SP X pins D) X.xe s₃) X.xe s₂) X.xe s₁) (fun u s' xx => ?_) PassesOwn.looking).run [] s σ H D (I.toTry _) h) (fun f s1 hsp => ?_) (fun e s1 he => he)
  · obtain ⟨a, B, sI, pins', σ', H', cls, d, rfl, J', nb, up, sky, na, os, ag, w⟩ := xx
    have  J : Inv X pins σ' H' sI := J'.ofTry ok
    have sk : Sky B (X.env :: X.outer) a (Zc cls d) X.env.locals s'.heap := by rw [← hs]; exact sky
    show  wpAny (model X.prog X.w) X.A (noteFrame (.ref a) X.env) _ _ _
    refine Sky.land Zc.steady fr0 hf sk fun h3 fl3 up3 => ?_
    have  J3 : Inv X pins σ' H' { s' with heap := h3 } := J.landed nb fl3.1 (up.trans up3) os ag
    obtain  ⟨oe3, vs3, he3, hz3, hd3⟩ := fl3.there
    have nfr : a ∉ frs (X.env :: X.outer) := fun hm => by
      obtain ⟨_, o', e', hnf⟩ := fl3.2.2.1.mem hm
      rw [he3] at e'
      cases e'
      exact hnf _ hd3
    have  nL : a ≠ X.env.locals := fun z => nfr (List.mem_filterMap.mpr ⟨X.env, List.mem_cons_self, by rw [hf, z]⟩)
    have  nF : a ∉ X.fs := fun hm => by
      (obtain ⟨e, he, q⟩ := List.mem_filterMap.mp hm)
      exact  nfr (List.mem_filterMap.mpr ⟨e, List.mem_cons_of_mem _ he, q⟩)
    have  S3 := J3.suite he3 hd3 na nL nF
    have  LT : PySem.W.Looks (model X.prog X.w) h3 (typeOf (.ref a)) cls := fun A Q E s k q => wpAny_typeOf_ref (k _ _ he3) (by rw [hz3.1]; exact q)
    have test : ∀ {x : Str} {c : Value} {np : Pos} (_ : Names X x c) {Q : Value → Shared → Prop} {E : Value → Shared → Prop}, Q c { s' with heap := h3 } → wpAny (model X.prog X.w) (X.A.mark (some (.ref a))) (eval (.Name x np) X.env) Q E { s' with heap := h3 } := fun {x c np} hc {Q E} q => by
      obtain  ⟨hg, hdbg, hm | ⟨hm, hv, hnn⟩⟩ := hc
      · exact  ld_glob (X := X.suite a ((a, oe3) :: (X.pn ++ pins))) S3 hg hm q hdbg
      · exact  ld_blt (X := X.suite a ((a, oe3) :: (X.pn ++ pins))) S3 hg hm hv q hnn hdbg
    have go : ∀ {hd' : List ExceptHandler} {l' : List ClT}, ClOk X hd' l' → wHds X.K Wout D l' cls d σ' H' →
        wpAny (model X.prog X.w) X.A (handleBy (.ref a) X.env hd') (SP X pins D) X.xe { s' with heap := h3 } := by
      intro hd' l' hk
      induction hk with
      | nil =>
        intro w
        refine wpAny_handleBy_nil ?_
        obtain  ⟨k1, k2, k3, oe, vs, T, oT, ts', he, hz, hd, h1, hr⟩ := id fl3
        unfold PySem.passOn
        refine  wpAny_bind (wpAny_field he hd h1 ?_)
        rw  [if_neg (show ¬ ((Value.ref T == Value.none) = true) from by simp)]
        have  fin : wpAny (model X.prog X.w) X.A (setFlight (.ref a) X.env.frame) (fun _ s4 => wpAny (model X.prog X.w) X.A (throw (.ref a) : Sem Flow) (SP X pins D) X.xe s4) X.xe { s' with heap := h3 } := by
          rw [hf]
          refine  HandSPX.setFlight_upZ fl3 fun h4 hh4 up4 => wpAny_throw (tk _ _ ?_)
          exact  ⟨a, B, sI, pins, σ', H', cls, d, rfl, J, nb, (up.trans up3).trans up4, .inr (.inr (by rw [hs]; exact hh4)), na, os, ag, w⟩
        first
          |  exact wpAny_bind (wpAny_pure (wpAny_bind fin))
          | exact wpAny_bind fin
      | @only x c ts b₀ suite np pos' hd2 l2 hc hsu r ih =>
        intro w
        obtain  ⟨b, hb1, hyes, hno⟩ := w
        refine  wpAny_handleBy_cons (codeAny_handlers_test ?_) (by intro q; cases q)
        have  LM := PySem.W.exm_one (M := model X.prog X.w) (J3.kIn) LT hb1
        refine test hc (LM.here ?_)
        cases b with
        | false => exact ih (hno rfl)
        | true =>
          refine  codeAny_handlers_suite ?_
          refine  HandSPX.lands_againZ fl3 fun h4 fl4 up4 => ?_
          have  J4 : Inv X pins σ' H' { s' with heap := h4 } := J.landed nb fl4.1 ((up.trans up3).trans up4) os ag
          obtain  ⟨oe4, vs4, he4, hz4, hd4⟩ := fl4.there
          have  S4 := J4.suite he4 hd4 na nL nF
          refine wpAny_mono ((hsu a oe4 cls d (X.pn ++ pins) hz4 ⟨_, hd4⟩).run [] _ _ H' _ S4 (hyes rfl a na)) (fun f s6 z => ?_) (fun _ _ z => False.elim z)
          cases f with
          | next => (obtain ⟨σ6, H6, S6, q6⟩ := z); exact ⟨_, _, S6.unsuite ok, q6⟩
          | brk => (obtain ⟨σ6, H6, S6, q6⟩ := z); exact ⟨_, _, S6.unsuite ok, q6⟩
          | cont => (obtain ⟨σ6, H6, S6, q6⟩ := z); exact ⟨_, _, S6.unsuite ok, q6⟩
          | ret u => (obtain ⟨v6, σ6, H6, S6, r6, q6⟩ := z); exact ⟨_, _, _, S6.unsuite ok, r6, q6⟩
      | @named x n i c ts b₀ suite np pos' hd2 l2 hN hi hln hc hsu r ih =>
        intro w
        obtain  ⟨b, hb1, hyes, hno⟩ := w
        have  hloc : Loc X.env.scope n := .inl hln
        refine  wpAny_handleBy_cons (codeAny_handlers_test ?_) (by intro q; cases q)
        have  LM := PySem.W.exm_one (M := model X.prog X.w) (J3.kIn) LT hb1
        refine test hc (LM.here ?_)
        cases b with
        | false => exact ih (hno rfl)
        | true =>
          refine  codeAny_handlers_suite_as ?_
          refine  HandSPX.lands_againZ fl3 fun h4 fl4 up4 => ?_
          have  J4 : Inv X pins σ' H' { s' with heap := h4 } := J.landed nb fl4.1 ((up.trans up3).trans up4) os ag
          obtain  ⟨oe4, vs4, he4, hz4, hd4⟩ := fl4.there
          have  S4 := J4.suite he4 hd4 na nL nF
          refine  store_ok (X := X.suite a ((a, oe4) :: (X.pn ++ pins))) (v := .ref a) S4 hN hi hloc rfl (fun s5 S5 => ?_) (.inr hln)
          refine wpAny_mono ((hsu a oe4 cls d (X.pn ++ pins) hz4 ⟨_, hd4⟩).run [] s5 _ H' _ S5 (hyes rfl a na)) (fun f s6 z => ?_) (fun _ _ z => False.elim z)
          have end_ : ∀ {σ6 : L2.St} {H6 : Hp} {Q : Shared → Prop}, Inv (X.suite a ((a, oe4) :: (X.pn ++ pins))) [] σ6 H6 s6 → (∀ s7, Inv X pins (σ6.set i none) H6 s7 → Q s7) →
              wpAny  (model X.prog X.w) X.A (do bindName X.env n .none; unbindBehindTheSuite X.env n pos') (fun _ s7 => Q s7) X.xe s6 := fun {σ6 H6 Q} S6 hq => gone_ok (S6.unsuite ok) hN hi hln hq
          cases f with
          | next => (obtain ⟨σ6, H6, S6, q6⟩ := z); exact end_ S6 fun s7 J7 => ⟨_, _, J7, q6⟩
          | brk => (obtain ⟨σ6, H6, S6, q6⟩ := z); exact end_ S6 fun s7 J7 => ⟨_, _, J7, q6⟩
          | cont => (obtain ⟨σ6, H6, S6, q6⟩ := z); exact end_ S6 fun s7 J7 => ⟨_, _, J7, q6⟩
          | ret u => (obtain ⟨v6, σ6, H6, S6, r6, q6⟩ := z); exact end_ S6 fun s7 J7 => ⟨_, _, _, J7, r6, q6⟩
    exact go hh w
  · cases f with
    | next => (obtain ⟨σ', H', J', q⟩ := hsp); exact wpAny_execs_nil ⟨σ', H', J'.ofTry ok, q⟩
    | brk => (obtain ⟨σ', H', J', q⟩ := hsp); exact ⟨σ', H', J'.ofTry ok, q⟩
    | cont => (obtain ⟨σ', H', J', q⟩ := hsp); exact ⟨σ', H', J'.ofTry ok, q⟩
    | ret u => (obtain ⟨v, σ', H', J', r, q⟩ := hsp); exact ⟨v, σ', H', J'.ofTry ok, r, q⟩
end
/-! ### the mirror of it -/
abbrev SuM := Addr → Option Addr → Addr → Env → Sto → Out
abbrev ClM := Option Nat × (Addr → Option Bool) × SuM
/-- the ends of a suite: the name is gone; no exception -/
def endM (io : Option Nat) (o : Out) : Out := match io with
  | some i => unset i o
  | none => (match o with
    | .exc .. => .bad
    | o => o)
def envAs (io : Option Nat) (d : D) (e : Env) : Env := match io with
  | some i => e.set i (some d)
  | none => e
open Classical in
noncomputable def goCl (C : Addr) (fs : List (Str × T)) (e : Env) (s : Sto) : List ClM → Out
  | [] => .exc C fs e s
  | (io, isC, S) :: r => match isC C with
    | some true => if ∀ a o, endM io (S a o C (envAs io (.x a o C fs) e) s) = endM io (S 0 none C (envAs io (.x 0 none C fs) e) s) then endM io (S 0 none C (envAs io (.x 0 none C fs) e) s) else .bad
    | some false => goCl C fs e s r
    | none => .bad
noncomputable def tryCl (l : List ClM) (body : Env → Sto → Out) (env : Env) (st : Sto) : Out := match body env st with
  | .exc C fs e s => goCl C fs e s l
  | o => o
inductive ClR (X : Cx) : List ExceptHandler → List ClM → Prop
  | nil : ClR X [] []
  | only {x : Str} {D : Addr} {isC : Addr → Option Bool} {S : SuM} {b₀ : Stmt} {suite : List Stmt} {np pos' : Pos} {hds : List ExceptHandler} {l : List ClM} (hg : Gl X x) (hm : X.mg x = some (.ref D)) (hx : ∀ C b, isC C = some b → PySem.W.exmOne X.K (.ref C) (.ref D) = some b)
      (hsu : ∀ (a : Addr) (oe : Obj) (C : Addr) (d : Option Addr) (pn : List (Addr × Obj)), isC C = some true → Zc (.ref C) d oe → (∃ vs, oe.data = .fields vs) → RSs (X.suite a ((a, oe) :: pn)) W0 (b₀ :: suite) (S a d C)) (r : ClR X hds l)
      (hdb : (x == ("__debug__" : Str)) = false := by decide) : ClR X (.ExceptHandler (some (.Name x np)) none (b₀ :: suite) pos' :: hds) ((none, isC, S) :: l)
  | named {x n : Str} {i : Nat} {D : Addr} {isC : Addr → Option Bool} {S : SuM} {b₀ : Stmt} {suite : List Stmt} {np pos' : Pos} {hds : List ExceptHandler} {l : List ClM} (hN : X.N.Nodup) (hi : X.N[i]? = some n) (hln : X.env.kindOf n = some .local) (hg : Gl X x) (hm : X.mg x = some (.ref D))
      (hx : ∀ C b, isC C = some b → PySem.W.exmOne X.K (.ref C) (.ref D) = some b)
      (hsu : ∀ (a : Addr) (oe : Obj) (C : Addr) (d : Option Addr) (pn : List (Addr × Obj)), isC C = some true → Zc (.ref C) d oe → (∃ vs, oe.data = .fields vs) → RSs (X.suite a ((a, oe) :: pn)) W0 (b₀ :: suite) (S a d C)) (r : ClR X hds l)
      (hdb : (x == ("__debug__" : Str)) = false := by decide) : ClR X (.ExceptHandler (some (.Name x np)) (some n) (b₀ :: suite) pos' :: hds) ((some i, isC, S) :: l)
section
variable {X : Cx} {Wx : WX} {body : List Stmt} {h₀ : ExceptHandler} {hds : List ExceptHandler} {pos : Pos} {gb : Env → Sto → Out}
def tSuite (K : PySem.W.Frag) (isC : Addr → Option Bool) (S : SuM) : Addr → Value → Option Addr → TS := fun a cls d => fun D σ H => ∃ C, cls = .ref C ∧ isC C = some true ∧ tS K W0 (S a d C) D σ H
theorem suite_of {isC : Addr → Option Bool} {S : SuM} {b₀ : Stmt} {suite : List Stmt} (hsu : ∀ (a : Addr) (oe : Obj) (C : Addr) (d : Option Addr) (pn : List (Addr × Obj)), isC C = some true → Zc (.ref C) d oe → (∃ vs, oe.data = .fields vs) → RSs (X.suite a ((a, oe) :: pn)) W0 (b₀ :: suite) (S a d C)) :
    ∀ (a : Addr) (oe : Obj) (cls : Value) (d : Option Addr) (pn : List (Addr × Obj)), Zc cls d oe → (∃ vs, oe.data = .fields vs) → PSs (X.suite a ((a, oe) :: pn)) (b₀ :: suite) (tSuite X.K isC S a cls d) := by
  intro a oe cls d pn hz hfl
  refine ⟨fun pins s σ H D I ⟨C, e, hC, h⟩ => ?_⟩
  subst e
  exact (hsu a oe C d pn hC hz hfl).run pins s σ H D I h
theorem endM_holds {K : PySem.W.Frag} {E : Ends} {W : Wd} {H : Hp} {io : Option Nat} {o : Out} (h : (endM io o).Holds K Wx E W H) : o.Holds K W0 (endsAs io E) W H := by
  cases io with
  | some i => exact unset_holds h
  | none =>
    cases o with
    | nx e s => exact h
    | bk e s => exact h
    | ct e s => exact h
    | rt d s => exact h
    | exc => exact h.elim
    | bad => exact h.elim
theorem envAs_rel {K : PySem.W.Frag} {W : Wd} {H : Hp} {e : Env} {σ : L2.St} {io : Option Nat} {a : Addr} {o : Option Addr} {C : Addr} {fs : List (Str × T)} (V : EnvR K W H e σ) (xx : ExD K W H fs o) : EnvR K W H (envAs io (.x a o C fs) e) (setAs io σ a) := by
  cases io with
  | some i => exact V.set i ⟨rfl, xx⟩
  | none => exact V
theorem cl_of {l : List ClM} {hds : List ExceptHandler} (h : ClR X hds l) : ∃ l', ClOk X hds l' ∧ ∀ (E : Ends) (W : Wd) (H : Hp) (C : Addr) (fs : List (Str × T)) (e : Env) (s : Sto), (goCl C fs e s l).Holds X.K Wx E W H →
    ∀ W' σ' H' o, Ext W H W' H' → Rl X.K W' s H' → EnvR X.K W' H' e σ' → ExD X.K W' H' fs o → wHds X.K Wx E l' (.ref C) o σ' H' := by
  induction h with
  | nil => exact ⟨[], .nil, fun E W H C fs e s h => h⟩
  | @only x D isC S b₀ suite np pos' hds l hg hm hx hsu r hdb ih =>
    obtain ⟨l', h1, h2⟩ := ih
    refine ⟨(.ref D, none, tSuite X.K isC S) :: l', .only ⟨hg, hdb, .inl hm⟩ (suite_of hsu) h1, fun E W H C fs e s h W' σ' H' o E' R' V' xx => ?_⟩
    unfold goCl at h
    cases q2 : isC C with
    | none => simp only [q2] at h; exact h.elim
    | some b =>
      refine ⟨b, hx C b q2, fun hbt a ha => ?_, fun hbf => ?_⟩
      · subst hbt
        simp only [q2] at h
        split at h
        · rename_i all
          refine ⟨C, rfl, q2, W', _, s, R', envAs_rel (io := none) (a := a) (C := C) V' xx, ?_⟩
          exact Out.Holds.mono (endM_holds (io := none) (by rw [all a o]; exact h)) E'
        · exact h.elim
      · subst hbf
        simp only [q2] at h
        exact h2 E W H C fs e s h W' σ' H' o E' R' V' xx
  | @named x n i D isC S b₀ suite np pos' hds l hN hi hln hg hm hx hsu r hdb ih =>
    obtain ⟨l', h1, h2⟩ := ih
    refine ⟨(.ref D, some i, tSuite X.K isC S) :: l', .named hN hi hln ⟨hg, hdb, .inl hm⟩ (suite_of hsu) h1, fun E W H C fs e s h W' σ' H' o E' R' V' xx => ?_⟩
    unfold goCl at h
    cases q2 : isC C with
    | none => simp only [q2] at h; exact h.elim
    | some b =>
      refine ⟨b, hx C b q2, fun hbt a ha => ?_, fun hbf => ?_⟩
      · subst hbt
        simp only [q2] at h
        split at h
        · rename_i all
          refine ⟨C, rfl, q2, W', _, s, R', envAs_rel (io := some i) (a := a) (C := C) V' xx, ?_⟩
          exact Out.Holds.mono (endM_holds (io := some i) (by rw [all a o]; exact h)) E'
        · exact h.elim
      · subst hbf
        simp only [q2] at h
        exact h2 E W H C fs e s h W' σ' H' o E' R' V' xx
theorem rs_tryCl {l : List ClM} (hs : X.stack = X.env :: X.outer) (hf : X.env.frame = some X.env.locals) (tk : Takes X Wx)
    (hb : ∀ (W : WX) (pn : List (Addr × Obj)) (xe : Value → Shared → Prop), Takes (X.tr pn xe) W → PassesOwn (model X.prog X.w) X.A X.env xe → RSs (X.tr pn xe) W body gb)
    (hl : ClR X (h₀ :: hds) l) : RS X Wx (.Try body (h₀ :: hds) [] [] pos) (tryCl l gb) := by
  obtain ⟨l', h1, h2⟩ := cl_of (Wx := Wx) hl
  refine PS.conv (ps_try_cl (tb := fun W => tS X.K W gb) hs hf tk hb h1) fun E σ H ⟨W, env, st, R, Ev, h⟩ => ⟨W, env, st, R, Ev, ?_⟩
  unfold tryCl at h
  cases q : gb env st with
  | nx e s => rw [q] at h; exact h
  | bk e s => rw [q] at h; exact h
  | ct e s => rw [q] at h; exact h
  | rt d s => rw [q] at h; exact h
  | bad => rw [q] at h; exact h
  | exc C fs e s =>
    rw [q] at h
    exact fun W' σ' H' o E' R' V' xx => h2 E W H C fs e s h W' σ' H' o E' R' V' xx
end
/-! ### raise C(), C an own exception class without own __init__ -/
section
variable {X : Cx} {Wx : WX} {x : Str} {p pos pos' : Pos} {C : Addr}
theorem pmk_own0 {bmB : List Value} {B newId initId : String} (F : ExcBaseFacts B newId initId bmB) (q : PySem.W.excIn X.K C bmB newId = true) (gC : X.mg x = some (.ref C)) (kC : PySem.W.keepIn X.K (.ref C) = true) (r : Raises X (.ref C)) (hg : Gl X x)
    (hdb : (x == ("__debug__" : Str)) = false := by decide) : PMk X (.Call (.Name x p) [] [] pos) (fun _ H Q => Q (.ref C) none H) := by
  intro pins s σ H Q I h
  refine  wpAny_Call_Name_kw (ld_glob I hg gC ?_ hdb)
  refine PySem.W.callWith_K0 I.kIn kC ?_
  show wpAny _ _ (call (.ref C) []) _ _ _
  obtain ⟨bm, N, nm, qn, bs, hdct, sn, sub, ab, col, dd, k0, k1, k2, k3, k5, mN, hC, hN, hni, T⟩ := exc_obj I.kIn q
  refine wpAny_call_exc_subT F T hC hN hni (fun h' e hm => ?_) (Nat.zero_le _)
  exact mk_of I hm r h (I.hok.gone hm.new)
def raise0 (C : Addr) (env : Env) (st : Sto) : Out := .exc C [] env st
/-- what the module must say of such a class -/
structure XCl0 (K : PySem.W.Frag) (C : Addr) (newId : String) (bmB : List Value) : Prop where
  q : PySem.W.excIn K C bmB newId = true
  kC  : PySem.W.keepIn K (.ref C) = true
  sb : PySem.W.subIn K (.ref C) (.type "BaseException") = some true
  ty : PySem.W.typeIn K (.ref C) = some (.type "type")
theorem rs_raise0 {bmB : List Value} {B newId initId : String} (hc : X.calm = true) (tk : Takes X Wx) (F : ExcBaseFacts B newId initId bmB) (T : XCl0 X.K C newId bmB) (hg : Gl X x) (hm : X.mg x = some (.ref C)) (hdb : (x == ("__debug__" : Str)) = false := by decide) :
    RS X Wx (.Raise (some (.Call (.Name x p) [] [] pos)) none pos') (raise0 C) := by
  refine PS.conv (ps_raise hc tk (pmk_own0 F T.q hm T.kC (raises_own T.sb T.ty) hg hdb)) fun D σ H ⟨W, env, st, R, Ev, h⟩ => ?_
  exact h W σ H none .refl R Ev (.inl rfl)
end
end Mi
/-! Mv24 -/
namespace Mi
open L2 PySem PySem.Spec PyProof.Rows
/-! ### a list comprehension whose element may raise -/
abbrev blkX (X : Cx) (s : Shared) (H : Hp) (scope : Scope) (ce : PySem.Env) (fp : List Addr) (xe : Value → Shared → Prop) : Cx := { X.blk s H scope ce fp with xe := xe }
section
variable {X : Cx} {pins pn' : List (Addr × Obj)} {σ σ' : L2.St} {H H' H3 : Hp} {s s3 : Shared} {scope : Scope} {ce : PySem.Env} {fp : List Addr} {xe : Value → Shared → Prop}
theorem okX (ok : (X.blk s3 H3 scope ce fp).Ok) : (blkX X s3 H3 scope ce fp xe).Ok :=
  ⟨ok.mod,  ok.kind, ok.glob, ok.blt, ok.above, ok.inj, ok.has, ok.cab, ok.hd, ok.frames, ok.stk, ok.exf, ok.bs, ok.bsz, ok.noex, ok.exfs, ok.funs, ok.frf⟩
theorem okB (ok : (blkX X s3 H3 scope ce fp xe).Ok) : (X.blk s3 H3 scope ce fp).Ok :=
  ⟨ok.mod,  ok.kind, ok.glob, ok.blt, ok.above, ok.inj, ok.has, ok.cab, ok.hd, ok.frames, ok.stk, ok.exf, ok.bs, ok.bsz, ok.noex, ok.exfs, ok.funs, ok.frf⟩
theorem invX (I : Inv (X.blk s3 H3 scope ce fp) pn' σ H s) : Inv (blkX X s3 H3 scope ce fp xe) pn' σ H s := ⟨okX I.ok, I.os, I.bare, I.base, I.loc, I.cell, I.free, I.freeC, I.pin, I.hok, I.len⟩
theorem invB (I : Inv (blkX X s3 H3 scope ce fp xe) pn' σ H s) : Inv (X.blk s3 H3 scope ce fp) pn' σ H s := ⟨okB I.ok, I.os, I.bare, I.base, I.loc, I.cell, I.free, I.freeC, I.pin, I.hok, I.len⟩
end
section
variable {M : Model} {A : Around} {E : Value → Shared → Prop} {s : Shared} {Z : Obj → Prop} {B : Heap} {env : PySem.Env} {outer l : List PySem.Env} {L C a : Addr}
/-- noted by the frame at L, whoever had it -/
theorem note_any {fl : Value} {Q : Unit → Shared → Prop} (hZ : HandSPX.Steady Z) (hfr : A.frames = some (env :: outer)) (hf : env.frame = some L) (ne : fl ≠ rawInt L) (b0 : B.StaysIn s.heap) (b1 : B.get? a = none) (ff : s.heap.FunFrames B (env :: outer)) (tr : HandSPX.TracedZ s.heap B a Z fl)
    (hQ : ∀ h', HandSPX.HeldZ B (env :: outer) a Z L h' → s.heap.UpToSlots h' → Q () { s with heap := h' }) : wpAny M A (noteFrame (.ref a) env) Q E s := by
  obtain ⟨oe, vs, t, ot, ts, e1, z, d1, i1, n1, n2, e2, d2, i3⟩ := tr
  have keepT : ∀ b, b ≠ t → (s.heap.update t (Obj.mapFields (·.setIfInBounds 3 Value.none))).get? b = s.heap.get? b := fun b hb => Heap.get?_update_other _ _ fun q => hb q.symm
  have notT : ∀ b o, s.heap.get? b = some o → (∀ vs, o.data ≠ .fields vs) → b ≠ t := by
    intro b o hb hn q
    subst q
    rw [e2] at hb
    cases hb
    exact hn ts d2
  unfold noteFrame
  simp only [hf]
  refine wpAny_bind (wpAny_field e1 d1 i1 ?_)
  have hne : (Value.ref t != Value.none) = true := by simp
  rw [if_pos hne]
  refine wpAny_bind (wpAny_field e2 d2 i3 ?_)
  rw [if_neg (by simpa using ne)]
  refine wpAny_bind (wpAny_setField e2 d2 (Array.getElem?_eq_some_iff.mp i3).1 ?_)
  have ff' := Heap.FunFrames.of_keeps (h' := s.heap.update t (Obj.mapFields (·.setIfInBounds 3 Value.none))) (fun b o hb hn => ⟨o, (keepT b (notT b o hb hn)).trans hb, rfl⟩) ff
  have b0' : B.StaysIn (s.heap.update t (Obj.mapFields (·.setIfInBounds 3 Value.none))) := fun b o hb => (keepT b fun q => by subst q; rw [n1] at hb; cases hb).trans (b0 b o hb)
  refine HandSPX.wpAny_entryZ hZ hfr ff' hf ((keepT a fun q => n2 q.symm).trans e1) b0' b1 d1 (Array.getElem?_eq_some_iff.mp i1).1 z fun h' hN => ?_
  exact hQ h' ⟨hN.1, b1, hN.2.1, hN.2.2.1⟩ fun b o hb hn => hN.2.2.2 b o ((keepT b (notT b o hb hn)).trans hb) hn
theorem sky_note {Q : Unit → Shared → Prop} (hZ : HandSPX.Steady Z) (hfr : A.frames = some (env :: outer)) (hf : env.frame = some L) (ne : C ≠ L) (x : Sky B (env :: outer) a Z C s.heap)
    (hQ : ∀ h', HandSPX.HeldZ B (env :: outer) a Z L h' → s.heap.UpToSlots h' → Q () { s with heap := h' }) : wpAny M A (noteFrame (.ref a) env) Q E s := by
  rcases x with ⟨b0, b1, ff, oe, vs, he, z, hd, h1⟩ | ⟨b0, b1, ff, tr⟩ | ⟨b0, b1, ff, tr⟩
  · exact HandSPX.look_newZ hZ hfr ff hf he b0 b1 hd h1 z hQ
  · exact note_any hZ hfr hf (by simp [rawInt]) b0 b1 ff tr hQ
  · exact note_any hZ hfr hf (fun z => ne (Int.ofNat.inj (by simpa [rawInt] using z))) b0 b1 ff tr hQ
end
section
variable {X : Cx} {Wx : WX} {pins : List (Addr × Obj)} {σ : L2.St} {H3 : Hp} {s3 : Shared} {scope : Scope} {ce : PySem.Env} {fp : List Addr}
/-- what the element lets out is let out by the whole -/
theorem takes_comp {use : Option (Value → Sem Unit)} {Qf : Value → Shared → Prop} {acc : Value} (I3 : Inv X pins σ H3 s3) (hst : X.stack = X.env :: X.outer) (hf : X.env.frame = some X.env.locals) (tk : Takes X Wx) (hcf : ce.frame = X.env.frame) (hC : s3.heap.objs.size ≤ ce.locals)
    (f3 : ∀ b ∈ fp, FpOk X pins H3 b) : Takes (blkX X s3 H3 scope ce fp (notedBy (model X.prog X.w) X.A ce fun e s' => compEnds (model X.prog X.w) X.A X.xe use Qf acc ce (.error e) s')) (fun c d _ H' => Wx c d σ H') := by
  rintro u s' ⟨a, B, sI, pn', σ', H', cls, d, rfl, I, nb, up, sky, na, os, ag, w⟩
  have I' := invB I
  have fr : X.A.frames = some (X.env :: X.outer) := by rw [I3.ok.frames, hst]
  have hC' : s3.heap.objs.size ≤ ce.locals := hC
  have neL : ce.locals ≠ X.env.locals := fun z => by
    exact absurd (Nat.lt_of_lt_of_le I3.lt (by rw [← z]; exact hC')) (Nat.lt_irrefl _)
  have sky : Sky B X.stack a (Zc cls d) ce.locals s'.heap := sky
  have nb : ∀ b o, sI.heap.get? b = some o → b ∉ frs X.stack → B.get? b = some o := nb
  rw [hst] at sky nb
  -- back in the def's context
  have J : Inv X pins σ H' sI := I3.call' (ch := fp) I'.os I'.base I'.hok I'.bare fun b hb => ⟨(f3 b hb).2.2.2.1, (f3 b hb).2.1, (f3 b hb).2.2.2.2.1, (f3 b hb).2.2.2.2.2⟩
  have nC : H' ce.locals = none := I'.free
  have fC := I3.fpOk (H' := H') hC' nC
  show wpAny (model X.prog X.w) X.A (noteFrame (.ref a) ce) _ _ s'
  rw [noteFrame_env _ hcf]
  refine sky_note Zc.steady fr hf neL sky fun h1 held up1 => ?_
  obtain ⟨m, hn, _⟩ := I'.loc
  have hn : sI.heap.Ns ce.locals m := hn
  have hn1 : h1.Ns ce.locals m := hn.upToSlots fun b o e q => (up.trans up1) b o e q
  have fails : CompFails (model X.prog X.w) X.A X.xe ce (.ref a) { s' with heap := h1 } := by
    refine ⟨m, hn1, fun h2 m2 hn2 sb => ?_⟩
    obtain ⟨b0, b1, ff, oe, vs, t, ot, ts, e1, z, d1, i1, n1, n2, e2, d2, i3⟩ := held
    have dC : ∀ b o vs, h1.get? b = some o → o.data = .fields vs → b ≠ ce.locals := fun b o vs e q x => by
      obtain ⟨oL, es, ep, hoL, hdL, _⟩ := hn1
      subst x
      rw [e] at hoL
      cases hoL
      rw [q] at hdL
      cases hdL
    -- the ground, without the block
    have hid : ∀ b o, (PySem.W.hideAll B [ce.locals]).get? b = some o → B.get? b = some o ∧ b ≠ ce.locals := fun b o e => ⟨PySem.W.of_hideAll _ e, fun q => by
      subst q
      rw [PySem.W.hideAll_none _ List.mem_cons_self] at e
      cases e⟩
    have hide0 : ∀ b, B.get? b = none → (PySem.W.hideAll B [ce.locals]).get? b = none := fun b e => by
      cases q : (PySem.W.hideAll B [ce.locals]).get? b with
      | none => rfl
      | some o => rw [(hid b o q).1] at e; cases e
    have held2 : HandSPX.HeldZ (PySem.W.hideAll B [ce.locals]) (X.env :: X.outer) a (Zc cls d) X.env.locals h2 := by
      refine ⟨fun b o e => ?_, hide0 a b1, ?_, oe, vs, t, ot, ts, (sb.2 a (dC a oe vs e1 d1)).trans e1, z, d1, i1, hide0 t n1, n2, (sb.2 t (dC t ot ts e2 d2)).trans e2, d2, i3⟩
      · obtain ⟨q1, q2⟩ := hid b o e
        exact (sb.2 b q2).trans (b0 b o q1)
      · exact funFrames_none (Heap.FunFrames.sameBut sb hn2 ff) fun b hb => hide0 b (ff.mem hb).1
    unfold PySem.passOn
    refine wpAny_bind (wpAny_field ((sb.2 a (dC a oe vs e1 d1)).trans e1) d1 i1 ?_)
    have hne : ¬ ((Value.ref t == Value.none) = true) := by simp
    rw [if_neg hne, hcf, hf]
    refine wpAny_bind (HandSPX.setFlight_onZ held2 fun h4 held4 up4 => wpAny_throw (tk _ _ ?_))
    refine ⟨a, PySem.W.hideAll B [ce.locals], { sI with heap := PySem.W.hideAll sI.heap [ce.locals] }, pins, σ, H', cls, d, rfl, ?_, fun b o e hb => ?_, fun b o e q => ?_, .inr (.inr (by rw [hst]; exact held4)), na, os, ag, w⟩
    · exact J.turned (t' := sI.toks) (fun b o hb e => PySem.W.hideAll_get _ e (by simpa using hb)) nC fC.2.1 fC.2.2.2.1 fC.2.2.2.2.1 fC.2.2.2.2.2
    · have bC : b ≠ ce.locals := fun q => by
        subst q
        have e : (PySem.W.hideAll sI.heap [ce.locals]).get? ce.locals = some o := e
        rw [PySem.W.hideAll_none _ List.mem_cons_self] at e
        cases e
      rw [hst] at hb
      exact PySem.W.hideAll_get _ (nb b o (PySem.W.of_hideAll _ e) hb) (by simpa using bC)
    · have bC : b ≠ ce.locals := fun z => by
        subst z
        have e : (PySem.W.hideAll sI.heap [ce.locals]).get? ce.locals = some o := e
        rw [PySem.W.hideAll_none _ List.mem_cons_self] at e
        cases e
      obtain ⟨sl, q1⟩ := (up.trans up1) b o (PySem.W.of_hideAll _ e) q
      have q2 : h2.get? b = some { o with slots := sl } := (sb.2 b bC).trans q1
      exact up4 b { o with slots := sl } q2 q
  cases use with
  | none => exact fails
  | some u => exact fails
end
end Mi
/-! Mv25 -/
namespace Mi
open L2 PySem PySem.Spec PyProof.Rows
section
variable {X : Cx} {Wx : WX} {elt tg iter : Expr} {ifs : List Expr} {scope : Scope} {own : List (Str × Nat)} {pos : Pos} {wi : TI} {g : TG} {tt : TT} {te : L2.St → TE}
/-- the whole of it: as for an element that lets nothing out, each turn within the block's context; what is let out goes on in the def's -/
theorem lc_coreX {pins : List (Addr × Obj)} {s : Shared} {σ : L2.St} {H : Hp} {Q : VK} {pos' : Pos} {use : Option (Value → Sem Unit)} {Qf : Value → Shared → Prop} (hc : X.calm = true) (hN : X.N.Nodup) (hst : X.stack = X.env :: X.outer) (hf : X.env.frame = some X.env.locals) (tk : Takes X Wx)
    (I : Inv X pins σ H s) (hi : PI X tg iter wi) (ok : BlkOk X.N X.env.scope scope own)
    (hg  : ∀ (s : Shared) (H : Hp) (C : Addr) (cl : List (Str × Addr)) (fp : List Addr), PG (X.blk s H scope (compEnvC scope cl C X.env) fp) tg g) (ht : ∀ (s : Shared) (H : Hp) (C : Addr) (cl : List (Str × Addr)) (fp : List Addr), PTs (X.blk s H scope (compEnvC scope cl C X.env) fp) ifs tt)
    (he : ∀ (s : Shared) (H : Hp) (C : Addr) (cl : List (Str × Addr)) (fp : List Addr) (xe : Value → Shared → Prop), Takes (blkX X s H scope (compEnvC scope cl C X.env) fp xe) (fun c d _ H' => Wx c d σ H') → PE (blkX X s H scope (compEnvC scope cl C X.env) fp xe) elt (te σ)) (hs : ∀ x, foldedSetIterable iter X.env x = pure x)
    (h : tLc wi g tt (te σ) (own.map (·.2)) σ H Q)
    (hRR : ∀ D C cl s' m H', Inv X pins σ H' s' → Q (.ref D) H' → s'.heap.Ns C m → FpOk X pins H' C → compEnds (model X.prog X.w) X.A X.xe use Qf (.ref D) (compEnvC scope cl C X.env) (.ok .next) s') :
    wpAny  (model X.prog X.w) X.A (comprehension (.ListComp elt [⟨tg, iter, ifs, 0⟩] scope pos) scope X.env pos' (newList []) false (eval iter X.env) use) Qf X.xe s := by
  have free : ∀ y ∈ scope.names, y.2 = .free → ∃ c, X.env.cells.lookup y.1 = some c := by
    intro y hy e
    exact I.ok.has _ ((ok.free y hy e).elim .inl .inr)
  refine comprehension_at (use := use) rfl hs (closure_ok free) ok.kind (fun y hy e => by rw [ok.uniq y hy, e]) (thn (hi.run pins s σ H _ I h) fun xv s1 hx => thn hx fun itv s2 ⟨it, fp, tn, J, H2, e, I2, T, st2, f2, q⟩ => ?_)
  subst e
  refine wpAny_newObj_type (newEnv_comp ?_) (Nat.zero_le _)
  generalize  hD : s2.heap.objs.size = D
  have nD : H2 D = none := I2.hok.fresh (Nat.le_of_eq hD)
  obtain ⟨W, ⟨m0, w0⟩, turn⟩ := q D nD
  -- the list is laid
  obtain ⟨s3, hs3⟩ : ∃ s3 : Shared, s3 = { s2 with heap := s2.heap.push { cls := .type "list", data := .seq ([] : List Value).toArray } } := ⟨_, rfl⟩
  rw [← hs3]
  have hp3 : s3.heap = s2.heap.push { cls := .type "list", data := .seq ([] : List Value).toArray } := by rw [hs3]
  have  I3 : Inv X pins σ (upd H2 D (.lst [])) s3 := by
    rw [hs3]
    refine  I2.laid (t' := s2.toks) (fun b o e => Heap.get?_push_of_some _ e) (Nat.le_of_eq hD) ⟨Nat.zero_le _, [], 0, .nil, ?_⟩
    rw [← hD]
    exact  Heap.get?_push_size _ rfl
  have below : ∀ b ∈ fp, b < s2.heap.objs.size := by
    intro b hb
    obtain  ⟨o, e, _⟩ := T.obj _ _ st2 b hb
    exact Heap.lt_size e
  have f3 : ∀ b ∈ fp, FpOk X pins (upd H2 D (.lst [])) b ∧ b < s3.heap.objs.size := by
    intro b hb
    have lt := below b hb
    refine ⟨⟨?_, (f2 b hb).2⟩, by rw [hp3, Heap.size_push]; exact Nat.lt_succ_of_lt lt⟩
    rw [upd_ne (by rw [← hD]; exact Nat.ne_of_lt lt)]
    exact (f2 b hb).1
  have st3 : tn 0 s3.heap := T.keep _ _ _ st2 fun b _ o e => by rw [hp3]; exact Heap.get?_push_of_some _ e
  have  I4 := block_start I3 ok hN f3
  obtain ⟨cl, hcl⟩ : ∃ cl, cl = cellsFrom (s3.heap.objs.size + 1) scope.names (cloFrom X.env.cells scope.names []) := ⟨_, rfl⟩
  obtain ⟨C, hC⟩ : ∃ C, C = s3.heap.objs.size := ⟨_, rfl⟩
  obtain ⟨H3, hH3⟩ : ∃ H3, H3 = upd H2 D (.lst []) := ⟨_, rfl⟩
  have pg := hg s3 H3 C cl fp
  have pt := ht s3 H3 C cl fp
  show codeAny _ _ (.compStart (.ListComp elt [⟨tg, iter, ifs, 0⟩] scope pos) 0 (.ref it) (.ref D) (compEnvC scope (cellsFrom (s3.heap.objs.size + 1) scope.names (cloFrom X.env.cells scope.names [])) s3.heap.objs.size X.env))
    (compEnds (model X.prog X.w) X.A X.xe use Qf (.ref D) (compEnvC scope (cellsFrom (s3.heap.objs.size + 1) scope.names (cloFrom X.env.cells scope.names [])) s3.heap.objs.size X.env)) { s3 with heap := pushCells (s3.heap.push { cls := .type "dict", data := .dict #[] }) scope.names }
  rw [← hcl, ← hC]
  rw [← hcl, ← hC, ← hH3] at I4
  rw [← hH3] at I3 f3 w0
  have tkc := takes_comp (X := X) (Wx := Wx) (ce := compEnvC scope cl C X.env) (scope := scope) (use := use) (Qf := Qf) (acc := .ref D) I3 hst hf tk rfl (Nat.le_of_eq hC.symm) fun b hb => (f3 b hb).1
  have pe := he s3 H3 C cl fp _ tkc
  obtain ⟨ce, hce⟩ : ∃ ce, ce = compEnvC scope cl C X.env := ⟨_, rfl⟩
  have hcL : ce.locals = C := by rw [hce]; rfl
  obtain ⟨s4, hs4⟩ : ∃ s4 : Shared, s4 = { s3 with heap := pushCells (s3.heap.push { cls := .type "dict", data := .dict #[] }) scope.names } := ⟨_, rfl⟩
  have keep4 : ∀ b o, s3.heap.get? b = some o → s4.heap.get? b = some o := fun b o e => by rw [hs4]; exact pushCells_keeps _ _ _ _ (Heap.get?_push_of_some _ e)
  rw [← hs4, ← hce]
  rw [← hs4] at I4
  rw [← hce] at I4 pg pt pe
  have st4 : tn 0 s4.heap := T.keep _ _ _ st3 fun b _ o e => keep4 b o e
  have stat : ∀ {σ' : L2.St} {H' : Hp} {s' : Shared}, Inv (X.blk s3 H3 scope ce fp) [] σ' H' s' → (∀ b ∈ fp, H' b = none) → ∀ b ∈ fp, FpOk (X.blk s3 H3 scope ce fp) [] H' b := by
    intro σ' H' s' I' hn b hb
    exact ⟨hn b hb, (I'.ok.exf b hb).1, I'.ok.exfs b hb, .inl hb, fun x c e => (I'.ok.exf b hb).2 x c e, fun p hp => absurd (show p ∈ ([] : List (Addr × Obj)) ++ [] from hp) (by simp)⟩
  have noFp : ∀ b ∈ fp, H3 b = none := fun b hb => (f3 b hb).1.1
  have loop : codeAny (model X.prog X.w) X.A (.compLoop (.ListComp elt [⟨tg, iter, ifs, 0⟩] scope pos) 0 (.ref it) (.ref D) ce) (compEnds (model X.prog X.w) X.A X.xe use Qf (.ref D) ce) s4 := by
    refine compLoop_any (fun n s' => ∃ i H', Inv (X.blk s3 H3 scope ce fp) [] (wipe σ (own.map (·.2))) H' s' ∧ tn i s'.heap ∧ (∀ b ∈ fp, H' b = none) ∧ W i n H') ?_ m0 ⟨0, H3, I4, st4, noFp, w0⟩
    rintro  n s5 ⟨i, H5, I5, st5, n5, w5⟩
    rcases  turn i n H5 w5 with ⟨stop, qq⟩ | ⟨go, Nx, hNx, step⟩
    · refine thnF (T.done (X.blk s3 H3 scope ce fp) rfl rfl rfl hc i [] s5 _ H5 (fun _ _ => False) I5 (stat I5 n5) st5 stop) fun r s6 ⟨er, I6⟩ => ?_
      subst er
      have  I7 : Inv X pins σ H5 s6 := I3.call' (ch := fp) I6.os I6.base I6.hok I6.bare fun b hb => ⟨(f3 b hb).1.2.2.2.1, (f3 b hb).1.2.1, (f3 b hb).1.2.2.2.2.1, (f3 b hb).1.2.2.2.2.2⟩
      have nC : H5 C = none := by rw [← hcL]; exact I6.free
      obtain ⟨m, hn, _⟩ := I6.loc
      have  hn : s6.heap.Ns ce.locals m := hn
      rw [hcL] at hn
      rw [hce]
      exact hRR D C cl s6 m H5 I7 qq hn (I3.fpOk (Nat.le_of_eq hC.symm) nC)
    · refine thnF (T.item (X.blk s3 H3 scope ce fp) rfl rfl rfl hc i [] s5 _ H5 (fun _ _ => False) I5 (stat I5 n5) st5 go) fun r s6 ⟨u, er, h6⟩ => ?_
      subst er
      refine  thnF h6 fun _ s7 ⟨x, H7, I7, r7, y7, st7, n7⟩ => ?_
      refine thnF (pg.run _ s7 _ H7 x u _ (I7.pinned (stat I7 n7) (T.obj _ _ st7)) r7 (step x H7 y7)) fun _ s8 ⟨σ8, H8, I8, hw8, q8⟩ => ?_
      refine  thnF (pt.run _ s8 σ8 H8 _ I8 q8) fun b s9 ⟨H9, I9, q9⟩ => ?_
      have next : ∀ {s' : Shared} {H' : Hp}, Inv (X.blk s3 H3 scope ce fp) ([] ++ pinsAt fp s7.heap) σ8 H' s' → Nx H' → ∃ m, m < n ∧ ∃ i H', Inv (X.blk s3 H3 scope ce fp) [] (wipe σ (own.map (·.2))) H' s' ∧ tn i s'.heap ∧ (∀ b ∈ fp, H' b = none) ∧ W i m H' := by
        intro s' H' I' nx
        obtain ⟨m', lt, w'⟩ := hNx H' nx
        have at_ : ∀ b ∈ fp, ∀ o, s7.heap.get? b = some o → s'.heap.get? b = some o ∧ H' b = none := by
          intro b hb o e
          have z := I'.pin (b, o) (List.mem_append_right _ (List.mem_append_right _ (mem_pinsAt hb e)))
          exact ⟨z.1, z.2.1⟩
        have len : (wipe σ (own.map (·.2))).length = σ8.length := by rw [← hw8, wipe_length]
        refine ⟨m', lt, i + 1, H', (I'.unpinned (pins := [])).weak len (fun j v e => ?_), T.keep _ _ _ st7 fun b hb o e => (at_ b hb o e).1, fun b hb => ?_, w'⟩
        · rw [← hw8] at e
          exact (wipe_some e).1
        · obtain  ⟨o, e, _⟩ := T.obj _ _ st7 b hb
          exact (at_ b hb o e).2
      cases b with
      | false =>
        rw [if_neg (by decide)] at q9 ⊢
        exact next I9 q9
      | true =>
        rw [if_pos rfl] at q9 ⊢
        refine wpAny_mono (pe.run _ s9 σ8 H9 _ (invX I9) q9) (fun z s10 ⟨yv, H10, I10, r10, acc, hD10, hz10, nx⟩ => ?_) fun _ _ z => z
        exact app_ok (X := X.blk s3 H3 scope ce fp) (invB I10) hD10 hz10 r10 fun s11 I11 => next I11 nx
  exact  codeAny_compStart_list loop (T.self X.A 0 _ _ _ st4 loop)
/--  name = [..] on one line, the name a local -/
theorem ps_setLcX {i : Nat} {y : Str} {py spos : Pos} (hc : X.calm = true) (hN : X.N.Nodup) (hst : X.stack = X.env :: X.outer) (hf : X.env.frame = some X.env.locals) (tk : Takes X Wx) (hy : X.N[i]? = some y) (hyl : X.env.scope.names.lookup y = some .local)
    (hsw  : swapsWith (.ListComp elt [⟨tg, iter, ifs, 0⟩] scope pos) (some (.Name y py)) spos.line X.env = pure true) (hi : PI X tg iter wi) (ok : BlkOk X.N X.env.scope scope own)
    (hg  : ∀ (s : Shared) (H : Hp) (C : Addr) (cl : List (Str × Addr)) (fp : List Addr), PG (X.blk s H scope (compEnvC scope cl C X.env) fp) tg g) (ht : ∀ (s : Shared) (H : Hp) (C : Addr) (cl : List (Str × Addr)) (fp : List Addr), PTs (X.blk s H scope (compEnvC scope cl C X.env) fp) ifs tt)
    (he : ∀ (σ : L2.St) (s : Shared) (H : Hp) (C : Addr) (cl : List (Str × Addr)) (fp : List Addr) (xe : Value → Shared → Prop), Takes (blkX X s H scope (compEnvC scope cl C X.env) fp xe) (fun c d _ H' => Wx c d σ H') → PE (blkX X s H scope (compEnvC scope cl C X.env) fp xe) elt (te σ)) (hs : ∀ x, foldedSetIterable iter X.env x = pure x := by intro _; rfl) :
    PS X (.Assign [.Name y py] (.ListComp elt [⟨tg, iter, ifs, 0⟩] scope pos) spos) (tAsg (fun σ H Q => tLc wi g tt (te σ) (own.map (·.2)) σ H Q) (gName i)) := by
  refine  ⟨fun pins s σ H D I h => ?_⟩
  rw  [exec_Assign_Name_used _ _ _ _ hsw]
  refine  wpAny_bind (wpAny_standAt (wpAny_bind ?_))
  have h : tLc wi g tt (te σ) (own.map (·.2)) σ H (fun x H1 => gName i x σ H1 D.nx) := h
  show  wpAny _ X.A (do let _ ← comprehension (.ListComp elt [⟨tg, iter, ifs, 0⟩] scope pos) scope X.env (firstIterPos [⟨tg, iter, ifs, 0⟩] pos) (newList []) false (eval iter X.env) (some (assign (.Name y py) X.env))) _ _ s
  refine wpAny_bind (thn (lc_coreX (Qf := fun _ s' => SP X pins D .next s') hc hN hst hf tk I hi ok hg ht (he σ) hs h fun L C cl s' m H' I' q hn f => ?_) fun _ s' hq => wpAny_pure (wpAny_pure hq))
  show  wpAny _ _ (assign (.Name y py) X.env (.ref L)) _ _ _
  refine  wpAny_assign_Name (store_ok2 (v := V.ref L) I' hN hy (.inl hyl) rfl (fun s2 I2 ⟨a, sb, ha⟩ => ?_) (.inr hyl))
  have ne : C ≠ a := by
    rcases ha with z | z
    · rw [z]; exact f.2.1
    · exact fun e => f.2.2.2.2.1 y a z e.symm
  exact ⟨m, hn.sameBut sb ne, fun h3 sb3 => ⟨_, H', I2.turned (t' := s2.toks) (fun b o hb e => (sb3.2 b hb).trans e) f.1 f.2.1 f.2.2.2.1 f.2.2.2.2.1 f.2.2.2.2.2, q⟩⟩
end
/-! ### its mirror -/
def lcE (ga : D → Env → Option Env) (gt : Env → Sto → Res Bool) (fe : Env → Sto → Res D) (it : ItM) (env0 : Env) : Nat → Nat → Sto → List D → Res (List D)
  | 0, i, st, acc => match it.nth st i with
    | some none => .ok acc st
    | _ => .bad
  | m + 1, i, st, acc => match it.nth st i with
    | some none => .ok acc st
    | some (some d) => match ga d env0 with
      | some env1 => match gt env1 st with
        | .ok true st1 => (fe env1 st1).bind fun z st2 => if acc.length < LIM then lcE ga gt fe it env0 m (i + 1) st2 (acc ++ [z]) else .bad
        | .ok false st1 => lcE ga gt fe it env0 m (i + 1) st1 acc
        | _ => .bad
      | none => .bad
    | none => .bad
def lcX (us : List Nat) (fi : Env → Sto → Res ItM) (ga : D → Env → Option Env) (gt : Env → Sto → Res Bool) (fe : Env → Sto → Res D) (env : Env) (st : Sto) : Res D := (fi env st).bind fun it s =>
  (lcE ga gt fe it (wipeE env us) it.most 0 s []).bind fun acc s2 => optR ((plains acc).map fun ts => .t (.lst ts)) s2
theorem lc_runX {K : PySem.W.Frag} {Wb : WX} {us : List Nat} {ga : D → Env → Option Env} {gt : Env → Sto → Res Bool} {fe : Env → Sto → Res D} {σ : L2.St} {W1 : Wd} {H1 : Hp} {J : It} {it : ItM} {env : Env} {s : Sto} {Q : VK} {r : Res (List D)} {Bx : Addr → Option Addr → Hp → Prop}
    (R1 : Rl K W1 s H1) (Ev : EnvR K W1 H1 env σ) (j : JOk K J it W1 H1) (hr : lcE ga gt fe it (wipeE env us) it.most 0 s [] = r)
    (fin : ∀ acc' s' L W H vs, r = .ok acc' s' → H1 L = none → LcW K W1 H1 L W s' H acc' vs → Q (.ref L) H) (nb : r ≠ .bad)
    (exc : ∀ C fs s' σ', r = .exc C fs s' → OkX K W1 H1 (fun c o H' => Wb c o σ' H') C fs s') :
    ∀ D, H1 D = none → ∃ Wn : Nat → Nat → Hp → Prop, (∃ m, Wn 0 m (upd H1 D (.lst []))) ∧ ∀ i m H, Wn i m H →
      (J.stop i H ∧ Q (.ref D) H) ∨ (J.go i H ∧ ∃ Nx : Hp → Prop, (∀ H', Nx H' → ∃ m', m' < m ∧ Wn (i + 1) m' H') ∧ ∀ x H', J.yld i H x H' → tG K us ga x (wipe σ us) H' fun σ2 H2 => wipe σ2 us = wipe σ us ∧ tT K W0 gt σ2 H2 fun b H3 => if b = true then tE K Wb fe σ2 H3 fun y H4 => ∃ acc, H4 D = some (.lst acc) ∧ acc.length < sizeLine ∧ Nx (upd H4 D (.lst (acc ++ [y]))) else Nx H3) := by
  intro L hL
  refine ⟨fun i m H => ∃ W st acc vs, LcW K W1 H1 L W st H acc vs ∧ lcE ga gt fe it (wipeE env us) m i st acc = r, ⟨it.most, W1, s, [], [], ⟨R1.more hL, R1.rest hL, upd_same, fun hm => ?_, fun hf => ?_, rfl⟩, hr⟩, ?_⟩
  · obtain ⟨u, q⟩ := R1.mem hm
    rw [hL] at q
    cases q
  · obtain ⟨u, q⟩ := R1.fz _ hf
    rw [hL] at q
    cases q
  rintro i m H ⟨W, st, acc, vs, w, h⟩
  obtain ⟨j1, j2⟩ := j W H st i w.E w.R
  cases q : it.nth st i with
  | none =>
    refine absurd h.symm ?_
    cases m with
    | zero => unfold lcE; rw [q]; exact nb
    | succ m => unfold lcE; rw [q]; exact nb
  | some od =>
    cases od with
    | none =>
      have e : r = .ok acc st := by
        rw [← h]
        cases m with
        | zero => unfold lcE; rw [q]
        | succ m => unfold lcE; rw [q]
      exact .inl ⟨j1 q, fin acc st L W H vs e hL w⟩
    | some d =>
      cases m with
      | zero =>
        refine absurd h.symm ?_
        unfold lcE
        rw [q]
        exact nb
      | succ m =>
        obtain ⟨jg, jy⟩ := j2 d q
        refine .inr ⟨jg, fun H' => ∃ W st acc vs, LcW K W1 H1 L W st H' acc vs ∧ lcE ga gt fe it (wipeE env us) m (i + 1) st acc = r, fun H' h => ⟨m, Nat.lt_succ_self m, h⟩, fun x H3 hy => ?_⟩
        obtain ⟨W3, E3, R3, r3⟩ := jy x H3 hy
        have w3 := w.step E3 R3
        unfold lcE at h
        simp only [q] at h
        cases q2 : ga d (wipeE env us) with
        | none => rw [q2] at h; exact absurd h.symm nb
        | some env1 =>
          simp only [q2] at h
          refine ⟨W3, wipeE env us, st, d, env1, R3, (Ev.mono w3.E R1).wipe us, r3, q2, fun σ3 Ev3 ag => ⟨ag.wipe, W3, env1, st, R3, Ev3, ?_⟩⟩
          cases q3 : gt env1 st with
          | bad => simp only [q3] at h; exact absurd h.symm nb
          | exc C x y => simp only [q3] at h; exact absurd h.symm nb
          | ok k st1 =>
            intro W4 H4 E4 R4
            have w4 := w3.step E4 R4
            cases k with
            | false =>
              simp only [q3] at h
              exact ite_ff ⟨W4, st1, acc, vs, w4, h⟩
            | true =>
              simp only [q3] at h
              refine ite_tt ⟨W4, env1, st1, R4, Ev3.mono E4 R3, ?_⟩
              cases q4 : fe env1 st1 with
              | bad => rw [q4] at h; exact absurd h.symm nb
              | exc C x y =>
                rw [q4] at h
                exact (exc C x y σ3 h.symm).mono w4.E
              | ok z st2 =>
                rw [q4] at h
                have h : (if acc.length < LIM then lcE ga gt fe it (wipeE env us) m (i + 1) st2 (acc ++ [z]) else .bad) = r := h
                split at h
                · rename_i hl
                  intro W5 H5 y E5 R5 r5
                  have w5 := w4.step E5 R5
                  exact ⟨vs, w5.at_, by rw [relDs_len w5.rr]; exact lim_lt (Nat.le_of_lt hl), W5, st2, acc ++ [z], vs ++ [y], w5.put hL r5, h⟩
                · exact absurd h.symm nb
section
variable {X : Cx} {Wx : WX} {elt tg iter : Expr} {ifs : List Expr} {scope : Scope} {own : List (Str × Nat)} {pos : Pos} {ga : D → Env → Option Env} {gt : Env → Sto → Res Bool} {fe : Env → Sto → Res D} {fit : Env → Sto → Res ItM}
theorem rs_setLcX {i : Nat} {y : Str} {py spos : Pos} (hc : X.calm = true) (hN : X.N.Nodup) (hst : X.stack = X.env :: X.outer) (hf : X.env.frame = some X.env.locals) (tk : Takes X Wx) (hy : X.N[i]? = some y) (hyl : X.env.scope.names.lookup y = some .local)
    (hsw : swapsWith (.ListComp elt [⟨tg, iter, ifs, 0⟩] scope pos) (some (.Name y py)) spos.line X.env = pure true) (hi : RI X Wx tg iter fit) (ok : BlkOk X.N X.env.scope scope own)
    (hg : ∀ (s : Shared) (H : Hp) (C : Addr) (cl : List (Str × Addr)) (fp : List Addr), RG (X.blk s H scope (compEnvC scope cl C X.env) fp) (own.map (·.2)) tg ga) (ht : ∀ (s : Shared) (H : Hp) (C : Addr) (cl : List (Str × Addr)) (fp : List Addr), RTs (X.blk s H scope (compEnvC scope cl C X.env) fp) ifs gt)
    (he : ∀ (Wb : WX) (s : Shared) (H : Hp) (C : Addr) (cl : List (Str × Addr)) (fp : List Addr) (xe : Value → Shared → Prop), Takes (blkX X s H scope (compEnvC scope cl C X.env) fp xe) Wb → RE (blkX X s H scope (compEnvC scope cl C X.env) fp xe) Wb elt fe) (hs : ∀ x, foldedSetIterable iter X.env x = pure x := by intro _; rfl) :
    RS X Wx (.Assign [.Name y py] (.ListComp elt [⟨tg, iter, ifs, 0⟩] scope pos) spos) (setM i (lcX (own.map (·.2)) fit ga gt fe)) := by
  refine PS.conv (ps_setLcX (g := tG X.K (own.map (·.2)) ga) (tt := tT X.K W0 gt) (te := fun σ => tE X.K (fun c d _ H' => Wx c d σ H') fe) hc hN hst hf tk hy hyl hsw hi ok hg ht (fun σ s H C cl fp xe t => he _ s H C cl fp xe t) hs) fun E σ H ⟨W, env, st, R, Ev, h⟩ => ?_
  have hh := out_split h Ev R (A := fun d s => Out.Holds X.K Wx E W H (.nx (env.set i (some d)) s)) fun d s q => q
  refine ⟨W, env, st, R, Ev, split hh (fun it s h1 W1 H1 J E1 R1 j => ?_) fun C fs st' hx => hx⟩
  refine lc_runX (Wb := fun c d _ H' => Wx c d σ H') (Bx := fun _ _ _ => True) (Q := fun x H1 => gName _ x σ H1 E.nx) R1 (Ev.mono E1 R) j rfl (fun acc s2 L W2 H2 vs e hL w => ?_) (fun e => ?_) fun C fs s2 σ' e => ?_
  · rw [e] at h1
    obtain ⟨z, e1, q⟩ := optR_holds (show (optR ((plains acc).map fun ts => D.t (.lst ts)) s2).Holds _ _ from h1)
    cases e2 : plains acc with
    | none => rw [e2] at e1; cases e1
    | some ts =>
      rw [e2] at e1
      cases e1
      obtain ⟨a1, a2, a3⟩ := w.fixed hL
      exact q _ _ H2 (E1.trans a1) a2 (((Ev.mono E1 R).mono a1 R1).set i ⟨L, vs, rfl, .inr rfl, w.at_, a3.relTs _ _ (relTs_of e2 w.rr)⟩)
  · rw [e] at h1
    exact h1.elim
  · rw [e] at h1
    exact OkX.mono (show OkX X.K W H (fun c o H' => Wx c o σ H') C fs s2 from h1) E1
end
end Mi
/-! Mv26 -/
namespace Mi
open L2 PySem PySem.Spec PyProof.Rows
/-! ### o.f op= e of an own instance -/
section
variable {X : Cx} {Wx : WX} {e o : Expr} {f fo fv : Env → Sto → Res D} {n : Str} {pos tpos : Pos}
def augEnd (C : Addr) (n : Str) (m : Nat) (z : D) (env : Env) (st : Sto) : Out := match st[m]? with
  | some (.ins C' fs') => if C' = C ∧ fs'.length < 1000 then .nx env (st.set m (.ins C' (putD n z fs'))) else .bad
  | _ => .bad
def augAtM (cs : Addr → Bool) (n : Str) (g : D → D → Sto → Option D) (fo fv : Env → Sto → Res D) (env : Env) (st : Sto) : Out := (fo env st).out env fun d s => match d with
  | .r m => match s[m]? with
    | some (.ins C fs) => if cs C = true then (match fs.lookup n with
      | some v => (fv env s).out env fun y s2 => (optR (g v y s2) s2).out env fun z s3 => augEnd C n m z env s3
      | none => .bad) else .bad
    | _ => .bad
  | _ => .bad
theorem rs_augAt {cs : Addr → Bool} {op : Operator} {gv : D → D → Sto → Option D} (hcs : ∀ C, cs C = true → FldC X.K C n) (ho : RE X Wx o fo) (hv : RE X Wx e fv) (hop : OpR X (inplaceOp op) (rM X.K gv)) : RS X Wx (.AugAssign (.Attribute o n tpos) op e pos) (augAtM cs n gv fo fv) := by
  refine PS.conv (ps_fldaug (rd := fun x y H Q => rM X.K gv x y H Q) ho hv (fun pins s σ H x y u v Q I r1 r2 h => hop pins s σ H x y u v Q I r1 r2 h)) fun E σ H ⟨W, env, st, R, Ev, h⟩ => ⟨W, env, st, R, Ev, out_split h Ev R fun d s h1 W1 H1 w E1 R1 r1 => ?_⟩
  cases d with
  | t x => exact h1.elim
  | x => exact h1.elim
  | r m =>
    dsimp only at h1
    cases q : s[m]? with
    | none => rw [q] at h1; exact h1.elim
    | some so =>
      rw [q] at h1
      cases so with
      | lst => exact h1.elim
      | dk => exact h1.elim
      | dt => exact h1.elim
      | exc => exact h1.elim
      | ins C fs =>
        dsimp only at h1
        split at h1
        · rename_i c
          have fc := hcs C c
          have r0 := r1
          obtain ⟨a, ea, rfl⟩ := r1
          obtain ⟨dx, vs, q1, q2⟩ := R1.live m a _ ea q
          cases l : fs.lookup n with
          | none => rw [l] at h1; exact h1.elim
          | some v =>
            rw [l] at h1
            dsimp only at h1
            obtain ⟨y0, l0, ry0⟩ := relKs_get q2 l
            have Ev1 := Ev.mono E1 R
            refine ⟨a, C, dx, vs, y0, rfl, q1, fc.c, fc.n, l0, W1, env, s, R1, Ev1, out_split (Out.Holds.mono h1 E1) Ev1 R1 fun y s2 h2 W2 H2 w2 E2 R2 r2 => ?_⟩
            cases q3 : gv v y s2 with
            | none => rw [q3] at h2; exact h2.elim
            | some z =>
              rw [q3] at h2
              refine ⟨W2, s2, v, y, R2, E2.relD R1 ry0, r2, z, q3, fun W3 H3 y3 E3 R3 r3 => ?_⟩
              have h3 : (augEnd C n m z env s2).Holds X.K Wx E W1 H1 := h2
              unfold augEnd at h3
              cases q4 : s2[m]? with
              | none => rw [q4] at h3; exact h3.elim
              | some so2 =>
                rw [q4] at h3
                cases so2 with
                | lst => exact h3.elim
                | dk => exact h3.elim
                | dt => exact h3.elim
                | exc => exact h3.elim
                | ins C' fs' =>
                  dsimp only at h3
                  split at h3
                  · rename_i c2
                    obtain ⟨rfl, c3⟩ := c2
                    obtain ⟨a3, ea3, e3⟩ := E3.relD R2 (E2.relD R1 r0)
                    cases e3
                    obtain ⟨dx', vs', q5, q6⟩ := R3.live m a _ ea3 q4
                    refine ⟨dx', vs', q5, by rw [relKs_len q6]; exact c3, ?_⟩
                    have E4 : Ext W3 H3 W3 (upd H3 a (.ins C' dx' (putF n y3 vs'))) := Ext.put ea3 q5
                    have R4 := R3.putO (so := .ins C' (putD n z fs')) ea3 q5 ⟨dx', _, upd_same, putD_rel (E4.relD R3 r3) ((E4.kt R3).relKs (List.prefix_refl _) q6)⟩
                    exact h3 W3 σ _ (E2.trans (E3.trans E4)) R4 ((Ev1.mono E2 R1).mono (E3.trans E4) R2)
                  · exact h3.elim
        · exact h1.elim
end
end Mi
/-! Mv27 -/
namespace Mi
open L2 PySem PySem.Spec PySem.Calls PyProof.Rows PySem.W
/-! ### with, an own class's, a body that may raise -/
section
variable {prog : Program} {w : World} {A : Around} {E : Value → Shared → Prop} {s : Shared} {env : PySem.Env} {K : Frag} {x C fe fx : Addr} {ox : Obj} {od : Option Obj} {pos : Pos}
/-- what is done with an exception of the body -/
def withRest (pos : Pos) (env : PySem.Env) (fx x : Addr) (e : Value) : Sem Flow := do
  standAt pos
  holding [e] do
  let r ← withItem.marked e (.call (.ref fx) ⟨[.ref x] ++ [← typeOf e, e, ← tracebackOf e], []⟩)
  let swallow ← match r with
    | .none => pure false
    | .bool b => pure b
    | _ => do pure ((← withItem.marked e (.call (.type "bool") ⟨[r], []⟩)) == .bool true)
  if  swallow then rule "with.exit-swallows"; setFlight e none; pure .next else passOn "with" e env
theorem kw_coreX {b : Value → Sem Unit} {bdy : Sem Flow} {Q : Flow → Shared → Prop} {EX : Value → Shared → Prop} (X : K.In s.heap) (I : InstAt s.heap x ox C od) (he : findIn K (.ref C) "__enter__" = some (some (.ref fe))) (hfe : isFn K (.ref fe) = true) (hx : findIn K (.ref C) "__exit__" = some (some (.ref fx))) (hfx : isFn K (.ref fx) = true)
    (hX : ∀ e s', EX e s' → wpAny (model prog w) A (noteFrame e env) (fun _ s1 => wpAny (model prog w) A (setFlight e none) (fun _ s2 => wpAny (model prog w) A (withRest pos env fx x e) Q E s2) E s1) E s')
    (h : wpAny (model prog w) A (call (.ref fe) [.ref x]) (fun v s₂ => wpAny (model prog w) A (b v) (fun _ s₃ => wpAny (model prog w) A bdy (fun f s₄ => wpAny (model prog w) A (call (.ref fx) [.ref x, .none, .none, .none]) (fun _ s₅ => Q f s₅) E s₄) EX s₃) EX s₂) E s) :
    wpAny  (model prog w) A (withItem false pos env (pure (.ref x)) (some b) bdy) Q E s := by
  obtain  ⟨cd, hcd, ae⟩ := kw_along he
  obtain  ⟨cd', hcd', ax⟩ := kw_along hx
  cases hcd.symm.trans hcd'
  obtain  ⟨hh, g, d, tt, os⟩ := s
  have  L1 : Looks (model prog w) hh (specialOnItsLine (.ref x) "__enter__") (some (.ref fe), cd.mro) := kw_special X I hcd ae
  have  L2 : Looks (model prog w) hh (specialOnItsLine (.ref x) "__exit__") (some (.ref fx), cd.mro) := kw_special X I hcd ax
  have  L3 : Looks (model prog w) hh (bindSpecial (.ref fe) (.ref x)) (.ref fe, [.ref x]) := bind_fn X _ (beq_iff_eq.mp hfe)
  have  L4 : Looks (model prog w) hh (bindSpecial (.ref fx) (.ref x)) (.ref fx, [.ref x]) := bind_fn X _ (beq_iff_eq.mp hfx)
  have  L5 : Looks (model prog w) hh (aMethodOfAnotherBuiltinTypeStops (.ref fe) cd.mro) () := Looks.of_pure rfl
  have  L6 : Looks (model prog w) hh (aMethodOfAnotherBuiltinTypeStops (.ref fx) cd.mro) () := Looks.of_pure rfl
  unfold withItem
  refine  wpAny_bind (wpAny_pure ?_)
  refine  wpAny_bind (wpAny_standAt ?_)
  simp  only [Bool.false_eq_true, if_false]
  kw_lk
  refine  wpAny_mono h (fun v s₂ h₂ => ?_) fun _ _ z => z
  kw_lk
  refine  wpAny_attempt (kw_held ?_)
  show  wpAny _ _ (b v >>= fun _ => bdy) _ _ _
  have exc : ∀ e s', EX e s' → wpAny (model prog w) A (do
      noteFrame e env
      setFlight e none
      withRest pos env fx x e) Q E s' := fun e s' z => wpAny_bind (wpAny_mono (hX e s' z) (fun _ s1 z => wpAny_bind (wpAny_mono z (fun _ _ z => z) fun _ _ z => z)) fun _ _ z => z)
  refine wpAny_bind (wpAny_mono h₂ (fun _ s₃ h₃ => wpAny_mono h₃ (fun f s₄ h₄ => ?_) fun e s' z => ?_) fun e s' z => ?_)
  · kw_lk
    refine  wpAny_mono h₄ (fun _ s₅ h₅ => ?_) fun _ _ z => z
    kw_lk
    exact h₅
  · exact exc e s' z
  · exact exc e s' z
end
section
variable {X : Cx} {pos : Pos} {Wout : WX} {k : Nat} {fx x : Addr} {fd : FuncData} {ps : List Str} {sq : Sp}
/-- what is wished of an exception of the body: the exit runs, then Wout -/
def wWith (sq : Sp) (x : Addr) (Wout : WX) : WX := fun cls d σ H => ∃ c, cls = .ref c ∧ ∀ va vt, sq [.ref x, .ref c, va, vt] H (fun v H2 => v = .non ∧ Wout cls d σ H2) fun _ _ _ => False
theorem with_exc {pins : List (Addr × Obj)} {D : Ends} {u : Value} {s' : Shared} {xe : Value → Shared → Prop} (Gq : FnQ X.prog X.w X.K X.mg X.base k fx fd ps sq) (hb : Binds X.K fd ps []) (hr : L2H.RoomH k X.A) (hs : X.stack = X.env :: X.outer) (hf : X.env.frame = some X.env.locals) (hex : X.ex = []) (ok : X.Ok) (tk : Takes X Wout)
    (xx : XE (X.tr (X.pn ++ pins) xe) (wWith sq x Wout) u s') :
    wpAny (model X.prog X.w) X.A (noteFrame u X.env) (fun _ s1 => wpAny (model X.prog X.w) X.A (setFlight u none) (fun _ s2 => wpAny (model X.prog X.w) X.A (withRest pos X.env fx x u) (SP X pins D) X.xe s2) X.xe s1) X.xe s' := by
  have  hfr : X.A.frames = some (X.env :: X.outer) := by rw [ok.frames, hs]
  obtain  ⟨a, B, sI, pins', σ', H', cls, d, rfl, J', nb, up, sky, na, os, ag, hw⟩ := xx
  obtain ⟨c, rfl, hw⟩ := hw
  have  J : Inv X pins σ' H' sI := J'.ofTry ok
  have sky' : Sky B (X.env :: X.outer) a (Zc (.ref c) d) X.env.locals s'.heap := by rw [← hs]; exact sky
  show  wpAny (model X.prog X.w) X.A (noteFrame (.ref a) X.env) _ _ _
  refine  Sky.land Zc.steady hfr hf sky' fun h3 fl3 up3 => ?_
  have  J3 : Inv X pins σ' H' { s' with heap := h3 } := J.landed nb fl3.1 (up.trans up3) os ag
  obtain  ⟨k1, k2, k3, oe, vs, T, oT, ts, he3, hz, hd, hv1, hnT, hTe, hT, hdT, ht3⟩ := id fl3
  have  nT : H' T = none := (J.inGround nb).gone hnT
  have  notFr : ∀ (b : Addr) (o : Obj) (fv : Array Value), h3.get? b = some o → o.data = .fields fv → b ∉ frs (X.env :: X.outer) := fun b o fv e dd hm => by
    obtain  ⟨_, o', e', hnf⟩ := k3.mem hm
    have  eo : o = o' := Option.some.inj (e.symm.trans e')
    rw [← eo] at hnf
    exact hnf _ dd
  have  locF : X.env.locals ∈ frs (X.env :: X.outer) := List.mem_filterMap.mpr ⟨X.env, List.mem_cons_self, hf⟩
  have  fsF : ∀ b, b ∈ X.fs → b ∈ frs (X.env :: X.outer) := fun b hm => by
    obtain  ⟨e, he, q⟩ := List.mem_filterMap.mp hm
    exact  List.mem_filterMap.mpr ⟨e, List.mem_cons_of_mem _ he, q⟩
  have  fa := notFr a oe vs he3 hd
  have  fT := notFr T oT ts hT hdT
  have  S3 : Inv (X.suite a ((a, oe) :: (T, oT) :: (X.pn ++ pins))) [] σ' H' { s' with heap := h3 } :=
    ⟨J3.ok.suite  _ _, J3.os, J3.bare, J3.base, J3.loc, J3.cell, J3.free, J3.freeC, fun p hp => by
      rw [List.append_nil] at hp
      rcases  List.mem_cons.mp hp with z | hp
      · rw [z]
        exact  ⟨he3, na, fun z2 => fa (by rw [show a = X.env.locals from z2]; exact locF), fun z2 => fa (fsF _ z2), fun v z2 => by
          have  z3 : oe.data = .cell v := z2
          rw [hd] at z3
          cases z3⟩
      · rcases  List.mem_cons.mp hp with z | hp
        · rw [z]
          exact  ⟨hT, nT, fun z2 => fT (by rw [show T = X.env.locals from z2]; exact locF), fun z2 => fT (fsF _ z2), fun v z2 => by
            have  z3 : oT.data = .cell v := z2
            rw [hdT] at z3
            cases z3⟩
        · exact  J3.pin p hp, J3.hok, J3.len⟩
  -- on it goes
  have onward : ∀ (s6 : Shared) (H6 : Hp), Inv (X.suite a ((a, oe) :: (T, oT) :: (X.pn ++ pins))) [] σ' H6 s6 → Wout (.ref c) d σ' H6 → wpAny (model X.prog X.w) X.A (PySem.passOn "with" (.ref a) X.env) (SP X pins D) X.xe s6 := fun s6 H6 S6 q6 => by
    have J6 : Inv X pins σ' H6 s6 := ⟨ok, S6.os, S6.bare, S6.base, S6.loc, S6.cell, S6.free, S6.freeC, fun p hp => S6.pin p (List.mem_append_left _ (List.mem_cons_of_mem _ (List.mem_cons_of_mem _ hp))), S6.hok, S6.len⟩
    have  pa := S6.pin (a, oe) (List.mem_append_left _ List.mem_cons_self)
    have  pT := S6.pin (T, oT) (List.mem_append_left _ (List.mem_cons_of_mem _ List.mem_cons_self))
    have  ga : s6.heap.get? a = some oe := pa.1
    have  gT : s6.heap.get? T = some oT := pT.1
    have  na6 : H6 a = none := pa.2.1
    have  nT6 : H6 T = none := pT.2.1
    have  far : ∀ b o, sI.heap.get? b = some o → b ≠ a ∧ b ≠ T := fun b o e => by
      by_cases hb : b ∈ frs X.stack
      · rw [hs] at hb
        exact  ⟨fun z => fa (by rw [← z]; exact hb), fun z => fT (by rw [← z]; exact hb)⟩
      · have q := nb b o e hb
        exact ⟨fun z => by
          rw [z, k2] at q
          exact  (nomatch q), fun z => by
          rw [z, hnT] at q
          cases q⟩
    have  far0 : ∀ b o, X.s_0.heap.get? b = some o → b ≠ a ∧ b ≠ T := fun b o e => by
      obtain  ⟨o', q⟩ := J.base.there b o e (by rw [hex]; simp)
      exact far b o' q
    have  farP : ∀ p ∈ X.pn ++ pins, p.1 ≠ a ∧ p.1 ≠ T := fun p hp => far p.1 p.2 (J.pin p hp).1
    obtain  ⟨G, g1, g2⟩ := restrict s6.heap fun b => !(decide (b = a) || decide (b = T))
    have  gIn : ∀ b o, G.get? b = some o → s6.heap.get? b = some o ∧ b ≠ a ∧ b ≠ T := fun b o e => by
      cases  q : (!(decide (b = a) || decide (b = T))) with
      | false =>
        rw [g2 b q] at e
        cases e
      | true =>
        rw [g1 b q] at e
        simp  only [Bool.not_eq_true', Bool.or_eq_false_iff, decide_eq_false_iff_not] at q
        exact ⟨e, q.1, q.2⟩
    have  gOf : ∀ b o, b ≠ a → b ≠ T → s6.heap.get? b = some o → G.get? b = some o := fun b o h1 h2 e => by
      rw [g1 b (by simp [h1, h2])]
      exact e
    have I6 : Inv X pins σ' H6 { s6 with heap := G } := Inv.less J6 (fun b o e => (gIn b o e).1) gOf ⟨oe, vs, ga, hd⟩ ⟨oT, ts, gT, hdT⟩ na6 nT6 far0 farP
    have  B6in : ∀ b o, (PySem.W.hideAll G (frs X.stack)).get? b = some o → s6.heap.get? b = some o := fun b o e => (gIn b o (PySem.W.of_hideAll _ e)).1
    have  Bno : ∀ b, (b = a ∨ b = T) → (PySem.W.hideAll G (frs X.stack)).get? b = none := fun b hb => by
      cases  q : (PySem.W.hideAll G (frs X.stack)).get? b with
      | none => rfl
      | some o =>
        obtain  ⟨_, n1, n2⟩ := gIn b o (PySem.W.of_hideAll _ q)
        rcases hb with z | z
        · exact absurd z n1
        · exact absurd z n2
    have fl6 : HandSPX.FlyingZ (PySem.W.hideAll G (frs X.stack)) (X.env :: X.outer) a (Zc (.ref c) d) s6.heap := by
      refine  ⟨B6in, Bno a (.inl rfl), ?_, oe, vs, T, oT, ts, ga, hz, hd, hv1, Bno T (.inr rfl), hTe, gT, hdT, ht3⟩
      have  ff := funFrames_none (B := PySem.W.hideAll G (frs X.stack)) J6.stack fun b hb => PySem.W.hideAll_none _ hb
      rw [← hs]
      exact ff
    unfold PySem.passOn
    refine  wpAny_bind (wpAny_field ga hd hv1 ?_)
    rw  [if_neg (show ¬ ((Value.ref T == Value.none) = true) from by simp)]
    have  goOn : wpAny (model X.prog X.w) X.A (setFlight (.ref a) X.env.frame) (fun _ s7 => wpAny (model X.prog X.w) X.A (throw (.ref a) : Sem Flow) (SP X pins D) X.xe s7) X.xe s6 := by
      rw [hf]
      refine  HandSPX.setFlight_upZ fl6 fun h7 hh7 up7 => wpAny_throw (tk _ _ ?_)
      refine ⟨a, PySem.W.hideAll G (frs X.stack), { s6 with heap := G }, pins, σ', H6, .ref c, d, rfl, I6, fun b o e hb => PySem.W.hideAll_get _ e hb, ?_, .inr (.inr (by rw [← hs] at hh7; exact hh7)), na6, rfl, J6.bare, q6⟩
      exact  Heap.UpToSlots.trans (Heap.UpToSlots.of_keeps fun b o e => (gIn b o e).1) up7
    first
      |  exact wpAny_bind (wpAny_pure (wpAny_bind goOn))
      | exact wpAny_bind goOn
  -- the exit is called
  have called : ∀ tb : Value, (∃ vt, RelV vt tb) → wpAny (model X.prog X.w) X.A (withItem.marked (.ref a) (.call (.ref fx) ⟨[.ref x] ++ [.ref c, .ref a, tb], []⟩)) (fun r s6 => r = .none ∧ ∃ H6, Inv (X.suite a ((a, oe) :: (T, oT) :: (X.pn ++ pins))) [] σ' H6 s6 ∧ Wout (.ref c) d σ' H6) X.xe { s' with heap := h3 } := fun tb ⟨vt, rt⟩ => by
    have i0 := S3.env0
    have sp0 := hw (.ref a) vt
    have nl := Gq.len _ _ _ _ sp0
    have vv : Vals [V.ref x, V.ref c, V.ref a, vt] [Value.ref x, .ref c, .ref a, tb] := .cons rfl (.cons rfl (.cons rfl (.cons rt .nil)))
    have pin : L2H.PinOk X.stack H' { s' with heap := h3 } (a, oe) := ⟨he3, na, by rw [hs]; exact fa, fun v z => by
      have z3 : oe.data = .cell v := z
      rw [hd] at z3
      cases z3⟩
    have bd := hb { s' with heap := h3 } [Value.ref x, .ref c, .ref a, tb] J3.kIn (by simpa using nl)
    rw [List.append_nil] at bd
    unfold withItem.marked
    refine wpAny_bind (wpAny_run (codeAny_mono (Gq.go (a, oe) (X.A.mark (some (.ref a))) X.stack { s' with heap := h3 } H' ⟨[.ref x, .ref c, .ref a, tb], []⟩ _ _ _ _ ⟨hr.dp, hr.un⟩ pin i0 bd vv sp0) fun r s2 q => ?_))
    cases r with
    | error e => exact passF pins σ' H' _ e s2 J3 q
    | ok fl =>
      cases fl with
      | ret z =>
        obtain ⟨v2, H2, I2, rz, ez, ex⟩ := S3.after q
        subst ez
        cases rz
        exact wpAny_pure ⟨rfl, H2, I2, ex⟩
      | next => exact q.elim
      | brk => exact q.elim
      | cont => exact q.elim
  unfold withRest
  refine wpAny_bind (wpAny_standAt (wpAny_holding ?_))
  refine wpAny_bind (wpAny_typeOf_ref he3 ?_)
  rw [hz.1]
  have l1 : ∃ z, ts[1]? = some z := ⟨_, Array.getElem?_eq_getElem (by have := (Array.getElem?_eq_some_iff.mp ht3).1; omega)⟩
  obtain ⟨z, ez⟩ := l1
  have back : ∀ {Q : Value → Shared → Prop}, (∀ tb, (∃ vt, RelV vt tb) → Q tb { s' with heap := h3 }) → wpAny (model X.prog X.w) X.A (tracebackOf (.ref a)) Q X.xe { s' with heap := h3 } := fun h => by
    unfold tracebackOf
    refine wpAny_bind (wpAny_field he3 hd hv1 ?_)
    dsimp only
    refine wpAny_bind (wpAny_field hT hdT ez ?_)
    by_cases hz : (z == Value.none) = true
    · rw [if_pos hz]
      exact wpAny_pure (h _ ⟨.non, rfl⟩)
    · rw [if_neg hz]
      exact wpAny_pure (h _ ⟨.ref T, rfl⟩)
  refine wpAny_bind (back fun tb ht => ?_)
  refine wpAny_bind (wpAny_mono (called tb ht) (fun r s6 q => ?_) fun _ _ z => z)
  obtain ⟨rfl, H6, S6, q6⟩ := q
  refine  wpAny_bind (wpAny_pure ?_)
  exact onward s6 H6 S6 q6
end
end Mi
/-! Mv28 -/
namespace Mi
open L2 PySem PySem.Spec PySem.Calls PyProof.Rows PySem.W
section
variable {X : Cx} {Wout : WX} {k k2 k3 i : Nat} {C fe fx : Addr} {fd fdx : FuncData} {ps psx : List Str} {spe spx sq : Sp} {ctx : Expr} {y : Str} {py pos : Pos} {body : List Stmt} {tc : TE} {tb : WX → TS}
/-- with e as y: body -/
def tWith (tc : TE) (spe spx sq : Sp) (i : Nat) (C : Addr) (tb : WX → TS) (Wout : WX) : TS := fun D σ H => tc σ H fun v H1 => ∃ a dx fs, v = .ref a ∧ H1 a = some (.ins C dx fs) ∧
  spe [.ref a] H1 (fun u H2 => tb (wWith sq a Wout) { nx := fun σ' H' => spx [.ref a, .non, .non, .non] H' (fun _ H2 => D.nx σ' H2) (fun c o H' => Wout c o σ' H'), rt := fun _ _ => False } (σ.set i (some u)) H2) (fun c o H' => Wout c o σ H')
theorem ps_with (hs : X.stack = X.env :: X.outer) (hf : X.env.frame = some X.env.locals) (hex : X.ex = []) (tk : Takes X Wout) (room : Room k X.A) (room3 : Room k3 X.A) (hr : L2H.RoomH k2 X.A) (gd : X.A.guards = some [])
    (hc : PE X ctx tc) (he : findIn X.K (.ref C) "__enter__" = some (some (.ref fe))) (hfe : isFn X.K (.ref fe) = true) (hx : findIn X.K (.ref C) "__exit__" = some (some (.ref fx))) (hfx : isFn X.K (.ref fx) = true)
    (Ge : FnG X.prog X.w X.K X.mg X.base k fe fd ps spe) (hbe : Binds X.K fd ps []) (Gx : FnG X.prog X.w X.K X.mg X.base k3 fx fdx psx spx) (Gq : FnQ X.prog X.w X.K X.mg X.base k2 fx fdx psx sq) (hbx : Binds X.K fdx psx [])
    (hN : X.N.Nodup) (hi : X.N[i]? = some y) (hl : Loc X.env.scope y) (hfn : X.fn y = true ∨ X.env.scope.names.lookup y = some .local)
    (hb : ∀ (W : WX) (pn : List (Addr × Obj)) (xe : Value → Shared → Prop), Takes (X.tr pn xe) W → PassesOwn (model X.prog X.w) X.A X.env xe → PSs (X.tr pn xe) body (tb W)) :
    PS X (.With [⟨ctx, some (.Name y py)⟩] body pos) (tWith tc spe spx sq i C tb Wout) := by
  refine  ⟨fun pins s σ H D I h => ?_⟩
  have ok := I.ok
  refine kw_execN (wpAny_mono (hc.run pins s σ H _ I h) (fun u s1 z => ?_) fun _ _ z => z)
  obtain ⟨v, H1, I1, rv, a, dx, fs, ev, ea, he1⟩ := z
  subst ev
  obtain rfl : u = Value.ref a := rv
  obtain ⟨_, O, _⟩ := ins_get I1.hok ea
  obtain ⟨_, J, _⟩ := O.look
  unfold KwIn
  have mc := run_g (us := [.ref a]) (vs := [.ref a]) Ge room gd tk hbe I1 (.cons rfl .nil) he1
  refine kw_coreX (EX := fun e s₁ => wpAny (model X.prog X.w) X.A (noteFrame e X.env) (fun _ s₂ => wpAny (model X.prog X.w) X.A (setFlight e none) (fun _ s₃ => wpAny (model X.prog X.w) X.A (withRest ctx.pos X.env fx a e) (SP X pins D) X.xe s₃) X.xe s₂) X.xe s₁) I1.kIn J he hfe hx hfx (fun e s' z => z) ?_
  refine wpAny_mono mc (fun v2 s2 z => ?_) fun _ _ z => z
  obtain ⟨u2, H2, I2, r2, q2⟩ := z
  have takes : Takes (X.tr (X.pn ++ pins) fun e s₁ => wpAny (model X.prog X.w) X.A (noteFrame e X.env) (fun _ s₂ => wpAny (model X.prog X.w) X.A (setFlight e none) (fun _ s₃ => wpAny (model X.prog X.w) X.A (withRest ctx.pos X.env fx a e) (SP X pins D) X.xe s₃) X.xe s₂) X.xe s₁) (wWith sq a Wout) := fun u s' xx => with_exc Gq hbx hr hs hf hex ok tk xx
  have I2t := I2.toTry (xe := fun e s₁ => wpAny (model X.prog X.w) X.A (noteFrame e X.env) (fun _ s₂ => wpAny (model X.prog X.w) X.A (setFlight e none) (fun _ s₃ => wpAny (model X.prog X.w) X.A (withRest ctx.pos X.env fx a e) (SP X pins D) X.xe s₃) X.xe s₂) X.xe s₁)
  have asg := (pg_name (X := X.tr (X.pn ++ pins) fun e s₁ => wpAny (model X.prog X.w) X.A (noteFrame e X.env) (fun _ s₂ => wpAny (model X.prog X.w) X.A (setFlight e none) (fun _ s₃ => wpAny (model X.prog X.w) X.A (withRest ctx.pos X.env fx a e) (SP X pins D) X.xe s₃) X.xe s₂) X.xe s₁) (pos := py) hN hi hl hfn).run [] s2 σ H2 u2 v2 (fun σ' H' => tb (wWith sq a Wout) { nx := fun σ' H' => spx [.ref a, .non, .non, .non] H' (fun _ H2 => D.nx σ' H2) (fun c o H' => Wout c o σ' H'), rt := fun _ _ => False } σ' H') I2t r2 q2
  refine wpAny_mono asg (fun _ s3 z => ?_) fun _ _ z => z
  obtain ⟨σ3, H3, I3, q3⟩ := z
  refine wpAny_mono ((hb (wWith sq a Wout) _ _ takes PassesOwn.looking).run [] s3 σ3 H3 _ I3 q3) (fun f s4 z => ?_) fun _ _ z => z
  cases f with
  | next =>
    obtain ⟨σ4, H4, I4, q4⟩ := z
    have I4' : Inv X pins σ4 H4 s4 := I4.ofTry ok
    have mx := run_g (us := [.ref a, .none, .none, .none]) (vs := [.ref a, .non, .non, .non]) Gx room3 gd tk hbx I4' (.cons rfl (.cons rfl (.cons rfl (.cons rfl .nil)))) q4
    refine wpAny_mono mx (fun _ s5 z => ?_) fun _ _ z => z
    obtain ⟨_, H5, I5, _, q5⟩ := z
    exact ⟨σ4, H5, I5, q5⟩
  | brk => exact z.choose_spec.choose_spec.2.elim
  | cont => exact z.choose_spec.choose_spec.2.elim
  | ret u =>
    obtain  ⟨_, _, _, _, _, q⟩ := z
    exact q.elim
end
end Mi
/-! Mv29 -/
namespace Mi
open L2 PySem PySem.Spec PyProof.Rows
/-- what an exit does with an exception: nothing but self is known of it -/
def spX1 (K : PySem.W.Frag) (F : D → Sto → Res D) : Sp := fun vs H Q _ => ∃ W st d v0 v1 v2 v3, vs = [v0, v1, v2, v3] ∧ Rl K W st H ∧ RelD K W H d v0 ∧ (F d st).Holds (OkD K W H Q) fun _ _ _ => False
def exitX (g : Env → Sto → Out) (d : D) (st : Sto) : Res D := exitG (g [some d, none, none, none] st)
section
variable {P : Program} {w : World} {K : PySem.W.Frag} {mg : Str → Option Value} {base : Heap} {x qual : Str} {st : Stmt} {f : Addr} {fd : FuncData} {N ps : List Str} {k : Nat} {g : Env → Sto → Out}
theorem exit_defQ (F : Fun K x qual st f fd) (S : FnScope N ps (defScope st)) (hn : ps.length = 4) (hm : N.length = 4)
    (body : ∀ (cd : Value) (p : Pin) (A : Around) (o : List PySem.Env) (s : Shared) (H : Hp) (E : XK), L2H.RoomH k (A.deeper (envOfC qual (defScope st) s.heap.objs.size f cd)) →
      RSs (cxQ P w K mg base N qual (defScope st) f cd A o s H E p) (WR E) (defBody st) g) : FnQ P w K mg base (k + 1) f fd ps (spX1 K (exitX g)) := by
  refine fn_Q F S (fun vs H Q E ⟨_, _, _, _, _, _, _, e, _⟩ => by rw [e, hn]; rfl) fun cd p A o s H vs Q E room ⟨W, s0, d, v0, v1, v2, v3, e, R, r, h⟩ => ⟨_, body cd p A o s H E room, ?_⟩
  subst e
  refine ⟨W, [some d, none, none, none], s0, R, ⟨by unfold L2.start; rw [hm]; rfl, fun j d' q => ?_⟩, ?_⟩
  · match j, q with
    | 0, q =>
      cases q
      exact ⟨v0, rfl, r⟩
    | 1, q => cases q
    | 2, q => cases q
    | 3, q => cases q
  · unfold exitX at h
    cases q : g [some d, none, none, none] s0 with
    | nx e s => rw [q] at h; exact fun W' σ' H' E' R' V' => h W' H' .non E' R' rfl
    | rt d s => rw [q] at h; exact h
    | exc C fs e s => rw [q] at h; exact h.elim
    | bk e s => rw [q] at h; exact h.elim
    | ct e s => rw [q] at h; exact h.elim
    | bad => rw [q] at h; exact h.elim
end
/-- with e as y: body -/
def withM (C : Addr) (i : Nat) (Fe Fx : List D → Sto → Res D) (Fq : D → Sto → Res D) (fc : Env → Sto → Res D) (body : Env → Sto → Out) (env : Env) (st : Sto) : Out :=
  (fc env st).out env fun d s1 => if isInst C "__enter__" s1 d = true then (Fe [d] s1).out env fun v s2 => (match body (env.set i (some v)) s2 with
    | .nx e s3 => (Fx [d, .t .non, .t .non, .t .non] s3).out e fun _ s4 => .nx e s4
    | .exc c fs e s3 => (match Fq d s3 with
      | .ok (.t .non) s4 => .exc c fs e s4
      | _ => .bad)
    | _ => .bad) else .bad
section
variable {X : Cx} {Wx : WX} {k k2 k3 i : Nat} {C fe fx : Addr} {fd fdx : FuncData} {ps psx : List Str} {Fe Fx : List D → Sto → Res D} {Fq : D → Sto → Res D} {ctx : Expr} {y : Str} {py pos : Pos} {body : List Stmt} {fc : Env → Sto → Res D} {gb : Env → Sto → Out}
theorem rs_with (hs : X.stack = X.env :: X.outer) (hf : X.env.frame = some X.env.locals) (hex : X.ex = []) (tk : Takes X Wx) (room : Room k X.A) (room3 : Room k3 X.A) (hr : L2H.RoomH k2 X.A) (gd : X.A.guards = some [])
    (hc : RE X Wx ctx fc) (he : PySem.W.findIn X.K (.ref C) "__enter__" = some (some (.ref fe))) (hfe : PySem.W.isFn X.K (.ref fe) = true) (hx : PySem.W.findIn X.K (.ref C) "__exit__" = some (some (.ref fx))) (hfx : PySem.W.isFn X.K (.ref fx) = true)
    (Ge : FnG X.prog X.w X.K X.mg X.base k fe fd ps (spG X.K 1 Fe)) (hbe : Binds X.K fd ps []) (Gx : FnG X.prog X.w X.K X.mg X.base k3 fx fdx psx (spG X.K 4 Fx)) (Gq : FnQ X.prog X.w X.K X.mg X.base k2 fx fdx psx (spX1 X.K Fq)) (hbx : Binds X.K fdx psx [])
    (hN : X.N.Nodup) (hi : X.N[i]? = some y) (hl : Loc X.env.scope y)
    (hb : ∀ (W : WX) (pn : List (Addr × Obj)) (xe : Value → Shared → Prop), Takes (X.tr pn xe) W → PassesOwn (model X.prog X.w) X.A X.env xe → RSs (X.tr pn xe) W body gb)
    (hfn : X.fn y = true ∨ X.env.scope.names.lookup y = some .local := by first | exact .inl rfl | exact .inr rfl | assumption) :
    RS X Wx (.With [⟨ctx, some (.Name y py)⟩] body pos) (withM C i Fe Fx Fq fc gb) := by
  refine PS.conv (ps_with (tb := fun W => tS X.K W gb) hs hf hex tk room room3 hr gd hc he hfe hx hfx Ge hbe Gx Gq hbx hN hi hl hfn hb) fun E σ H ⟨W, env, st, R, Ev, h⟩ => ⟨W, env, st, R, Ev, out_split h Ev R fun d s1 h1 W1 H1 v E1 R1 r1 => ?_⟩
  split at h1
  · rename_i c
    obtain ⟨a, dx, fl, ev, h2, h3⟩ := isInst_rel R1 c r1
    subst ev
    have Ev1 := Ev.mono E1 R
    refine ⟨a, dx, fl, rfl, h2, W1, s1, [d], R1, ⟨_, _, rfl, r1, rfl⟩, rfl, out_split (Out.Holds.mono h1 E1) Ev1 R1 fun v s2 h4 W2 H2 u E2 R2 r2 => ?_⟩
    have Ev2 := Ev1.mono E2 R1
    refine ⟨W2, env.set i (some v), s2, R2, Ev2.set i r2, ?_⟩
    cases q : gb (env.set i (some v)) s2 with
    | bk e s => rw [q] at h4; exact h4.elim
    | ct e s => rw [q] at h4; exact h4.elim
    | rt d s => rw [q] at h4; exact h4.elim
    | bad => rw [q] at h4; exact h4.elim
    | nx e s3 =>
      rw [q] at h4
      intro W3 σ3 H3 E3 R3 V3
      refine ⟨W3, s3, [d, .t .non, .t .non, .t .non], R3, ⟨_, _, rfl, E3.relD R2 (E2.relD R1 r1), _, _, rfl, rfl, _, _, rfl, rfl, _, _, rfl, rfl, rfl⟩, rfl, out_split (Out.Holds.mono h4 (E2.trans E3)) V3 R3 fun _ s4 h5 W4 H4 u4 E4 R4 r4 => ?_⟩
      exact h5 W4 σ3 H4 E4 R4 (V3.mono E4 R3)
    | exc c fs e s3 =>
      rw [q] at h4
      intro W3 σ3 H3 o E3 R3 V3 xx
      refine ⟨c, rfl, fun va vt => ⟨W3, s3, d, _, _, _, _, rfl, R3, E3.relD R2 (E2.relD R1 r1), ?_⟩⟩
      dsimp only at h4
      cases q2 : Fq d s3 with
      | bad => rw [q2] at h4; exact h4.elim
      | exc => rw [q2] at h4; exact h4.elim
      | ok d' s4 =>
        rw [q2] at h4
        cases d' with
        | r => exact h4.elim
        | x => exact h4.elim
        | t t =>
          cases t with
          | non =>
            intro W4 H4 v4 E4 R4 r4
            cases r4
            exact ⟨rfl, h4 W4 σ3 H4 o (E2.trans (E3.trans E4)) R4 (V3.mono E4 R3) ((E4.kt R3).exd xx)⟩
          | _ => exact h4.elim
  · exact h1.elim
end
end Mi
/-! Mv30 -/
namespace Mi
open L2 PySem PySem.Spec PyProof.Rows
/-! ### a def with a default -/
section
variable {P : Program} {w : World} {K : PySem.W.Frag} {mg : Str → Option Value} {base : Heap} {x qual : Str} {st : Stmt} {f : Addr} {fd : FuncData} {N ps : List Str} {k : Nat} {sp : Sp} {g : Env → Sto → Out} {dvs : List V} {kws : List (Str × V)}
abbrev FunS (K : PySem.W.Frag) (x qual : Str) (st : Stmt) (dvs : List V) (f : Addr) (fd : FuncData) : Prop := FunD K x qual (defArgs st) (defBody st) (defScope st) dvs [] f fd
theorem funS_mk {f T : Addr} {oc tc kV doc pm cd ct : Value} {od td an : Option Addr} {sl tsl : Array (Option Value)} {n : Nat} {its : List Value} (l : K.lookup f = some ⟨oc, od, .func (PySem.W.fnOf x qual (defArgs st) (defBody st) (defScope st) (.ref T) kV doc pm an cd ct), sl⟩) (c : PySem.W.codeIn K cd qual = true)
    (dl : K.lookup T = some ⟨tc, td, .seq its.toArray n, tsl⟩) (v : Vals dvs its) (ne : dvs ≠ []) (k : PySem.W.keepIn K (.ref f) = true) : FunS K x qual st dvs f (PySem.W.fnOf x qual (defArgs st) (defBody st) (defScope st) (.ref T) kV doc pm an cd ct) :=
  ⟨⟨oc, od, .ref T, kV, doc, pm, an, cd, ct, sl, rfl, l, c, .inr ⟨ne, T, _, its, n, rfl, dl, rfl, v⟩, .inl rfl⟩, k⟩
theorem FunS.full (F : FunS K x qual st dvs f fd) (n j : Nat) (hd : dvs ≠ []) (hj : dvs.drop j = []) (hn : n + (dvs.length - j) = ps.length)
    (h  : ∀ (T : Addr) (kV doc pm : Value) (an : Option Addr) (cdv ct : Value) (us its : List Value), us.length = n → its.length = dvs.length →
      ∃ k, bindArgs (PySem.W.fnOf x qual (defArgs st) (defBody st) (defScope st) (.ref T) kV doc pm an cdv ct) ⟨us, []⟩ = seqItems? (.ref T) >>= k ∧ k (some its.toArray) = pure (ps.zip (us ++ its.drop j))) : Binds K fd ps [] := by
  obtain ⟨ds, v, b⟩ := FunD.binds1 F n j hd hn h
  rw [hj] at v
  cases v
  exact b
theorem def_okD (F : FunS K x qual st dvs f fd) (S : FnScope N ps (defScope st)) (cnt : ∀ vs H Q E, sp vs H Q E → vs.length = ps.length)
    (body : ∀ (cd : Value) (A : Around) (outer : List PySem.Env) (s : Shared) (H : Hp) (vs : List V) (Q : VK) (E : XK), Room k (A.deeper (envOfC qual (defScope st) s.heap.objs.size f cd)) → A.guards = some [] → sp vs H Q E →
      ∃ t, PSs (cxOf (L2.CX P w) P w K mg base N qual (defScope st) f cd A outer s H E) (defBody st) t ∧ t ⟨fun _ H' => Q .non H', Q, fun _ _ => False, fun _ _ => False⟩ (L2.start N vs) H) : FnG P w K mg base (k + 1) f fd ps sp := by
  obtain ⟨oc, od, dV, kV, doc, pm, an, cd, ct, osl, rfl, look, code, _, _⟩ := F.ex
  refine ⟨cnt, ?_⟩
  intro A outer s H args us vs Q E room gd e0 bnd rel ask
  have many := cnt vs H Q E ask
  have stay : ∀ b o, base.get? b = some o → s.heap.get? b = some o := fun b o q => (e0.bs b o q).left
  have inK : K.In s.heap := e0.mod.kin.keeps stay
  have places : ∀ y ∈ ps.zip us, (defScope st).names.lookup y.1 = some .local ∨
      ((defScope st).names.lookup y.1 = some .cell ∧ ((cellsFrom (s.heap.objs.size + 1) (defScope st).names []).lookup y.1).isSome = true) := by
    intro y hy
    have hm : y.1 ∈ ps := (List.of_mem_zip (a := y.1) (b := y.2) hy).left
    rcases S.par y.1 hm with q | q
    · exact Or.inl q
    · exact Or.inr ⟨q, PySem.W.cellsFrom_some _ _ _ (Or.inl q)⟩
  refine codeAny_call_function room.depth (inK f _ look) rfl
    S.co S.gen rfl (PySem.W.codeRec_of inK code) (bnd _ _ _ _ ?_)
  refine wpAny_newFunctionEnv_cells S.kind places ?_
  intro env he s1 x
  subst he
  refine ⟨(e0.mod.nolimit.keeps stay).keeps x.toInCall.keep, ?_⟩
  refine codeAny_func ?_
  obtain ⟨t, ht, hq⟩ := body cd A outer s H vs Q E (room.deeper _) gd ask
  have I0 := inv_start (CX := L2.CX P w) (E := E) S room.hd e0 many rel x
  have run := ht.run [] s1 (L2.start N vs) H _ I0 hq
  refine wpAny_mono run (fun fl s' hs => ?_) fun e s' q => q
  cases fl with
  | ret u =>
    (obtain ⟨v, σ', H', J, rv, q⟩ := hs)
    exact ⟨v, H', J.os, J.bare, J.base, J.hok, rv, q⟩
  | next =>
    obtain ⟨σ', H', J, q⟩ := hs
    exact ⟨.non, H', J.os, J.bare, J.base, J.hok, rfl, q⟩
  | brk => obtain ⟨_, _, _, q⟩ := hs; exact q.elim
  | cont => obtain ⟨_, _, _, q⟩ := hs; exact q.elim
theorem okGD (F : FunS K x qual st dvs f fd) (S : FnScope N ps (defScope st)) {n m : Nat} (hn : ps.length = n) (hm : N.length = m)
    (body : ∀ (cd : Value) (A : Around) (outer : List PySem.Env) (s : Shared) (H : Hp) (E : XK), Room k (A.deeper (envOfC qual (defScope st) s.heap.objs.size f cd)) → A.guards = some [] →
      RSs (cxOf (L2.CX P w) P w K mg base N qual (defScope st) f cd A outer s H E) (WR E) (defBody st) g) : FnG P w K mg base (k + 1) f fd ps (spG K n (defG m g)) := by
  refine def_okD F S (spG_count hn) fun cd A outer s H vs Q E room gd ask => ⟨_, body cd A outer s H E room gd, ?_⟩
  obtain ⟨W, s0, ds, R, r, hl, ask⟩ := ask
  refine ⟨W, startE m ds, s0, R, by rw [← hm]; exact startE_rel r, ?_⟩
  unfold defG at ask
  cases q : g (startE m ds) s0 with
  | nx e s2 => rw [q] at ask; exact fun W' σ' H' E' R' _ => ask W' H' _ E' R' rfl
  | rt d s2 => rw [q] at ask; exact ask
  | exc C fs e s2 => rw [q] at ask; exact fun W' σ' H' o E' R' V' x => ask W' H' o E' R' x
  | bk e s2 => rw [q] at ask; exact ask.elim
  | ct e s2 => rw [q] at ask; exact ask.elim
  | bad => rw [q] at ask; exact ask.elim
end
section
variable {X : Cx} {Wx : WX} {k : Nat} {f g C : Addr} {fd : FuncData} {ps : List Str} {sp : Sp} {x m : Str} {p pos apos : Pos} {e o : Expr} {es : List Expr} {fo : Env → Sto → Res D} {fs : List (Env → Sto → Res D)} {dvs : List V} {ds : List Value}
theorem run_gD {pins : List (Addr × Obj)} {σ : L2.St} {H : Hp} {s : Shared} {Q : VK} {us : List Value} {vs : List V} (G : FnG X.prog X.w X.K X.mg X.base k f fd ps sp) (room : Room k X.A) (gd : X.A.guards = some [])
    (tk : Takes X Wx) (hb : Binds X.K fd ps ds) (hd : Vals dvs ds) (I : Inv X pins σ H s) (r : Vals vs us) (h : sp (vs ++ dvs) H Q (fun c o H' => Wx c o σ H')) : wpAny (model X.prog X.w) X.A (call (.ref f) us) (EP X pins σ Q) X.xe s := by
  have  r2 : Vals (vs ++ dvs) (us ++ ds) := r.append hd
  have many : (us ++ ds).length = ps.length := r2.length.symm.trans (G.count _ _ _ _ h)
  have bnd := hb s us I.kIn many
  have run := G.go X.A X.stack s H ⟨us, []⟩ (us ++ ds) (vs ++ dvs) Q _ room gd I.env0 bnd r2 h
  refine wpAny_call (codeAny_mono run ?_)
  intro res s' hq
  cases res with
  | error e => exact passAt tk σ pins H s e s' I hq
  | ok fl =>
    cases fl with
    | ret u => exact I.after hq
    | next => exact hq.elim
    | brk => exact hq.elim
    | cont => exact hq.elim
/-- o.m(..), the last parameters by their defaults -/
def methD (C : Addr) (m : Str) (F : List D → Sto → Res D) (fo : Env → Sto → Res D) (fa : Env → Sto → Res (List D)) (es : List D) (env : Env) (st : Sto) : Res D := (fo env st).bind fun d s => if isInst C m s d = true then (fa env s).bind fun ds s2 => F (d :: (ds ++ es)) s2 else .bad
theorem re_methD {n : Nat} {F : List D → Sto → Res D} {ed : List D} {pl : Sem Bool} (c : Cls X.K C) (hm : Meth X.K C m g) (G : FnG X.prog X.w X.K X.mg X.base k g fd ps (spG X.K n F)) (room : Room k X.A) (gd : X.A.guards = some []) (tk : Takes X Wx) (hb : Binds X.K fd ps ds) (hd : Vals dvs ds)
    (hrel : ∀ W H, RelDs X.K W H ed dvs) (ho : RE X Wx o fo) (ha : RA X Wx (e :: es) (argsM fs)) (hl : fs.length + 1 + ed.length = n := by rfl)
    (hst  : starEach (e :: es) X.env = (false, eval e X.env) :: starEach es X.env := by rfl) (hpl : (backTo pos (starEach es X.env)).any (·.1) = false := by rfl)
    (ht  : eval (.Call (.Attribute o m apos) (e :: es) [] pos) X.env = (do
      let ov ← eval o X.env
      standAt apos.atName
      let  (f, first) ← holding [ov] (getMethod ov m pl)
      callWith  pos f first (backTo pos (starEach (e :: es) X.env)) (backToKw pos (keywordEach [] X.env))) := by rfl) :
    RE X Wx (.Call (.Attribute o m apos) (e :: es) [] pos) (methD C m F fo (argsM fs) ed) := by
  refine ⟨fun pins s σ H Q I ⟨W, env, st, R, Ev, h⟩ => ?_⟩
  refine PySem.W.methodCall_KW (pl := pl) (thn (ho.run pins s σ H (fun x H1 => ∃ a dx fl W1 s1 d, x = .ref a ∧ H1 a = some (.ins C dx fl) ∧ fl.lookup m = none ∧ Ext W H W1 H1 ∧ Rl X.K W1 s1 H1 ∧ RelD X.K W1 H1 d x ∧ ((argsM fs env s1).bind fun ds s2 => F (d :: (ds ++ ed)) s2).Holds (OkD X.K W H Q) (OkX X.K W H fun c o H' => Wx c o σ H')) I
    ⟨W, env, st, R, Ev, split h (fun d s1 h1 W1 H1 v E1 R1 r1 => ?_) fun _ _ _ hx => hx⟩) fun u s1 ⟨x, H1, I1, rx, a, dx, fl, W1, st1, d, ex, ea, l, E1, R1, rd, h1⟩ => ?_) ht
  · split at h1
    · rename_i c
      obtain ⟨a, dx, fl, rfl, h2, h3⟩ := isInst_rel R1 c r1
      exact ⟨a, dx, fl, W1, s1, d, rfl, h2, h3, E1, R1, r1, h1⟩
    · exact h1.elim
  · subst ex
    obtain  rfl : u = Value.ref a := rx
    refine  getmeth_ok I1 ea c hm l ?_
    refine PySem.W.callWith_K (first := [.ref a]) (h₀ := X.base) I.ok.mod.kin hm.kp (thn (ha.run pos pins s1 σ H1 (fun vs H2 => spG X.K n F ((.ref a :: vs) ++ dvs) H2 Q fun c o H' => Wx c o σ H') I1
      ⟨W1, env, st1, R1, Ev.mono E1 R, splitA h1 (fun ds st2 e0 h2 W2 H2 vs E2 R2 r2 => ⟨W2, st2, d :: (ds ++ ed), R2, ⟨_, _, rfl, E2.relD R1 rd, relDs_append r2 (hrel W2 H2)⟩, by rw [List.length_cons, List.length_append, argsM_len e0]; omega, Res.Holds.imp h2 (fun _ _ q => q.mono (E1.trans E2)) fun _ _ _ q => q.mono (E1.trans E2)⟩) fun _ _ _ hx => hx.mono E1⟩) fun us s2 ⟨vs, H2, I2, r, q2⟩ => ⟨I2.kIn, ?_⟩) hst hpl
    exact run_gD (us := .ref a :: us) (vs := .ref a :: vs) G room gd tk hb hd I2 (.cons rfl r) q2
end
end Mi
/-! Mv31 -/
namespace Mi
open L2 PySem PySem.Spec PyProof.Rows
section
variable {X : Cx}
/-! ### {} == {} -/
theorem op_dk0 (hu : X.A.units < cLine) : OpR X (compareOp .Eq) (fun x y H Q => ∃ a b, x = V.ref a ∧ y = V.ref b ∧ DkAt H a [] ∧ DkAt H b [] ∧ Q (.bl true) H) := by
  intro pins s σ H x y v u Q I rx ry ⟨a, b, ex, ey, h1, h2, q⟩
  subst ex ey
  cases rx
  cases ry
  obtain ⟨_, s1, vs, kv, d1⟩ := dk_rd (kvs := []) I.hok (.inr h1)
  obtain ⟨_, s2, ws, kw, d2⟩ := dk_rd (kvs := []) I.hok (.inr h2)
  cases kv
  cases kw
  show wpAny (model X.prog X.w) X.A (richCompare .Eq (.ref a) (.ref b)) (EP X pins σ Q) X.xe s
  exact PySem.W.rcP_dicts (r := true) s1 s2 d1 d2 hu (fun _ => .nil) _ _ ⟨.bl true, H, I, rfl, q⟩
open Classical in
noncomputable def eqK (d e : D) (st : Sto) : Option D := if d = .t (.dk [] []) ∧ e = .t (.dk [] []) then some (.t (.bl true)) else eqM d e st
theorem o_eqK (hu : X.A.units + 64 < cLine) : OpR X (compareOp .Eq) (rM X.K eqK) := by
  refine op_of (OpR.or (op_dk0 (by omega)) (o_eq hu)) fun W st d e x y H Q z R r1 r2 hz q => ?_
  unfold eqK at hz
  split at hz
  · rename_i c
    obtain ⟨rfl, rfl⟩ := c
    cases hz
    obtain ⟨a, vs, rfl, _, h1, l1, t1⟩ := r1
    obtain ⟨b, ws, rfl, _, h2, l2, t2⟩ := r2
    exact .inl ⟨a, b, rfl, rfl, h1, h2, q W H _ .refl R rfl⟩
  · exact .inr ⟨W, st, d, e, R, r1, r2, _, hz, q⟩
end
end Mi
/-! Mv32 -/
namespace Mi
open L2 PySem PySem.Spec PyProof.Rows
/-! ### a def whose last statement returns a tuple of lists that it has made: they stay as they are from there on -/
def varsE (e : Env) : List Nat → Option (List D)
  | [] => some []
  | i :: r => match e[i]? with
    | some (some d) => (varsE e r).map (d :: ·)
    | _ => none
theorem varsE_ok {e : Env} {s : Sto} : ∀ {is : List Nat} {ds : List D}, varsE e is = some ds → argsM (is.map eVar) e s = .ok ds s
  | [], ds, h => by cases h; rfl
  | i :: r, ds, h => by
    unfold varsE at h
    split at h
    · rename_i d hd
      cases q : varsE e r with
      | none => rw [q] at h; cases h
      | some us =>
        rw [q] at h
        cases h
        have z := varsE_ok (s := s) q
        show (eVar i e s).bind _ = _
        unfold eVar
        rw [hd]
        show ((argsM (r.map eVar) e s).bind fun ds st2 => Res.ok (d :: ds) st2) = _
        rw [z]
        rfl
    · cases h
theorem varsE_len {e : Env} : ∀ {is : List Nat} {ds : List D}, varsE e is = some ds → ds.length = is.length
  | [], ds, h => by cases h; rfl
  | i :: r, ds, h => by
    unfold varsE at h
    split at h
    · cases q : varsE e r with
      | none => rw [q] at h; cases h
      | some us =>
        rw [q] at h
        cases h
        rw [List.length_cons, List.length_cons, varsE_len q]
    · cases h
def HoldsF (K : PySem.W.Frag) (Wx : WX) (E : Ends) (is : List Nat) (W : Wd) (H : Hp) (o : Out) : Prop := match o with
  | .nx e s => ∃ ds, varsE e is = some ds ∧ ∀ W' H' vs, Ext W H W' H' → Rl K W' s H' → RelDs K W' H' ds vs → ∀ p, H' p = none → E.rt (.ref p) (upd H' p (.tup vs))
  | .exc C fs env s => (Out.exc C fs env s).Holds K Wx E W H
  | _ => False
theorem HoldsF.mono {K : PySem.W.Frag} {Wx : WX} {E : Ends} {is : List Nat} {W W1 : Wd} {H H1 : Hp} {o : Out} (h : HoldsF K Wx E is W H o) (e : Ext W H W1 H1) : HoldsF K Wx E is W1 H1 o := by
  cases o with
  | nx env s =>
    obtain ⟨ds, hv, h⟩ := h
    exact ⟨ds, hv, fun W' H' vs E' R' r' => h W' H' vs (e.trans E') R' r'⟩
  | exc C fs env s => exact Out.Holds.mono (E := E) (o := .exc C fs env s) h e
  | rt d s => exact h.elim
  | bk e s => exact h.elim
  | ct e s => exact h.elim
  | bad => exact h.elim
def tSF (K : PySem.W.Frag) (Wx : WX) (is : List Nat) (g : Env → Sto → Out) : TS := fun E σ H => ∃ W env st, Rl K W st H ∧ EnvR K W H env σ ∧ HoldsF K Wx E is W H (g env st)
section
variable {X : Cx} {Wx : WX} {s : Stmt} {rest : List Stmt} {g g1 g2 : Env → Sto → Out} {pos pos' : Pos} {is : List Nat}
theorem rssF_cons (h1 : RS X Wx s g1) (h2 : PSs X rest (tSF X.K Wx is g2)) : PSs X (s :: rest) (tSF X.K Wx is (seqM g1 g2)) := by
  refine PSs.conv (pss_cons h1 h2) fun E σ H ⟨W, env, st, R, Ev, h⟩ => ⟨W, env, st, R, Ev, ?_⟩
  unfold seqM at h
  cases q : g1 env st with
  | nx e s => rw [q] at h; exact fun W' σ' H' E' R' V' => ⟨W', e, s, R', V', HoldsF.mono (o := g2 e s) h E'⟩
  | exc C fs e s => rw [q] at h; exact h
  | rt d s => rw [q] at h; exact h.elim
  | bk e s => rw [q] at h; exact h.elim
  | ct e s => rw [q] at h; exact h.elim
  | bad => rw [q] at h; exact h.elim
theorem rssF_ret {es : List Expr} {x1} (ra : RA X Wx es (argsM (is.map eVar))) (hl : is.length ≤ 1000 := by decide) : PSs X [.Return (some (.Tuple es x1 pos)) pos'] (tSF X.K Wx is nxM) := by
  refine PSs.conv (pss_one (ps_ret (pe_tup ra))) fun E σ H ⟨W, env, st, R, Ev, h⟩ => ?_
  obtain ⟨ds, hv, q⟩ := h
  refine ⟨W, env, st, R, Ev, ?_⟩
  rw [varsE_ok hv]
  intro W' H' vs E' R' r'
  have l1 := relDs_len r'
  have l2 := varsE_len hv
  exact ⟨Nat.le_of_lt (small1000 (by omega)), fun p hp => q W' H' vs E' R' r' p hp⟩
end
def defTT (n : Nat) (is : List Nat) (g : Env → Sto → Out) (ds : List D) (st : Sto) : Res D := match g (startE n ds) st with
  | .nx e s => match varsE e is with
    | some us => if (s.take st.length).all (SO.below st.length) = true then (match optAll (us.map (fzD 8 st.length s)) with
      | some ts => .ok (.t (.tup ts)) (s.take st.length)
      | none => .bad) else .bad
    | none => .bad
  | .exc C fs _ s => if (s.take st.length).all (SO.below st.length) = true then .exc C fs (s.take st.length) else .bad
  | _ => .bad
section
variable {P : Program} {w : World}  {K : PySem.W.Frag}  {mg : Str → Option Value}  {base : Heap} {x qual : Str} {st : Stmt} {f : Addr} {fd : FuncData} {N ps : List Str} {k : Nat} {g : Env → Sto → Out} {is : List Nat}
theorem okTT (F : Fun K x qual st f fd) (S : FnScope N ps (defScope st)) {n m : Nat} (hn : ps.length = n) (hm : N.length = m)
    (body : ∀ (cd : Value) (A : Around) (outer : List PySem.Env) (s : Shared) (H : Hp) (E : XK), Room k (A.deeper (envOfC qual (defScope st) s.heap.objs.size f cd)) → A.guards = some [] →
      PSs (cxOf (L2.CX P w) P w K mg base N qual (defScope st) f cd A outer s H E) (defBody st) (tSF K (WR E) is g)) : FnG P w K mg base (k + 1) f fd ps (spG K n (defTT m is g)) := by
  refine def_ok F S (spG_count hn) fun cd A outer s H vs Q E room gd ask => ⟨_, pss_ghost (body cd A outer s H E room gd), ?_⟩
  obtain ⟨W, s0, ds, R, r, hl, ask⟩ := ask
  refine ⟨W, startE m ds, s0, R, by rw [← hm]; exact startE_rel r, ?_⟩
  unfold defTT at ask
  have cut : ∀ {W' : Wd} {H' : Hp} {s2 : Sto} {S' : Addr → Prop}, Ext W H W' H' → Rl K W' s2 H' → (∀ a, W'.F a → S' a) → (∀ a, S' a → W'.F a ∨ (a ∈ W'.ρ ∧ a ∉ W.ρ)) → Fz S' H' → (s2.take s0.length).all (SO.below s0.length) = true →
      Ext W H ⟨W.ρ, S'⟩ H' ∧ Rl K ⟨W.ρ, S'⟩ (s2.take s0.length) H' := fun {W' H' s2 S'} E' R' h1 h2 fz hb => by
    have hp : W.ρ = W'.ρ.take s0.length := by
      obtain ⟨t, ht⟩ := E'.pre
      rw [← ht, ← R.len, List.take_left]
    refine ⟨⟨List.prefix_refl _, fun a h => .inl h, fun a h => h1 a (E'.fF a h), fun a h => ?_, E'.keep, E'.there, E'.lk⟩, R'.trim hp ⟨h1, fun _ _ _ q => q, fun _ _ q => q, fun _ _ _ q => q, fun _ _ q => q⟩ hb (fun a ha h => ?_) fz⟩
    · rcases h2 a h with h | ⟨h, hn⟩
      · exact E'.nF a h
      · exact (E'.new a h).elim (fun z => absurd z hn) .inr
    · rw [← hp] at ha
      rcases h2 a h with h | ⟨h, hn⟩
      · exact R'.sep a (by
          obtain ⟨t, ht⟩ := E'.pre
          rw [← ht]; exact List.mem_append_left _ ha) h
      · exact hn ha
  cases q : g (startE m ds) s0 with
  | nx e s2 =>
    rw [q] at ask
    dsimp only at ask
    cases hv : varsE e is with
    | none => rw [hv] at ask; exact ask.elim
    | some us =>
      rw [hv] at ask
      dsimp only at ask
      split at ask
      · rename_i hb
        cases ho : optAll (us.map (fzD 8 s0.length s2)) with
        | none => rw [ho] at ask; exact ask.elim
        | some ts =>
          rw [ho] at ask
          refine ⟨us, hv, fun W' H' vs E' R' r' p hp => ?_⟩
          intro pins σ2 sh I
          have ep : upd H' p (.tup vs) p = some (.tup vs) := upd_same
          have E1 := R'.more (o := .tup vs) hp
          have R1 := R'.rest (o := .tup vs) hp
          have r1 := E1.relDs R' r'
          obtain ⟨H2, I2, R2, E2⟩ := lock_all s0.length I R1
          refine ⟨H2, I2, ?_⟩
          have ep2 : H2 p = some (.tup vs) := E2.keep p _ ep (R1.tup ep rfl)
          have r2 := E2.relDs R1 r1
          rw [← lkS_take s0.length s2] at ask hb
          suffices q2 : ∀ {H' : Hp}, Rl K W' (lkS s0.length s2) H' → Ext W H W' H' → RelDs K W' H' us vs → H' p = some (.tup vs) → Q (.ref p) H' from q2 R2 ((E'.trans E1).trans E2) r2 ep2
          clear E' R' I R2 E2 I2 r' r1 r2 E1 R1 ep ep2 H2 hp
          intro H' R' E' r' ep
          have out : ∀ (i : Nat) (b : Addr), s0.length ≤ i → W'.ρ[i]? = some b → b ∈ W'.ρ ∧ b ∉ W.ρ := fun i b hi e => ⟨List.mem_of_getElem? e, fun hm => by
            obtain ⟨i2, hi2, e2⟩ := List.getElem_of_mem hm
            obtain ⟨t, ht⟩ := E'.pre
            have e3 : W'.ρ[i2]? = some b := by rw [← ht, List.getElem?_append_left hi2, List.getElem?_eq_getElem hi2, e2]
            obtain ⟨k1, z1⟩ := List.getElem?_eq_some_iff.mp e3
            obtain ⟨k2, z2⟩ := List.getElem?_eq_some_iff.mp e
            have : i2 = i := (List.getElem_inj R'.nd).mp (z1.trans z2.symm)
            rw [R.len] at hi2
            omega⟩
          have k : KeepT W'.F H' (fun b => W'.F b ∨ b ∈ W'.ρ ∧ b ∉ W.ρ) H' := ⟨fun _ h => .inl h, fun _ _ _ q => q, fun _ _ q => q, fun _ _ _ q => q, fun _ _ q => q⟩
          have rt : RelTs K (fun b => W'.F b ∨ b ∈ W'.ρ ∧ b ∉ W.ρ) H' ts vs := optAll_rel (fun d t v h r => fzD_rel R' k (fun i b hi e => .inr (out i b hi e)) (lkS_no _ s2) 8 d t v ((fzD_lk _ s2 8 _).trans h) r) ho r'
          obtain ⟨a1, a2⟩ := cut (S' := fun b => W'.F b ∨ b ∈ W'.ρ ∧ b ∉ W.ρ) E' R' (fun _ h => .inl h) (fun b h => h) (fun b hb => hb.elim (R'.fz b) fun h => R'.mem h.1) hb
          exact ask _ _ (.ref p) a1 a2 ⟨p, vs, rfl, Or.inl ep, rt⟩
      · exact ask.elim
  | rt d s2 => rw [q] at ask; exact ask.elim
  | exc C fs e s2 =>
    rw [q] at ask
    intro W' σ' H' o E' R' _ xx
    have ask : (if (s2.take s0.length).all (SO.below s0.length) = true then Res.exc (α := D) C fs (s2.take s0.length) else .bad).Holds (OkD K W H Q) (OkX K W H E) := ask
    split at ask
    · rename_i hb
      obtain ⟨a1, a2⟩ := cut (S' := W'.F) E' R' (fun _ h => h) (fun _ h => .inl h) R'.fz hb
      exact ask _ H' o a1 a2 (exd_F (K := K) (W := W') (W' := ⟨W.ρ, W'.F⟩) ⟨fun _ h => h, fun _ _ _ q => q, fun _ _ q => q, fun _ _ _ q => q, fun _ _ q => q⟩ xx)
    · exact ask.elim
  | bk e s2 => rw [q] at ask; exact ask.elim
  | ct e s2 => rw [q] at ask; exact ask.elim
  | bad => rw [q] at ask; exact ask.elim
end
end Mi
/-! Mv33 -/
namespace Mi
open L2 PySem PySem.Spec PyProof.Rows
section
variable {X : Cx}
/-! ### int(text) -/
theorem call_int_text : CallR X (.type "int") (fun xs H Q => ∃ x n, xs = [.str x] ∧ x.length ≤ 640 ∧ PySem.intText? x = some n ∧ Q (.int n) H) := by
  intro pins s σ H xs us Q I r ⟨x, n, e, hl, hn, q⟩
  subst e
  cases r with
  | cons r1 rn =>
    cases rn
    obtain ⟨t, rfl⟩ := r1
    exact PySem.W.KIN.call_text hn hl ⟨.int n, H, I.tok _, ⟨_, rfl⟩, q⟩
def intT (ds : List D) (st : Sto) : Option D := match ds with
  | [.t (.str x)] => if x.length ≤ 640 then (PySem.intText? x).map iD else none
  | _ => intB ds st
theorem c_intT : CallR X (.type "int") (rC X.K intT) := call_of (CallR.or call_int1 call_int_text) fun W st ds xs H Q z R r h q => by
  unfold intT at h
  split at h
  · rename_i x
    split at h
    · rename_i hl
      cases e : PySem.intText? x with
      |  none => rw [e] at h; cases h
      | some n =>
        rw [e] at h
        cases h
        obtain ⟨v, rfl, r1⟩ := rel1 r
        cases r1
        exact .inr ⟨_, n, rfl, hl, e, q W H _ .refl R rfl⟩
    · cases h
  · unfold intB at h
    split at h
    · cases h; obtain ⟨v, rfl, r1⟩ := rel1 r; cases r1; exact .inl (.inl ⟨_, rfl, q W H _ .refl R rfl⟩)
    · cases h; obtain ⟨v, rfl, r1⟩ := rel1 r; cases r1; exact .inl (.inr ⟨_, rfl, q W H _ .refl R rfl⟩)
    · cases h
end
end Mi
namespace Mi
open L2 PySem PySem.Spec PyProof.Rows
section
variable {X : Cx}
/-! ### t.count(x), flat -/
def rCntT (K : PySem.W.Frag) : V → List V → Hp → VK → Prop := fun x xs H Q => ∃ (p : Addr) (ys : List V) (y : V), x = .ref p ∧ xs = [y] ∧ SqT K H p ys ∧ flatV y = true ∧ ys.all flatV = true ∧ Q (.int ((ys.countP fun z => eqV z y : Nat) : Int)) H
theorem mt_countT : MtR X "tuple.count" (rCntT X.K) := by
  intro pins s σ H x xs v us Q I rx rxs ⟨p, ys, y, e1, e2, hs, fy, fys, q⟩
  subst e1; subst e2
  cases rx
  (obtain ⟨u, rfl, ru⟩ := rxs.one)
  (obtain ⟨its, rv, ⟨⟨cls, dd, data, sl⟩, ho, hc, n, hd⟩, hlen⟩ := I.tuple hs)
  simp only at hc hd
  subst hc hd
  refine call_meets PySem.F.slot_tuple_count ⟨_, ho, rfl⟩ PySem.F.entry_tuple_count (PySem.F.args_tuple_count_2 _ _) (SeqAt.tuple_countAt p its.toArray n dd sl u (eqU y)) ⟨ho, fun z hz => mem_eqAt ru fy rv fys z (by simpa using hz), ?_⟩
  have e := count_eqU rv fys (x := y)
  refine ⟨.int ((ys.countP fun z => eqV z y : Nat) : Int), H, I.tok _, ⟨s.toks, ?_⟩, q⟩
  show Value.int ((its.toArray.toList.countP (eqU y) : Nat) : Int) s.toks = _
  rw [List.toList_toArray, e]
def tcountG (d : D) (ds : List D) (st : Sto) : Option (D × Sto) := match d, ds with
  | .t (.tup ts), [.t y] => (tV y).bind fun w => (tVs (ts.map .t)).map fun vs => (iD ((vs.countP fun z => eqV z w : Nat) : Int), st)
  | _, _ => none
theorem m_tcount : MtR X "tuple.count" (rMt X.K tcountG) := by
  intro pins s σ H x xs v us Q I rx rs ⟨W, st, d, ds, R, r1, r2, z, h, q⟩
  unfold tcountG at h
  split at h
  · rename_i ts y
    cases e1 : tV y with
    | none => rw [e1] at h; cases h
    | some w =>
      rw [e1] at h
      have h : (tVs (ts.map .t)).map (fun vs => (iD ((vs.countP fun z => eqV z w : Nat) : Int), st)) = some z := h
      cases e3 : tVs (ts.map .t) with
      | none => rw [e3] at h; cases h
      | some vs =>
        rw [e3] at h
        cases h
        obtain ⟨u, rfl, r3⟩ := rel1 r2
        obtain ⟨a, ws, rfl, sq, rr⟩ := r1
        obtain ⟨rfl, f1⟩ := tV_rel e1 r3
        obtain ⟨rfl, f2⟩ := tVs_rel e3 (relDs_t rr)
        exact mt_countT pins s σ H _ _ v us Q I rx rs ⟨a, _, _, rfl, rfl, sq.sq, f1, f2, q W H _ .refl R rfl⟩
  · cases h
end
end Mi
/-! Mv34 -/
namespace Mi
open L2 PySem PySem.Spec PyProof.Rows
/-! ### TABLE[k].count(c), where the table's values are tuples -/
def dnV (K : PySem.W.Frag) : Value → Bool
  | .ref a => match K.lookup a with
    | some ⟨.type "tuple", none, _, _⟩ => true
    | _ => false
  | _ => false
structure TabD (K : PySem.W.Frag) (w : World) (mg : Str → Option Value) (x : Str) (tb : List (Str × T)) : Prop where
  ex : ∃ d es n, mg x = some (.ref d) ∧ KDict K w d es n ∧ tabEs K es.toList tb = true ∧ es.toList.all (fun e => dnV K e.val) = true
section
variable {X : Cx} {Wx : WX} {a c : Expr} {fa fc : Env → Sto → Res D} {x : Str} {p pos apos cpos : Pos} {tb : List (Str × T)}
theorem tab_nsD {K : PySem.W.Frag} {w : World} {d : Addr} {es : Array DictEntry} {n : Nat} (D : KDict K w d es n) (h : tabEs K es.toList tb = true) (hn : es.toList.all (fun e => dnV K e.val) = true) {z : Str} {t : T} (q : tb.lookup z = some t) : ∃ u, PySem.W.nsIn K d z = some (some u) ∧ repV K u t = true ∧ dnV K u = true := by
  obtain ⟨h1, h2⟩ := tabEs_find h
  have h3 := h2 z
  unfold PySem.W.nsIn
  rw [D.at_]
  simp only
  rw [q] at h3
  obtain ⟨en, e1, e2⟩ := h3
  rw [e1]
  exact ⟨en.val, rfl, e2, List.all_eq_true.mp hn en (List.mem_of_find?_eq_some e1)⟩
def tcntM (tb : List (Str × T)) (fa fc : Env → Sto → Res D) (env : Env) (st : Sto) : Res D := (fa env st).bind fun d st1 => match d with
  | .t (.str z) => match tb.lookup z with
    | some (.tup ts) => (argsM [fc] env st1).bind fun ds st2 => optS (tcountG (.t (.tup ts)) ds st2)
    | _ => .bad
  | _ => .bad
theorem re_tcnt (Tb : TabD X.K X.w X.mg x tb) (hg : Gl X x) (ha : RE X Wx a fa) (hc : RA X Wx [c] (argsM [fc])) (hd : (x == ("__debug__" : Str)) = false := by decide) (hs : PlainIx a := by exact fun _ _ => rfl)
    (hbase : attributeBase (.Subscript (.Name x p) a pos) "count" X.env (eval (.Subscript (.Name x p) a pos) X.env) = eval (.Subscript (.Name x p) a pos) X.env := by rfl) (hfew : ((backTo cpos (starEach [c] X.env)).all (fun x => !x.1) && (backToKw cpos (keywordEach [] X.env)).all (fun x => x.1.isSome) && decide ([c].length + ([] : List Keyword).length + (if ([] : List Keyword).isEmpty then 0 else 1) < 30)) = true := by rfl) (hline : (apos.endLine == cpos.line) = true := by rfl)
    (hs2 : starEach [c] X.env = (false, eval c X.env) :: starEach [] X.env := by rfl) (hplain : (backTo cpos (starEach [] X.env)).any (·.1) = false := by rfl) :
    RE X Wx (.Call (.Attribute (.Subscript (.Name x p) a pos) "count" apos) [c] [] cpos) (tcntM tb fa fc) := by
  obtain ⟨d, es, n, hmg, D, ht, hn⟩ := Tb.ex
  refine PE.conv (pe_bm PySem.F.plainAttrs_tuple PySem.F.slot_tuple_count PySem.F.type_tuple_count m_tcount (pe_ix (ix_kd D) (pe_glob (v := .ref d) hg hmg rfl hd) ha hs) hc hbase hfew hline hs2 hplain) fun σ H Q ⟨W, env, st, R, Ev, h⟩ => ⟨W, env, st, R, Ev, split h (fun d0 st1 h1 W1 H1 v E1 R1 r1 => ?_) fun C fs st' hx => hx⟩
  split at h1
  · rename_i z
    cases r1
    split at h1
    · rename_i ts e4
      obtain ⟨u0, e2, e5, e6⟩ := tab_nsD D ht hn e4
      obtain ⟨v0, h2, h3⟩ := repV_ok e5
      have r0 : RelT X.K W1.F H1 (.tup ts) v0 := h3 _ _
      have ty : tyV X.K "tuple" v0 H1 := by
        unfold dnV at e6
        split at e6
        · rename_i b
          split at e6
          · rename_i dt sl hk
            obtain ⟨b', vs, rfl, _⟩ := r0
            have : b' = b := by cases h2; rfl
            subst this
            exact .inr (.inl ⟨rfl, _, hk, rfl, rfl⟩)
          · cases e6
        · cases e6
      refine ⟨z, u0, v0, rfl, rfl, e2, h2, ty, W1, env, st1, R1, Ev.mono E1 R, Mi.split h1 (fun ds st2 h4 W2 H2 vs E2 R2 r2 => ?_) fun C fs st' hx => hx.mono E1⟩
      obtain ⟨y, e1, q⟩ := optS_holds h4
      exact ⟨W2, st2, .t (.tup ts), ds, R2, E2.relT R1 _ _ r0, r2, y, e1, q.mono (E1.trans E2)⟩
    · exact h1.elim
  · exact h1.elim
end
end Mi
/-! Mv35 -/
namespace Mi
open L2 PySem PySem.Spec PyProof.Rows
/-! ### try whose clauses name a class or four classes -/
abbrev ClT5 := (Value → Option Bool) × Option Nat × (Addr → Value → Option Addr → TS)
def wHd5 (Wout : WX) (D : Ends) : List ClT5 → WX
  | [] => Wout
  | (ex, io, ts) :: r => fun cls d σ H => ∃ b, ex cls = some b ∧ (b = true → ∀ a, H a = none → ts a cls d (endsAs io D) (setAs io σ a) H) ∧ (b = false → wHd5 Wout D r cls d σ H)
/-- what a clause asks -/
inductive Ct5 (X : Cx) : Expr → (Value → Option Bool) → Prop
  | one {x : Str} {c : Value} {np : Pos} (hc : Names X x c) : Ct5 X (.Name x np) (fun cls => PySem.W.exmOne X.K cls c)
  | four {x1 x2 x3 x4 : Str} {c1 c2 c3 c4 : Value} {p1 p2 p3 p4 tpos : Pos} {kk : Nat} (h1 : Names X x1 c1) (h2 : Names X x2 c2) (h3 : Names X x3 c3) (h4 : Names X x4 c4) : Ct5 X (.Tuple [.Name x1 p1, .Name x2 p2, .Name x3 p3, .Name x4 p4] kk tpos) (fun cls => PySem.W.exmAny X.K cls [c1, c2, c3, c4])
inductive ClOk5 (X : Cx) : List ExceptHandler → List ClT5 → Prop
  | nil : ClOk5 X [] []
  | only {t : Expr} {ex : Value → Option Bool} {ts : Addr → Value → Option Addr → TS} {b₀ : Stmt} {suite : List Stmt} {pos' : Pos} {hds : List ExceptHandler} {l : List ClT5} (hc : Ct5 X t ex)
      (hsu : ∀ (a : Addr) (oe : Obj) (cls : Value) (d : Option Addr) (pn : List (Addr × Obj)), Zc cls d oe → (∃ vs, oe.data = .fields vs) → PSs (X.suite a ((a, oe) :: pn)) (b₀ :: suite) (ts a cls d)) (r : ClOk5 X hds l) :
      ClOk5 X (.ExceptHandler (some t) none (b₀ :: suite) pos' :: hds) ((ex, none, ts) :: l)
  | named {t : Expr} {n : Str} {i : Nat} {ex : Value → Option Bool} {ts : Addr → Value → Option Addr → TS} {b₀ : Stmt} {suite : List Stmt} {pos' : Pos} {hds : List ExceptHandler} {l : List ClT5} (hN : X.N.Nodup) (hi : X.N[i]? = some n) (hln : X.env.kindOf n = some .local) (hc : Ct5 X t ex)
      (hsu : ∀ (a : Addr) (oe : Obj) (cls : Value) (d : Option Addr) (pn : List (Addr × Obj)), Zc cls d oe → (∃ vs, oe.data = .fields vs) → PSs (X.suite a ((a, oe) :: pn)) (b₀ :: suite) (ts a cls d)) (r : ClOk5 X hds l) :
      ClOk5 X (.ExceptHandler (some t) (some n) (b₀ :: suite) pos' :: hds) ((ex, some i, ts) :: l)
theorem flZ_keeps {B h h' : Heap} {l : List PySem.Env} {e : Addr} {Z : Obj → Prop} (R : HandSPX.FlyingZ B l e Z h) (k : ∀ b o, h.get? b = some o → h'.get? b = some o) : HandSPX.FlyingZ B l e Z h' := by
  obtain ⟨f1, f2, f3, oe, vs, T, oT, ts, he, hz, hd, h1, hr⟩ := R
  refine ⟨fun b o q => k b o (f1 b o q), f2, f3.of_keeps fun b o q _ => ⟨o, k b o q, rfl⟩, oe, vs, T, oT, ts, k _ _ he, hz, hd, h1, ?_⟩
  exact ⟨hr.1, hr.2.1, k _ _ hr.2.2.1, hr.2.2.2⟩
section
variable {X : Cx} {body : List Stmt} {h₀ : ExceptHandler} {hds : List ExceptHandler} {l : List ClT5} {pos : Pos} {tb : WX → TS} {Wout : WX}
theorem ps_try_cl5 (hs : X.stack = X.env :: X.outer) (hf : X.env.frame = some X.env.locals) (tk : Takes X Wout)
    (hb  : ∀ (W : WX) (pn : List (Addr × Obj)) (xe : Value → Shared → Prop), Takes (X.tr pn xe) W → PassesOwn (model X.prog X.w) X.A X.env xe → PSs (X.tr pn xe) body (tb W))
    (hh : ClOk5 X (h₀ :: hds) l) : PS X (.Try body (h₀ :: hds) [] [] pos) (fun D σ H => tb (wHd5 Wout D l) D σ H) := by
  refine  ⟨fun pins s σ H D I h => ?_⟩
  have ok := I.ok
  have fr0 : X.A.frames = some (X.env :: X.outer) := by rw [ok.frames, hs]
  refine wpAny_Try_except ?_
  refine wpAny_mono ((hb (wHd5 Wout D l) (X.pn ++ pins) (fun e s₁ => wpAny (model X.prog X.w) X.A (noteFrame e X.env) (fun _ s₂ => wpAny (model X.prog X.w) X.A (setFlight e none) (fun _ s₃ =>
    wpAny  (model X.prog X.w) X.A (handleBy e X.env (h₀ :: hds)) (SP X pins D) X.xe s₃) X.xe s₂) X.xe s₁) (fun u s' xx => ?_) PassesOwn.looking).run [] s σ H D (I.toTry _) h) (fun f s1 hsp => ?_) (fun e s1 he => he)
  · obtain ⟨a, B, sI, pins', σ', H', cls, d, rfl, J', nb, up, sky, na, os, ag, w⟩ := xx
    have  J : Inv X pins σ' H' sI := J'.ofTry ok
    have sk : Sky B (X.env :: X.outer) a (Zc cls d) X.env.locals s'.heap := by rw [← hs]; exact sky
    show  wpAny (model X.prog X.w) X.A (noteFrame (.ref a) X.env) _ _ _
    refine Sky.land Zc.steady fr0 hf sk fun h3 fl3 up3 => ?_
    have inv : ∀ {h : Heap}, HandSPX.FlyingZ B (X.env :: X.outer) a (Zc cls d) h → s'.heap.UpToSlots h → Inv X pins σ' H' { s' with heap := h } := fun fl u => J.landed nb fl.1 (up.trans u) os ag
    have suit : ∀ {h : Heap} (fl : HandSPX.FlyingZ B (X.env :: X.outer) a (Zc cls d) h) (u : s'.heap.UpToSlots h), ∃ oe vs, h.get? a = some oe ∧ Zc cls d oe ∧ oe.data = .fields vs ∧ Inv (X.suite a ((a, oe) :: (X.pn ++ pins))) [] σ' H' { s' with heap := h } := fun {h} fl u => by
      obtain ⟨oe3, vs3, he3, hz3, hd3⟩ := fl.there
      have nfr : a ∉ frs (X.env :: X.outer) := fun hm => by
        obtain ⟨_, o', e', hnf⟩ := fl.2.2.1.mem hm
        rw [he3] at e'
        cases e'
        exact hnf _ hd3
      have  nL : a ≠ X.env.locals := fun z => nfr (List.mem_filterMap.mpr ⟨X.env, List.mem_cons_self, by rw [hf, z]⟩)
      have  nF : a ∉ X.fs := fun hm => by
        (obtain ⟨e, he, q⟩ := List.mem_filterMap.mp hm)
        exact  nfr (List.mem_filterMap.mpr ⟨e, List.mem_cons_of_mem _ he, q⟩)
      exact ⟨oe3, vs3, he3, hz3, hd3, (inv fl u).suite he3 hd3 na nL nF⟩
    have test : ∀ {t : Expr} {ex : Value → Option Bool} (_ : Ct5 X t ex) {b : Bool} {h : Heap} (fl : HandSPX.FlyingZ B (X.env :: X.outer) a (Zc cls d) h) (u : s'.heap.UpToSlots h) (hb : ex cls = some b) {A2 : Around} {Qb : Bool → Shared → Prop} {E : Value → Shared → Prop},
        (∀ h4, HandSPX.FlyingZ B (X.env :: X.outer) a (Zc cls d) h4 → s'.heap.UpToSlots h4 → Qb b { s' with heap := h4 }) → wpAny (model X.prog X.w) (X.A.mark (some (.ref a))) (eval t X.env) (fun c s => wpAny (model X.prog X.w) A2 (excMatches (.ref a) c) Qb E s) E { s' with heap := h } := by
      intro t ex ht b h fl u hb A2 Qb E q
      obtain ⟨oe3, vs3, he3, hz3, hd3, S3⟩ := suit fl u
      have LT : PySem.W.Looks (model X.prog X.w) h (typeOf (.ref a)) cls := fun A Q E s k q => wpAny_typeOf_ref (k _ _ he3) (by rw [hz3.1]; exact q)
      have name : ∀ {x : Str} {c : Value} {np : Pos} (_ : Names X x c) {Q : Value → Shared → Prop} {E : Value → Shared → Prop}, Q c { s' with heap := h } → wpAny (model X.prog X.w) (X.A.mark (some (.ref a))) (eval (.Name x np) X.env) Q E { s' with heap := h } := fun {x c np} hc {Q E} q => by
        obtain  ⟨hg, hdbg, hm | ⟨hm, hv, hnn⟩⟩ := hc
        · exact  ld_glob (X := X.suite a ((a, oe3) :: (X.pn ++ pins))) S3 hg hm q hdbg
        · exact  ld_blt (X := X.suite a ((a, oe3) :: (X.pn ++ pins))) S3 hg hm hv q hnn hdbg
      cases ht with
      | one hc => exact name hc ((PySem.W.exm_one (M := model X.prog X.w) (inv fl u).kIn LT hb).here (q h fl u))
      | @four x1 x2 x3 x4 c1 c2 c3 c4 p1 p2 p3 p4 tpos kk n1 n2 n3 n4 =>
        refine wpAny_Tuple ?_
        refine wpAny_items_cons (name n1 ?_)
        refine wpAny_items_cons (name n2 ?_)
        refine wpAny_items_cons (name n3 ?_)
        refine wpAny_items_cons (name n4 ?_)
        refine  wpAny_items_nil ⟨by size_fits, ?_⟩
        have kp : ∀ q o, h.get? q = some o → (h.push { cls := .type "tuple", data := .seq [c1, c2, c3, c4].toArray }).get? q = some o := fun _ _ z => Heap.get?_push_of_some _ z
        exact (PySem.W.exm_tup4 (M := model X.prog X.w) ((inv fl u).kIn.keeps kp) (LT.keeps kp) (Heap.get?_push_size h rfl) hb).here (q _ (flZ_keeps fl kp) (u.trans (Heap.UpToSlots.of_keeps kp)))
    have go : ∀ {hd' : List ExceptHandler} {l' : List ClT5}, ClOk5 X hd' l' → wHd5 Wout D l' cls d σ' H' → ∀ h3 : Heap, HandSPX.FlyingZ B (X.env :: X.outer) a (Zc cls d) h3 → s'.heap.UpToSlots h3 →
        wpAny (model X.prog X.w) X.A (handleBy (.ref a) X.env hd') (SP X pins D) X.xe { s' with heap := h3 } := by
      intro hd' l' hk
      induction hk with
      | nil =>
        intro w h3 fl3 up3
        refine wpAny_handleBy_nil ?_
        obtain  ⟨k1, k2, k3, oe, vs, T, oT, ts', he, hz, hd, h1, hr⟩ := id fl3
        unfold PySem.passOn
        refine  wpAny_bind (wpAny_field he hd h1 ?_)
        rw  [if_neg (show ¬ ((Value.ref T == Value.none) = true) from by simp)]
        have  fin : wpAny (model X.prog X.w) X.A (setFlight (.ref a) X.env.frame) (fun _ s4 => wpAny (model X.prog X.w) X.A (throw (.ref a) : Sem Flow) (SP X pins D) X.xe s4) X.xe { s' with heap := h3 } := by
          rw [hf]
          refine  HandSPX.setFlight_upZ fl3 fun h4 hh4 up4 => wpAny_throw (tk _ _ ?_)
          exact  ⟨a, B, sI, pins, σ', H', cls, d, rfl, J, nb, (up.trans up3).trans up4, .inr (.inr (by rw [hs]; exact hh4)), na, os, ag, w⟩
        first
          |  exact wpAny_bind (wpAny_pure (wpAny_bind fin))
          | exact wpAny_bind fin
      | @only t ex ts b₀ suite pos' hd2 l2 hc hsu r ih =>
        intro w h3 fl3 up3
        obtain  ⟨b, hb1, hyes, hno⟩ := w
        refine  wpAny_handleBy_cons (codeAny_handlers_test ?_) (by intro q; cases q)
        refine test hc fl3 up3 hb1 fun h5 fl5 up5 => ?_
        cases b with
        | false => exact ih (hno rfl) h5 fl5 up5
        | true =>
          refine  codeAny_handlers_suite ?_
          refine HandSPX.lands_againZ fl5 fun h4 fl4 up4 => ?_
          obtain ⟨oe4, vs4, he4, hz4, hd4, S4⟩ := suit fl4 (up5.trans up4)
          refine wpAny_mono ((hsu a oe4 cls d (X.pn ++ pins) hz4 ⟨_, hd4⟩).run [] _ _ H' _ S4 (hyes rfl a na)) (fun f s6 z => ?_) (fun _ _ z => False.elim z)
          cases f with
          | next => (obtain ⟨σ6, H6, S6, q6⟩ := z); exact ⟨_, _, S6.unsuite ok, q6⟩
          | brk => (obtain ⟨σ6, H6, S6, q6⟩ := z); exact ⟨_, _, S6.unsuite ok, q6⟩
          | cont => (obtain ⟨σ6, H6, S6, q6⟩ := z); exact ⟨_, _, S6.unsuite ok, q6⟩
          | ret u => (obtain ⟨v6, σ6, H6, S6, r6, q6⟩ := z); exact ⟨_, _, _, S6.unsuite ok, r6, q6⟩
      | @named t n i ex ts b₀ suite pos' hd2 l2 hN hi hln hc hsu r ih =>
        intro w h3 fl3 up3
        obtain  ⟨b, hb1, hyes, hno⟩ := w
        have  hloc : Loc X.env.scope n := .inl hln
        refine  wpAny_handleBy_cons (codeAny_handlers_test ?_) (by intro q; cases q)
        refine test hc fl3 up3 hb1 fun h5 fl5 up5 => ?_
        cases b with
        | false => exact ih (hno rfl) h5 fl5 up5
        | true =>
          refine  codeAny_handlers_suite_as ?_
          refine HandSPX.lands_againZ fl5 fun h4 fl4 up4 => ?_
          obtain ⟨oe4, vs4, he4, hz4, hd4, S4⟩ := suit fl4 (up5.trans up4)
          refine  store_ok (X := X.suite a ((a, oe4) :: (X.pn ++ pins))) (v := .ref a) S4 hN hi hloc rfl (fun s5 S5 => ?_) (.inr hln)
          refine wpAny_mono ((hsu a oe4 cls d (X.pn ++ pins) hz4 ⟨_, hd4⟩).run [] s5 _ H' _ S5 (hyes rfl a na)) (fun f s6 z => ?_) (fun _ _ z => False.elim z)
          have end_ : ∀ {σ6 : L2.St} {H6 : Hp} {Q : Shared → Prop}, Inv (X.suite a ((a, oe4) :: (X.pn ++ pins))) [] σ6 H6 s6 → (∀ s7, Inv X pins (σ6.set i none) H6 s7 → Q s7) →
              wpAny  (model X.prog X.w) X.A (do bindName X.env n .none; unbindBehindTheSuite X.env n pos') (fun _ s7 => Q s7) X.xe s6 := fun {σ6 H6 Q} S6 hq => gone_ok (S6.unsuite ok) hN hi hln hq
          cases f with
          | next => (obtain ⟨σ6, H6, S6, q6⟩ := z); exact end_ S6 fun s7 J7 => ⟨_, _, J7, q6⟩
          | brk => (obtain ⟨σ6, H6, S6, q6⟩ := z); exact end_ S6 fun s7 J7 => ⟨_, _, J7, q6⟩
          | cont => (obtain ⟨σ6, H6, S6, q6⟩ := z); exact end_ S6 fun s7 J7 => ⟨_, _, J7, q6⟩
          | ret u => (obtain ⟨v6, σ6, H6, S6, r6, q6⟩ := z); exact end_ S6 fun s7 J7 => ⟨_, _, _, J7, r6, q6⟩
    exact go hh w h3 fl3 up3
  · cases f with
    | next => (obtain ⟨σ', H', J', q⟩ := hsp); exact wpAny_execs_nil ⟨σ', H', J'.ofTry ok, q⟩
    | brk => (obtain ⟨σ', H', J', q⟩ := hsp); exact ⟨σ', H', J'.ofTry ok, q⟩
    | cont => (obtain ⟨σ', H', J', q⟩ := hsp); exact ⟨σ', H', J'.ofTry ok, q⟩
    | ret u => (obtain ⟨v, σ', H', J', r, q⟩ := hsp); exact ⟨v, σ', H', J'.ofTry ok, r, q⟩
end
/-! ### the mirror of it -/
/-- what a clause asks, of classes of the program -/
inductive CtR (X : Cx) : Expr → (Addr → Option Bool) → Prop
  | one {x : Str} {D : Addr} {isC : Addr → Option Bool} {np : Pos} (hg : Gl X x) (hm : X.mg x = some (.ref D)) (hx : ∀ C b, isC C = some b → PySem.W.exmOne X.K (.ref C) (.ref D) = some b) (hdb : (x == ("__debug__" : Str)) = false := by decide) : CtR X (.Name x np) isC
  | four {x1 x2 x3 x4 : Str} {D1 D2 D3 D4 : Addr} {isC : Addr → Option Bool} {p1 p2 p3 p4 tpos : Pos} {kk : Nat} (g1 : Gl X x1) (m1 : X.mg x1 = some (.ref D1)) (g2 : Gl X x2) (m2 : X.mg x2 = some (.ref D2)) (g3 : Gl X x3) (m3 : X.mg x3 = some (.ref D3)) (g4 : Gl X x4) (m4 : X.mg x4 = some (.ref D4))
      (hx : ∀ C b, isC C = some b → PySem.W.exmAny X.K (.ref C) [.ref D1, .ref D2, .ref D3, .ref D4] = some b) (d1 : (x1 == ("__debug__" : Str)) = false := by decide) (d2 : (x2 == ("__debug__" : Str)) = false := by decide) (d3 : (x3 == ("__debug__" : Str)) = false := by decide) (d4 : (x4 == ("__debug__" : Str)) = false := by decide) :
      CtR X (.Tuple [.Name x1 p1, .Name x2 p2, .Name x3 p3, .Name x4 p4] kk tpos) isC
inductive ClR5 (X : Cx) : List ExceptHandler → List ClM → Prop
  | nil : ClR5 X [] []
  | only {t : Expr} {isC : Addr → Option Bool} {S : SuM} {b₀ : Stmt} {suite : List Stmt} {pos' : Pos} {hds : List ExceptHandler} {l : List ClM} (ht : CtR X t isC)
      (hsu : ∀ (a : Addr) (oe : Obj) (C : Addr) (d : Option Addr) (pn : List (Addr × Obj)), isC C = some true → Zc (.ref C) d oe → (∃ vs, oe.data = .fields vs) → RSs (X.suite a ((a, oe) :: pn)) W0 (b₀ :: suite) (S a d C)) (r : ClR5 X hds l) :
      ClR5 X (.ExceptHandler (some t) none (b₀ :: suite) pos' :: hds) ((none, isC, S) :: l)
  | named {t : Expr} {n : Str} {i : Nat} {isC : Addr → Option Bool} {S : SuM} {b₀ : Stmt} {suite : List Stmt} {pos' : Pos} {hds : List ExceptHandler} {l : List ClM} (hN : X.N.Nodup) (hi : X.N[i]? = some n) (hln : X.env.kindOf n = some .local) (ht : CtR X t isC)
      (hsu : ∀ (a : Addr) (oe : Obj) (C : Addr) (d : Option Addr) (pn : List (Addr × Obj)), isC C = some true → Zc (.ref C) d oe → (∃ vs, oe.data = .fields vs) → RSs (X.suite a ((a, oe) :: pn)) W0 (b₀ :: suite) (S a d C)) (r : ClR5 X hds l) :
      ClR5 X (.ExceptHandler (some t) (some n) (b₀ :: suite) pos' :: hds) ((some i, isC, S) :: l)
section
variable {X : Cx} {Wx : WX} {body : List Stmt} {h₀ : ExceptHandler} {hds : List ExceptHandler} {pos : Pos} {gb : Env → Sto → Out}
theorem ct_of {t : Expr} {isC : Addr → Option Bool} (h : CtR X t isC) : ∃ ex, Ct5 X t ex ∧ ∀ C b, isC C = some b → ex (.ref C) = some b := by
  cases h with
  | one hg hm hx hdb => exact ⟨_, .one ⟨hg, hdb, .inl hm⟩, hx⟩
  | four g1 m1 g2 m2 g3 m3 g4 m4 hx d1 d2 d3 d4 => exact ⟨_, .four ⟨g1, d1, .inl m1⟩ ⟨g2, d2, .inl m2⟩ ⟨g3, d3, .inl m3⟩ ⟨g4, d4, .inl m4⟩, hx⟩
theorem cl_of5 {l : List ClM} {hds : List ExceptHandler} (h : ClR5 X hds l) : ∃ l', ClOk5 X hds l' ∧ ∀ (E : Ends) (W : Wd) (H : Hp) (C : Addr) (fs : List (Str × T)) (e : Env) (s : Sto), (goCl C fs e s l).Holds X.K Wx E W H →
    ∀ W' σ' H' o, Ext W H W' H' → Rl X.K W' s H' → EnvR X.K W' H' e σ' → ExD X.K W' H' fs o → wHd5 Wx E l' (.ref C) o σ' H' := by
  induction h with
  | nil => exact ⟨[], .nil, fun E W H C fs e s h => h⟩
  | @only t isC S b₀ suite pos' hds l ht hsu r ih =>
    obtain ⟨l', h1, h2⟩ := ih
    obtain ⟨ex, hc, hx⟩ := ct_of ht
    refine ⟨(ex, none, tSuite X.K isC S) :: l', .only hc (suite_of hsu) h1, fun E W H C fs e s h W' σ' H' o E' R' V' xx => ?_⟩
    unfold goCl at h
    cases q2 : isC C with
    | none => simp only [q2] at h; exact h.elim
    | some b =>
      refine ⟨b, hx C b q2, fun hbt a ha => ?_, fun hbf => ?_⟩
      · subst hbt
        simp only [q2] at h
        split at h
        · rename_i all
          refine ⟨C, rfl, q2, W', _, s, R', envAs_rel (io := none) (a := a) (C := C) V' xx, ?_⟩
          exact Out.Holds.mono (endM_holds (io := none) (by rw [all a o]; exact h)) E'
        · exact h.elim
      · subst hbf
        simp only [q2] at h
        exact h2 E W H C fs e s h W' σ' H' o E' R' V' xx
  | @named t n i isC S b₀ suite pos' hds l hN hi hln ht hsu r ih =>
    obtain ⟨l', h1, h2⟩ := ih
    obtain ⟨ex, hc, hx⟩ := ct_of ht
    refine ⟨(ex, some i, tSuite X.K isC S) :: l', .named hN hi hln hc (suite_of hsu) h1, fun E W H C fs e s h W' σ' H' o E' R' V' xx => ?_⟩
    unfold goCl at h
    cases q2 : isC C with
    | none => simp only [q2] at h; exact h.elim
    | some b =>
      refine ⟨b, hx C b q2, fun hbt a ha => ?_, fun hbf => ?_⟩
      · subst hbt
        simp only [q2] at h
        split at h
        · rename_i all
          refine ⟨C, rfl, q2, W', _, s, R', envAs_rel (io := some i) (a := a) (C := C) V' xx, ?_⟩
          exact Out.Holds.mono (endM_holds (io := some i) (by rw [all a o]; exact h)) E'
        · exact h.elim
      · subst hbf
        simp only [q2] at h
        exact h2 E W H C fs e s h W' σ' H' o E' R' V' xx
theorem rs_tryCl5 {l : List ClM} (hs : X.stack = X.env :: X.outer) (hf : X.env.frame = some X.env.locals) (tk : Takes X Wx)
    (hb : ∀ (W : WX) (pn : List (Addr × Obj)) (xe : Value → Shared → Prop), Takes (X.tr pn xe) W → PassesOwn (model X.prog X.w) X.A X.env xe → RSs (X.tr pn xe) W body gb)
    (hl : ClR5 X (h₀ :: hds) l) : RS X Wx (.Try body (h₀ :: hds) [] [] pos) (tryCl l gb) := by
  obtain ⟨l', h1, h2⟩ := cl_of5 (Wx := Wx) hl
  refine PS.conv (ps_try_cl5 (tb := fun W => tS X.K W gb) hs hf tk hb h1) fun E σ H ⟨W, env, st, R, Ev, h⟩ => ⟨W, env, st, R, Ev, ?_⟩
  unfold tryCl at h
  cases q : gb env st with
  | nx e s => rw [q] at h; exact h
  | bk e s => rw [q] at h; exact h
  | ct e s => rw [q] at h; exact h
  | rt d s => rw [q] at h; exact h
  | bad => rw [q] at h; exact h
  | exc C fs e s =>
    rw [q] at h
    exact fun W' σ' H' o E' R' V' xx => h2 E W H C fs e s h W' σ' H' o E' R' V' xx
/-- one of four classes: one answer after another -/
theorem exm_any4 {K : PySem.W.Frag} {cls c1 c2 c3 c4 : Value} {b1 b2 b3 b4 : Bool} (h1 : PySem.W.exmOne K cls c1 = some b1) (h2 : PySem.W.exmOne K cls c2 = some b2) (h3 : PySem.W.exmOne K cls c3 = some b3) (h4 : PySem.W.exmOne K cls c4 = some b4) : PySem.W.exmAny K cls [c1, c2, c3, c4] = some (b1 || (b2 || (b3 || (b4 || false)))) := by
  unfold PySem.W.exmAny PySem.W.exmAny PySem.W.exmAny PySem.W.exmAny PySem.W.exmAny
  rw [h1, h2, h3, h4]
end
end Mi
/-! Mv36 -/
namespace Mi
open L2 PySem PySem.Spec PyProof.Rows
/-! ### xs[lo:hi:step] of a list -/
def pickG {α : Type} (xs : List α) (lo hi sp : Option Int) : List α := (sliceRange (sliceBounds lo hi sp xs.length).1 (sliceBounds lo hi sp xs.length).2.1 (sliceBounds lo hi sp xs.length).2.2).filterMap fun (i : Nat) => xs[i]?
theorem pick_its (its : List Value) (lo hi sp : Option Int) : slicePick its.toArray lo hi sp = (pickG its lo hi sp).toArray := by
  unfold slicePick pickG
  rw [List.size_toArray]
  simp only [List.getElem?_toArray]
theorem pick_len (its : List Value) (lo hi sp : Option Int) : (pickG its lo hi sp).length ≤ its.length := by
  have h := slicePick_size_le its.toArray lo hi sp
  rw [pick_its, List.size_toArray, List.size_toArray] at h
  exact h
theorem vals_pick {xs : List V} {us : List Value} (r : Vals xs us) (lo hi sp : Option Int) : Vals (pickG xs lo hi sp) (pickG us lo hi sp) := by
  unfold pickG
  rw [r.length]
  generalize sliceRange _ _ _ = l
  induction l with
  | nil => exact .nil
  | cons i l ih =>
    rw [List.filterMap_cons, List.filterMap_cons]
    cases e : xs[i]? with
    | none =>
      have e2 : us[i]? = none := by
        rw [List.getElem?_eq_none_iff] at e ⊢
        rw [← r.length]; exact e
      rw [e2]
      exact ih
    | some x =>
      obtain ⟨u, e2, h⟩ := r.get e
      rw [e2]
      exact .cons h ih
theorem relTs_pick {K : PySem.W.Frag} {F : Addr → Prop} {H : Hp} {ts : List T} {vs : List V} (r : RelTs K F H ts vs) (lo hi sp : Option Int) : RelTs K F H (pickG ts lo hi sp) (pickG vs lo hi sp) := by
  unfold pickG
  rw [relTs_len r]
  generalize sliceRange _ _ _ = l
  induction l with
  | nil => rfl
  | cons i l ih =>
    rw [List.filterMap_cons, List.filterMap_cons]
    cases e : ts[i]? with
    | none =>
      have e2 : vs[i]? = none := by
        rw [List.getElem?_eq_none_iff] at e ⊢
        rw [relTs_len r]; exact e
      rw [e2]
      exact ih
    | some x =>
      obtain ⟨u, e2, h⟩ := relTs_get r e
      rw [e2]
      exact ⟨u, _, rfl, h, ih⟩
section
variable {X : Cx} {Wx : WX} {e : Expr} {te : TE} {lo hi : Option Expr} {sp : Expr} {tl th ts' : TO} {pos p2 : Pos} {f : Env → Sto → Res D}
def SlR3 (X : Cx) (r : V → Option Int → Option Int → Option Int → Hp → VK → Prop) : Prop :=
  ∀ (pins : List (Addr × Obj)) (s : Shared) (σ : L2.St) (H : Hp) (x : V) (v vl vu vs : Value) (lo hi sp : Option Int) (sl : Addr) (Q : VK), Inv X pins σ H s → RelV x v → s.heap.IsSliceOf sl vl vu vs → IsPart vl lo → IsPart vu hi → IsPart vs sp → r x lo hi sp H Q →
    ∃  T id, typeLookup (.type T) "__getitem__" = pure (some (.builtin id)) ∧ s.TypeIs v T ∧ wpAny (model X.prog X.w) X.A (getItem v (.ref sl)) (EP X pins σ Q) X.xe s
def tSl3 (r : V → Option Int → Option Int → Option Int → Hp → VK → Prop) (te : TE) (tl th ts' : TO) : TE := fun σ H Q => te σ H fun x H1 => tl σ H1 fun l H2 => th σ H2 fun u H3 => ts' σ H3 fun p H4 => r x l u p H4 Q
theorem pe_slice3 {r : V → Option Int → Option Int → Option Int → Hp → VK → Prop} (hr : SlR3 X r) (he : PE X e te) (hl : PO X lo tl) (hu : PO X hi th) (hs : PO X (some sp) ts') : PE X (.Subscript e (.Slice lo hi (some sp) p2) pos) (tSl3 r te tl th ts') := by
  refine  ⟨fun pins s σ H Q I h => ?_⟩
  refine  Subscript_ (thn (he.run pins s σ H _ I h) fun v s1 ⟨x, H1, I1, r1, q1⟩ => ?_)
  refine wpAny_Slice (thn (hl.run pins s1 σ H1 _ I1 q1) fun vl s2 ⟨l, H2, I2, pl, q2⟩ => thn (hu.run pins s2 σ H2 _ I2 q2) fun vu s3 ⟨u, H3, I3, pu, q3⟩ => thn (hs.run pins s3 σ H3 _ I3 q3) fun vs s4 ⟨p, H4, I4', ps, q4⟩ => ?_)
  have I4 : Inv X pins σ H4 { s4 with heap := s4.heap.push { cls := .type "slice", data := .fields #[vl, vu, vs] } } := I4'.kept (t' := s4.toks) fun b ob q => Heap.get?_push_of_some _ q
  obtain ⟨T, id, hT, ht, hg⟩ := hr pins { s4 with heap := s4.heap.push { cls := .type "slice", data := .fields #[vl, vu, vs] } } σ H4 x v vl vu vs l u p s4.heap.objs.size Q I4 r1 (Heap.IsSliceOf.new ..) pl pu ps q4
  show wpAny (model X.prog X.w) X.A (subscriptTail e (.Slice lo hi (some sp) p2) v (.ref s4.heap.objs.size)) (EP X pins σ Q) X.xe { s4 with heap := s4.heap.push { cls := .type "slice", data := .fields #[vl, vu, vs] } }
  exact tail_any (ops := [v, .ref s4.heap.objs.size]) ht hT hg (by with_unfolding_all rfl)
def rSlL3 (K : PySem.W.Frag) : V → Option Int → Option Int → Option Int → Hp → VK → Prop := fun x lo hi sp H Q => ∃ a xs, x = .ref a ∧ SqL K H a xs ∧ sp ≠ some 0 ∧ ∀ p, H p = none → Q (.ref p) (upd H p (.lst (pickG xs lo hi sp)))
theorem sl_list3 : SlR3 X (rSlL3 X.K) := by
  intro pins s σ H x v vl vu vs lo hi sp sl Q I rx hs pl pu ps h
  obtain ⟨a, xs, rfl, hx, h0, q⟩ := h
  cases rx
  obtain  ⟨its, r, ht, hz⟩ := I.list hx
  have hlen := r.length
  refine  ⟨"list", _, slot_list_getitem.lookup, ht.isList.typeIs, ?_⟩
  refine wpAny_getItem_list_slice ht.isList hs pl pu ps h0 ?_ (by rw [List.size_toArray] <;> omega)
  rw [pick_its]
  have rp := vals_pick r lo hi sp
  refine ⟨.ref s.heap.objs.size, _, I.laid (t' := s.toks) (o := .lst (pickG xs lo hi sp)) (fun b ob q => Heap.get?_push_of_some _ q) (Nat.le_refl _) ?_, rfl, q _ (I.hok.fresh (Nat.le_refl _))⟩
  exact ⟨by rw [rp.length]; exact Nat.le_trans (pick_len its lo hi sp) (by rw [← hlen]; exact hz), _, 0, rp, Heap.get?_push_size _ rfl⟩
/-! ### the mirror of it -/
def slM3 (d : D) (lo hi sp : Option Int) (st : Sto) : Option D := if sp = some 0 then none else (lsq st d).bind fun ds => (plains ds).map fun ts => .t (.lst (pickG ts lo hi sp))
def sliceM3 (f : Env → Sto → Res D) (fl fh fs : Env → Sto → Res (Option Int)) (env : Env) (st : Sto) : Res D := (f env st).bind fun d st1 => (fl env st1).bind fun lo st2 => (fh env st2).bind fun hi st3 => (fs env st3).bind fun sp st4 => optR (slM3 d lo hi sp st4) st4
theorem sl_any3 : SlR3 X (fun x lo hi sp H Q => ∃ W st d, Rl X.K W st H ∧ RelD X.K W H d x ∧ ∃ z, slM3 d lo hi sp st = some z ∧ OkD X.K W H Q z st) := by
  intro pins s σ H x v vl vu vs lo hi sp sl Q I rx hs pl pu ps ⟨W, st, d, R, r1, z, h, q⟩
  unfold slM3 at h
  by_cases h0 : sp = some 0
  · rw [if_pos h0] at h; cases h
  · rw [if_neg h0] at h
    cases e1 : lsq st d with
    | none => rw [e1] at h; cases h
    | some ds =>
      rw [e1] at h
      have h : (plains ds).map (fun ts => D.t (.lst (pickG ts lo hi sp))) = some z := h
      cases e2 : plains ds with
      | none => rw [e2] at h; cases h
      | some ts =>
        rw [e2] at h
        cases h
        obtain ⟨a, vs', rfl, nt, rr⟩ := lsq_rel R e1 r1
        exact sl_list3 pins s σ H _ v vl vu vs lo hi sp sl Q I rx hs pl pu ps ⟨a, vs', rfl, nt, h0, fun p hp => q (W.fix p) _ _ (Ext.fix W hp) (R.fix hp) ⟨p, _, rfl, .inr rfl, upd_same, (Ext.fix W hp).relTs R _ _ (relTs_pick (relTs_of e2 rr) lo hi sp)⟩⟩
theorem re_slice3 {fl fh fs : Env → Sto → Res (Option Int)} (he : RE X Wx e f) (hl : RO X Wx lo fl) (hh : RO X Wx hi fh) (hs : RO X Wx (some sp) fs) : RE X Wx (.Subscript e (.Slice lo hi (some sp) p2) pos) (sliceM3 f fl fh fs) := by
  refine PE.conv (pe_slice3 sl_any3 he hl hh hs) fun σ H Q ⟨W, env, st, R, Ev, h⟩ => ⟨W, env, st, R, Ev, split h (fun d st1 h1 W1 H1 v E1 R1 r1 => ?_) fun C fs st' hx => hx⟩
  refine ⟨W1, env, st1, R1, Ev.mono E1 R, split h1 (fun lo st2 h2 W2 H2 E2 R2 => ?_) fun C fs st' hx => hx.mono E1⟩
  refine ⟨W2, env, st2, R2, (Ev.mono E1 R).mono E2 R1, split h2 (fun hi st3 h3 W3 H3 E3 R3 => ?_) fun C fs st' hx => hx.mono (E1.trans E2)⟩
  refine ⟨W3, env, st3, R3, ((Ev.mono E1 R).mono E2 R1).mono E3 R2, split h3 (fun sp st4 h4 W4 H4 E4 R4 => ?_) fun C fs st' hx => hx.mono ((E1.trans E2).trans E3)⟩
  obtain ⟨z, e1, q⟩ := optR_holds h4
  exact ⟨W4, st4, d, R4, ((E2.trans E3).trans E4).relD R1 r1, z, e1, q.mono ((E1.trans E2).trans (E3.trans E4))⟩
end
end Mi
/-! Mv37 -/
namespace Mi
open L2 PySem PySem.Spec PyProof.Rows RZ
/-! ### a list times an int; slices of texts -/
def repL {α : Type} (k : Int) (xs : List α) : List α := (List.replicate k.toNat xs).flatten
def mulL (d e : D) (st : Sto) : Option D := match e with
  | .t (.int k) => (litems st d).bind fun ds => if -1000000 ≤ k ∧ k ≤ 1000000 ∧ ds.length * k.toNat ≤ LIM then (plains ds).map fun ts => .t (.lst (repL k ts)) else none
  | _ => none
def mulN (d e : D) (st : Sto) : Option (D × Sto) := match e with
  | .t (.int k) => (litems st d).bind fun ds => if -1000000 ≤ k ∧ k ≤ 1000000 ∧ ds.length * k.toNat ≤ LIM then some (.r st.length, st ++ [.lst (repL k ds)]) else none
  | _ => none
theorem relDs_rep {K : PySem.W.Frag} {W : Wd} {H : Hp} {ds : List D} {vs : List V} (h : RelDs K W H ds vs) : ∀ k : Nat, RelDs K W H (List.replicate k ds).flatten (List.replicate k vs).flatten
  | 0 => rfl
  | k + 1 => by
    (rw [List.replicate_succ, List.replicate_succ, List.flatten_cons, List.flatten_cons])
    exact relDs_append h (relDs_rep h k)
section
variable {X : Cx} {Wx : WX} {a b e : Expr} {f fa fb : Env → Sto → Res D} {pos p2 : Pos}
theorem o_mulL : OpR X (binaryOp .Mult) (rM X.K mulL) := op_of op_rep fun W st d e x y H Q z R r1 r2 h q => by
  unfold mulL at h
  split at h
  · rename_i k
    cases r2
    cases e1 : litems st d with
    | none => rw [e1] at h; cases h
    | some ds =>
      rw [e1] at h
      have h : (if -1000000 ≤ k ∧ k ≤ 1000000 ∧ ds.length * k.toNat ≤ LIM then (plains ds).map fun ts => D.t (.lst (repL k ts)) else none) = some z := h
      split at h
      · rename_i c
        cases e2 : plains ds with
        | none => rw [e2] at h; cases h
        | some ts =>
          rw [e2] at h
          cases h
          obtain ⟨p1, vs, rfl, q1, rr1⟩ := litems_rel R e1 r1
          have l1 := relDs_len rr1
          exact ⟨p1, k, vs, rfl, rfl, q1, by omega, by omega, lim_size (by rw [← show ds.length = vs.length by omega]; exact c.2.2), fun p hp => q (W.fix p) _ _ (Ext.fix W hp) (R.fix hp) ⟨p, _, rfl, .inr rfl, upd_same, (Ext.fix W hp).relTs R _ _ (relTs_rep (relTs_of e2 rr1) k.toNat)⟩⟩
      · cases h
  · cases h
def mulC (d e : D) (st : Sto) : Option D := match d with
  | .t (.lst _) => mulL d e st
  | .r _ => mulL d e st
  | _ => mulB d e st
theorem o_mulC : OpR X (binaryOp .Mult) (rM X.K mulC) := by
  have ho : OpR X (binaryOp .Mult) _ := OpR.or (o_mulL (X := X)) o_mulB
  (intro pins s σ H x y v u Q I r1 r2 h)
  refine ho pins s σ H x y v u Q I r1 r2 ?_
  obtain ⟨W, st, d, e, R, q1, q2, z, e1, q⟩ := h
  unfold mulC at e1
  split at e1
  · exact .inl ⟨W, st, _, e, R, q1, q2, z, e1, q⟩
  · exact .inl ⟨W, st, _, e, R, q1, q2, z, e1, q⟩
  · exact .inr ⟨W, st, _, e, R, q1, q2, z, e1, q⟩
theorem re_mulN (ha : RE X Wx a fa) (hb : RE X Wx b fb) : RE X Wx (.BinOp a .Mult b pos) (binN mulN fa fb) := by
  refine PE.conv (pe_op op_rep ha hb) fun σ H Q ⟨W, env, st, R, Ev, h⟩ => ?_
  refine ⟨W, env, st, R, Ev, split h (fun d1 st1 h1 W1 H1 v E1 R1 r1 => ⟨W1, env, st1, R1, Ev.mono E1 R, split h1 (fun d2 st2 h2 W2 H2 w E2 R2 r2 => ?_) fun C fs st' hx => hx.mono E1⟩) fun C fs st' hx => hx⟩
  obtain ⟨z, e0, q⟩ := optS_holds h2
  unfold mulN at e0
  split at e0
  · rename_i k
    cases r2
    cases e1 : litems st2 d1 with
    | none => rw [e1] at e0; cases e0
    | some ds =>
      rw [e1] at e0
      have e0 : (if -1000000 ≤ k ∧ k ≤ 1000000 ∧ ds.length * k.toNat ≤ LIM then some (D.r st2.length, st2 ++ [SO.lst (repL k ds)]) else none) = some z := e0
      split at e0
      · rename_i c
        cases e0
        obtain ⟨p1, vs, rfl, q1, rr1⟩ := litems_rel R2 e1 (E2.relD R1 r1)
        have l1 := relDs_len rr1
        refine ⟨p1, k, vs, rfl, rfl, q1, by omega, by omega, lim_size (by rw [← show ds.length = vs.length by omega]; exact c.2.2), fun p hp => ?_⟩
        exact q (W2.add p) _ _ (E1.trans (E2.trans (Ext.add W2 hp))) (R2.add hp (relDs_rep rr1 k.toNat)) ⟨p, by
          show (W2.ρ ++ [p])[st2.length]? = some p
          rw [← R2.len, List.getElem?_append_right (Nat.le_refl _), Nat.sub_self]; rfl, rfl⟩
      · cases e0
  · cases e0
/-- slices of texts too -/
def slX (d : D) (lo hi : Option Int) (st : Sto) : Option D := match d with
  | .t (.str z) => if z.length ≤ LIM then some (sD (Txt.slice z lo hi)) else none
  | d => slM d lo hi st
def sliceX (f : Env → Sto → Res D) (fl fh : Env → Sto → Res (Option Int)) (env : Env) (st : Sto) : Res D := (f env st).bind fun d st1 => (fl env st1).bind fun lo st2 => (fh env st2).bind fun hi st3 => optR (slX d lo hi st3) st3
theorem sl_txtX : SlR X (fun x lo hi H Q => ∃ W st d, Rl X.K W st H ∧ RelD X.K W H d x ∧ ∃ z, slX d lo hi st = some z ∧ OkD X.K W H Q z st) := by
  intro pins s σ H x v vl vu lo hi sl Q I rx hs pl pu ⟨W, st, d, R, r1, z, h, q⟩
  unfold slX at h
  split at h
  · rename_i t
    split at h
    · rename_i c
      cases h
      cases r1
      exact C8.sl_txt pins s σ H _ v vl vu lo hi sl Q I rx hs pl pu ⟨t, rfl, lim_size c, q W H _ .refl R rfl⟩
    · cases h
  · exact sl_any pins s σ H x v vl vu lo hi sl Q I rx hs pl pu ⟨W, st, _, R, r1, z, h, q⟩
theorem re_sliceX {lo hi : Option Expr} {fl fh : Env → Sto → Res (Option Int)} (he : RE X Wx e f) (hl : RO X Wx lo fl) (hh : RO X Wx hi fh) : RE X Wx (.Subscript e (.Slice lo hi none p2) pos) (sliceX f fl fh) := by
  refine PE.conv (pe_slice sl_txtX he hl hh) fun σ H Q ⟨W, env, st, R, Ev, h⟩ => ⟨W, env, st, R, Ev, split h (fun d st1 h1 W1 H1 v E1 R1 r1 => ?_) fun C fs st' hx => hx⟩
  refine ⟨W1, env, st1, R1, Ev.mono E1 R, split h1 (fun lo st2 h2 W2 H2 E2 R2 => ?_) fun C fs st' hx => hx.mono E1⟩
  refine ⟨W2, env, st2, R2, (Ev.mono E1 R).mono E2 R1, split h2 (fun hi st3 h3 W3 H3 E3 R3 => ?_) fun C fs st' hx => hx.mono (E1.trans E2)⟩
  obtain ⟨z, e1, q⟩ := optR_holds h3
  exact ⟨W3, st3, d, R3, (E2.trans E3).relD R1 r1, z, e1, q.mono (E1.trans (E2.trans E3))⟩
end
end Mi
/-! Ev -/
namespace Mi
open PySem PySem.Spec PyProof.Rows L2 RZ
/-! ### how mirrors are worked out -/
theorem Res.bind_ok {α β : Type} (a : α) (st : Sto) (k : α → Sto → Res β) : (Res.ok a st).bind k = k a st := rfl
theorem Res.out_ok {α : Type} (a : α) (st : Sto) (env : Env) (k : α → Sto → Out) : (Res.ok a st).out env k = k a st := rfl
theorem optR_ok {α : Type} (a : α) (st : Sto) : optR (some a) st = .ok a st := rfl
def lcL (ga : D → Env → Option Env) (gt : Env → Sto → Res Bool) (fe : Env → Sto → Res D) (env0 : Env) : List D → Sto → List D → Option (List D × Sto)
  | [], st, acc => some (acc, st)
  | d :: r, st, acc => match ga d env0 with
    | some env1 => match gt env1 st with
      | .ok true st1 => match fe env1 st1 with
        | .ok z st2 => if acc.length < LIM then lcL ga gt fe env0 r st2 (acc ++ [z]) else none
        | _ => none
      | .ok false st1 => lcL ga gt fe env0 r st1 acc
      | _ => none
    | none => none
theorem lcI_eq {ga : D → Env → Option Env} {gt : Env → Sto → Res Bool} {fe : Env → Sto → Res D} {env0 : Env} {it : ItM} {ds : List D} (h : ∀ st i, it.nth st i = some ds[i]?) :
    ∀ (m i : Nat) (st : Sto) (acc : List D), ds.length ≤ m + i → lcI ga gt fe it env0 m i st acc = lcL ga gt fe env0 (ds.drop i) st acc
  | 0, i, st, acc, hl => by
    have e : ds[i]? = none := List.getElem?_eq_none_iff.mpr (by omega)
    have e2 : ds.drop i = [] := List.drop_eq_nil_of_le (by omega)
    unfold lcI
    rw [h, e, e2]
    rfl
  | m + 1, i, st, acc, hl => by
    unfold lcI
    rw [h]
    by_cases hi : i < ds.length
    · rw [List.getElem?_eq_getElem hi, List.drop_eq_getElem_cons hi]
      have ih := lcI_eq (ga := ga) (gt := gt) (fe := fe) (env0 := env0) h m (i + 1)
      rw [lcL]
      dsimp only
      cases ga ds[i] env0 with
      | none => rfl
      | some env1 =>
        dsimp only
        cases gt env1 st with
        | bad => rfl
        | exc _ _ _ => rfl
        | ok b st1 =>
          cases b with
          | false => exact ih st1 acc (by omega)
          | true =>
            dsimp only
            cases fe env1 st1 with
            | bad => rfl
            | exc _ _ _ => rfl
            | ok z st2 =>
              dsimp only
              by_cases c : acc.length < LIM
              · rw [if_pos c, if_pos c]; exact ih st2 _ (by omega)
              · rw [if_neg c, if_neg c]
    · have e : ds[i]? = none := List.getElem?_eq_none_iff.mpr (by omega)
      have e2 : ds.drop i = [] := List.drop_eq_nil_of_le (by omega)
      rw [e, e2]
      rfl
theorem lcL_pure {ga : D → Env → Option Env} {gt : Env → Sto → Res Bool} {fe : Env → Sto → Res D} {env0 : Env} {st : Sto} {p : T → Bool} {g : T → T} :
    ∀ (ts : List T) (acc : List D), acc.length + ts.length ≤ LIM → (∀ t ∈ ts, ∃ env1, ga (.t t) env0 = some env1 ∧ gt env1 st = .ok (p t) st ∧ (p t = true → fe env1 st = .ok (.t (g t)) st)) →
      lcL ga gt fe env0 (ts.map .t) st acc = some (acc ++ ((ts.filter p).map g).map .t, st)
  | [], acc, _, _ => by simp [lcL]
  | t :: r, acc, hl, h => by
    obtain ⟨env1, h1, h2, h3⟩ := h t List.mem_cons_self
    have hr := fun acc h4 => lcL_pure r acc h4 fun x hx => h x (List.mem_cons_of_mem _ hx)
    rw [List.length_cons] at hl
    show (match ga (.t t) env0 with
      | some env1 => match gt env1 st with
        | .ok true st1 => match fe env1 st1 with
          | .ok z st2 => if acc.length < LIM then lcL ga gt fe env0 (r.map .t) st2 (acc ++ [z]) else none
          | _ => none
        | .ok false st1 => lcL ga gt fe env0 (r.map .t) st1 acc
        | _ => none
      | none => none) = _
    rw [h1]
    simp only
    rw [h2]
    cases hp : p t with
    | false =>
      simp only
      rw [hr acc (by omega), List.filter_cons, hp]
      rfl
    | true =>
      simp only
      rw [h3 hp]
      simp only
      rw [if_pos (by omega), hr _ (by rw [List.length_append, List.length_singleton]; omega), List.filter_cons, hp]
      simp
theorem lcM_T {us : List Nat} {fi : Env → Sto → Res ItM} {ga : D → Env → Option Env} {gt : Env → Sto → Res Bool} {fe : Env → Sto → Res D} {env : Env} {st s : Sto} {it : ItM} {ts : List T} {p : T → Bool} {g : T → T}
    (hi : fi env st = .ok it s) (hit : ∀ st i, it.nth st i = some (ts.map D.t)[i]?) (hm : it.most = ts.length) (hl : ts.length ≤ LIM)
    (h : ∀ t ∈ ts, ∃ env1, ga (.t t) (wipeE env us) = some env1 ∧ gt env1 s = .ok (p t) s ∧ (p t = true → fe env1 s = .ok (.t (g t)) s)) :
    lcM us fi ga gt fe env st = .ok (.t (.lst ((ts.filter p).map g))) s := by
  unfold lcM
  rw [hi, Res.bind_ok, lcI_eq hit _ _ _ _ (by rw [List.length_map, hm]; omega), List.drop_zero, lcL_pure ts [] (by rw [List.length_nil]; omega) h]
  simp only [List.nil_append, plains_map]
  rfl
/-- no test -/
theorem lcM_all {us : List Nat} {fi : Env → Sto → Res ItM} {ga : D → Env → Option Env} {fe : Env → Sto → Res D} {env : Env} {st s : Sto} {it : ItM} {ts : List T} {g : T → T}
    (hi : fi env st = .ok it s) (hit : ∀ st i, it.nth st i = some (ts.map D.t)[i]?) (hm : it.most = ts.length) (hl : ts.length ≤ LIM)
    (h : ∀ t ∈ ts, ∃ env1, ga (.t t) (wipeE env us) = some env1 ∧ fe env1 s = .ok (.t (g t)) s) :
    lcM us fi ga yesM fe env st = .ok (.t (.lst (ts.map g))) s := by
  have e := lcM_T (us := us) (ga := ga) (gt := yesM) (fe := fe) (p := fun _ => true) (g := g) hi hit hm hl fun t ht => by
    obtain ⟨e1, a, b⟩ := h t ht
    exact ⟨e1, a, rfl, fun _ => b⟩
  rw [e, List.filter_eq_self.mpr (fun _ _ => rfl)]
def forL (ga : D → Env → Option Env) (body : Env → Sto → Out) : List D → Env → Sto → Out
  | [], env, st => .nx env st
  | d :: r, env, st => match ga d env with
    | some env1 => match body env1 st with
      | .nx e s => forL ga body r e s
      | .ct e s => forL ga body r e s
      | .bk e s => .nx e s
      | .rt d s => .rt d s
      | .exc C fs e s => .exc C fs e s
      | .bad => .bad
    | none => .bad
theorem forI_eq {ga : D → Env → Option Env} {body : Env → Sto → Out} {it : ItM} {ds : List D} (h : ∀ st i, it.nth st i = some ds[i]?) :
    ∀ (m i : Nat) (env : Env) (st : Sto), ds.length ≤ m + i → forI ga body it m i env st = forL ga body (ds.drop i) env st
  | 0, i, env, st, hl => by
    have e : ds[i]? = none := List.getElem?_eq_none_iff.mpr (by omega)
    have e2 : ds.drop i = [] := List.drop_eq_nil_of_le (by omega)
    unfold forI
    rw [h, e, e2]
    rfl
  | m + 1, i, env, st, hl => by
    unfold forI
    rw [h]
    by_cases hi : i < ds.length
    · rw [List.getElem?_eq_getElem hi, List.drop_eq_getElem_cons hi]
      have ih := forI_eq (ga := ga) (body := body) h m (i + 1)
      rw [forL]
      dsimp only
      cases ga ds[i] env with
      | none => rfl
      | some env1 =>
        dsimp only
        cases body env1 st with
        | nx e s => exact ih e s (by omega)
        | ct e s => exact ih e s (by omega)
        | _ => rfl
    · have e : ds[i]? = none := List.getElem?_eq_none_iff.mpr (by omega)
      have e2 : ds.drop i = [] := List.drop_eq_nil_of_le (by omega)
      rw [e, e2]
      rfl
theorem forM_eq {fi : Env → Sto → Res ItM} {ga : D → Env → Option Env} {body : Env → Sto → Out} {env : Env} {st s : Sto} {it : ItM} {ds : List D} (hi : fi env st = .ok it s) (h : ∀ st i, it.nth st i = some ds[i]?) (hm : ds.length ≤ it.most) :
    forM' fi ga body env st = forL ga body ds env s := by
  unfold forM'
  rw [hi, Res.out_ok, forI_eq h _ _ _ _ (by omega), List.drop_zero]
/-- the walks -/
theorem nth_tup (ts : List T) (n : Nat) : ∀ st i, (seqIt (.t (.tup ts)) n).nth st i = some (ts.map D.t)[i]? := fun _ _ => rfl
theorem nth_lst (ts : List T) (n : Nat) : ∀ st i, (seqIt (.t (.lst ts)) n).nth st i = some (ts.map D.t)[i]? := fun _ _ => rfl
def chars (x : Str) : List T := x.cps.toList.map fun c => .str ⟨#[c]⟩
theorem nth_str (x : Str) : ∀ st i, (strIt x).nth st i = some ((chars x).map D.t)[i]? := fun st i => by
  unfold strIt chars
  rw [List.map_map, List.getElem?_map, Array.getElem?_toList]
  rfl
theorem any_tup {f : Env → Sto → Res D} {env : Env} {st s : Sto} {ts : List T} (h : f env st = .ok (.t (.tup ts)) s) : anyOf f env st = .ok (seqIt (.t (.tup ts)) ts.length) s := by unfold anyOf; rw [h]; rfl
theorem any_lst {f : Env → Sto → Res D} {env : Env} {st s : Sto} {ts : List T} (h : f env st = .ok (.t (.lst ts)) s) : anyOf f env st = .ok (seqIt (.t (.lst ts)) ts.length) s := by
  unfold anyOf; rw [h]
  show optR (some (seqIt _ (ts.map D.t).length)) s = _
  rw [List.length_map]
  rfl
theorem any_str {f : Env → Sto → Res D} {env : Env} {st s : Sto} {x : Str} (h : f env st = .ok (.t (.str x)) s) : anyOf f env st = .ok (strIt x) s := by unfold anyOf; rw [h]; rfl
/-- tests in a row -/
theorem exitP_rt (t : T) (s : Sto) : exitP (.rt (.t t) s) = .ok t := rfl
end Mi
/-! Tx -/
namespace Mi
open PySem PySem.Spec PyProof.Rows L2 RZ StrLaws Builtin.Str
/-! ### lists of codes, cut at a sign -/
def sp (c : Nat) : List Nat → List (List Nat)
  | [] => [[]]
  | x :: r => if x = c then [] :: sp c r else match sp c r with
    | [] => [[x]]
    | p :: ps => (x :: p) :: ps
theorem sp_ne (c : Nat) : ∀ l : List Nat, ∃ p ps, sp c l = p :: ps
  | [] => ⟨_, _, rfl⟩
  | x :: r => by
    unfold sp
    split
    · exact ⟨_, _, rfl⟩
    · obtain ⟨p, ps, e⟩ := sp_ne c r
      rw [e]
      exact ⟨_, _, rfl⟩
theorem sp_free {c : Nat} : ∀ {w : List Nat}, c ∉ w → sp c w = [w]
  | [], _ => rfl
  | x :: r, h => by
    have h1 : ¬ x = c := fun e => h (by rw [e]; exact List.mem_cons_self)
    have h2 := sp_free (w := r) fun e => h (List.mem_cons_of_mem _ e)
    unfold sp
    rw [if_neg h1, h2]
theorem sp_cut (c : Nat) : ∀ u r : List Nat, sp c (u ++ c :: r) = sp c u ++ sp c r
  | [], r => by
    show sp c (c :: r) = _
    simp [sp]
  | x :: u, r => by
    have ih := sp_cut c u r
    show sp c (x :: (u ++ c :: r)) = _
    obtain ⟨p, ps, e⟩ := sp_ne c u
    rw [sp, ih, sp, e]
    by_cases hx : x = c
    · rw [if_pos hx, if_pos hx]
      rfl
    · rw [if_neg hx, if_neg hx]
      rfl
theorem cat_l (a b : Str) : (a ++ b).cps.toList = a.cps.toList ++ b.cps.toList := by
  show (a.cps ++ b.cps).toList = _
  rw [Array.toList_append]
theorem sp_join (c : Nat) : ∀ ps : List Str, ps ≠ [] → (∀ p ∈ ps, c ∉ p.cps.toList) → sp c (Str.join ⟨#[c]⟩ ps).cps.toList = ps.map (·.cps.toList)
  | [], h, _ => absurd rfl h
  | [p], _, h => sp_free (h p List.mem_cons_self)
  | p :: q :: r, _, h => by
    show sp c (p ++ ⟨#[c]⟩ ++ Str.join ⟨#[c]⟩ (q :: r)).cps.toList = _
    rw [cat_l, cat_l, List.append_assoc]
    show sp c (p.cps.toList ++ c :: (Str.join ⟨#[c]⟩ (q :: r)).cps.toList) = _
    rw [sp_cut, sp_free (h p List.mem_cons_self), sp_join c (q :: r) (by simp) fun z hz => h z (List.mem_cons_of_mem _ hz)]
    rfl
theorem split_ne (x y : Str) : Txt.split x y ≠ [] := by
  unfold Txt.split
  split
  · simp
  · split
    · simp
    · intro e
      have l := length_partsBetween x (Builtin.Str.occurrences x y 0 x.length (x.length + 1)) y.length
      rw [e] at l
      simp at l
theorem split_sp (x : Str) (c : Nat) : (Txt.split x ⟨#[c]⟩).map (·.cps.toList) = sp c x.cps.toList := by
  rw [← sp_join c _ (split_ne x _) (split_free x c), join_split]
/-! ### words that stand between two quotes -/
inductive Hw (w : List Nat) : List Nat → Nat → Prop where
  | z (l : List Nat) : Hw w l 0
  | s (u r : List Nat) (k : Nat) (h : Hw w r k) : Hw w (u ++ 39 :: (w ++ 39 :: r)) (k + 1)
theorem Hw.pre {w : List Nat} (a : List Nat) {b : List Nat} {m : Nat} (h : Hw w b m) : Hw w (a ++ b) m := by
  cases h with
  | z => exact .z _
  | s u r k h =>
    rw [← List.append_assoc]
    exact .s _ _ _ h
theorem Hw.app {w : List Nat} {a b : List Nat} {k m : Nat} (h : Hw w a k) (g : Hw w b m) : Hw w (a ++ b) (k + m) := by
  induction h with
  | z l => rw [Nat.zero_add]; exact g.pre l
  | s u r k h ih =>
    have e : (u ++ 39 :: (w ++ 39 :: r)) ++ b = u ++ 39 :: (w ++ 39 :: (r ++ b)) := by simp
    rw [e, show k + 1 + m = (k + m) + 1 by omega]
    exact .s _ _ _ ih
theorem Hw.count {w : List Nat} (hw : 39 ∉ w) {l : List Nat} {k : Nat} (h : Hw w l k) : k ≤ (sp 39 l).countP (fun p => decide (p = w)) := by
  induction h with
  | z l => exact Nat.zero_le _
  | s u r k h ih =>
    rw [sp_cut, sp_cut, sp_free hw, List.countP_append, List.countP_append, List.countP_cons, List.countP_nil, decide_eq_true rfl, if_pos rfl]
    omega
theorem Hw.le {w l : List Nat} {k m : Nat} (h : Hw w l k) (e : m = k) : Hw w l m := e ▸ h
/-! ### brackets before a quote -/
inductive Hq : List Nat → Nat → Prop where
  | z (l : List Nat) : Hq l 0
  | s (u r : List Nat) (k : Nat) (h : Hq r k) : Hq (u ++ 40 :: 39 :: r) (k + 1)
theorem Hq.pre (a : List Nat) {b : List Nat} {m : Nat} (h : Hq b m) : Hq (a ++ b) m := by
  cases h with
  | z => exact .z _
  | s u r k h =>
    rw [← List.append_assoc]
    exact .s _ _ _ h
theorem Hq.app {a b : List Nat} {k m : Nat} (h : Hq a k) (g : Hq b m) : Hq (a ++ b) (k + m) := by
  induction h with
  | z l => rw [Nat.zero_add]; exact g.pre l
  | s u r k h ih =>
    have e : (u ++ 40 :: 39 :: r) ++ b = u ++ 40 :: 39 :: (r ++ b) := by simp
    rw [e, show k + 1 + m = (k + m) + 1 by omega]
    exact .s _ _ _ ih
def cq : List Nat → Nat
  | [] => 0
  | x :: r => (if x = 40 ∧ r.head? = some 39 then 1 else 0) + cq r
theorem cq_pre : ∀ u r : List Nat, cq r ≤ cq (u ++ r)
  | [], r => Nat.le_refl _
  | x :: u, r => by
    have := cq_pre u r
    show _ ≤ (if x = 40 ∧ (u ++ r).head? = some 39 then 1 else 0) + cq (u ++ r)
    omega
theorem Hq.count {l : List Nat} {k : Nat} (h : Hq l k) : k ≤ cq l := by
  induction h with
  | z l => exact Nat.zero_le _
  | s u r k h ih =>
    refine Nat.le_trans ?_ (cq_pre u _)
    show k + 1 ≤ (if (40 : Nat) = 40 ∧ (39 :: r).head? = some 39 then 1 else 0) + ((if (39 : Nat) = 40 ∧ r.head? = some 39 then 1 else 0) + cq r)
    rw [if_pos ⟨rfl, rfl⟩]
    omega
def yq : Str := ⟨#[40, 39]⟩
theorem at_q (x : Str) (k : Nat) : At x yq x.length k ↔ x.cps.toList[k]? = some 40 ∧ x.cps.toList[k + 1]? = some 39 := by
  unfold At
  rw [subAt_eq]
  have hl : x.cps.toList.length = x.length := by simp [Str.length]
  show k + 2 ≤ x.length ∧ ((x.cps.toList.drop k).take 2 == [40, 39]) = true ↔ _
  generalize x.cps.toList = L at hl
  rw [beq_iff_eq]
  constructor
  · rintro ⟨h1, h2⟩
    have e : ∀ i, i < 2 → L[k + i]? = ([40, 39] : List Nat)[i]? := fun i hi => by
      rw [← h2, List.getElem?_take_of_lt hi, List.getElem?_drop]
    exact ⟨e 0 (by decide), e 1 (by decide)⟩
  · rintro ⟨h1, h2⟩
    have l2 := (List.getElem?_eq_some_iff.mp h2).1
    refine ⟨by omega, List.ext_getElem? fun i => ?_⟩
    match i with
    | 0 => rw [List.getElem?_take_of_lt (by decide), List.getElem?_drop]; exact h1
    | 1 => rw [List.getElem?_take_of_lt (by decide), List.getElem?_drop]; exact h2
    | i + 2 => rw [List.getElem?_eq_none (by rw [List.length_take]; omega)]; rfl
theorem cq_no {L : List Nat} {a : Nat} (h : ¬ (L[a]? = some 40 ∧ L[a + 1]? = some 39)) : cq (L.drop a) = cq (L.drop (a + 1)) := by
  by_cases hl : a < L.length
  · rw [List.drop_eq_getElem_cons hl]
    show (if L[a] = 40 ∧ (L.drop (a + 1)).head? = some 39 then 1 else 0) + cq (L.drop (a + 1)) = _
    rw [if_neg, Nat.zero_add]
    rintro ⟨h1, h2⟩
    refine h ⟨by rw [List.getElem?_eq_getElem hl, h1], ?_⟩
    rw [List.head?_drop] at h2
    exact h2
  · rw [List.drop_eq_nil_of_le (by omega), List.drop_eq_nil_of_le (by omega)]
theorem cq_skip {x : Str} {a : Nat} : ∀ (n : Nat), (∀ k, a ≤ k → k < a + n → ¬ At x yq x.length k) → cq (x.cps.toList.drop a) = cq (x.cps.toList.drop (a + n))
  | 0, _ => rfl
  | n + 1, h => by
    rw [cq_skip n fun k h1 h2 => h k h1 (by omega)]
    exact cq_no (a := a + n) (fun z => h (a + n) (by omega) (by omega) ((at_q x _).mpr z))
theorem cq_at {x : Str} {c : Nat} (h : At x yq x.length c) : cq (x.cps.toList.drop c) = 1 + cq (x.cps.toList.drop (c + 2)) := by
  obtain ⟨h1, h2⟩ := (at_q x c).mp h
  obtain ⟨l1, e1⟩ := List.getElem?_eq_some_iff.mp h1
  rw [List.drop_eq_getElem_cons l1]
  show (if x.cps.toList[c] = 40 ∧ (x.cps.toList.drop (c + 1)).head? = some 39 then 1 else 0) + cq (x.cps.toList.drop (c + 1)) = _
  rw [if_pos ⟨e1, by rw [List.head?_drop]; exact h2⟩, cq_no (a := c + 1)]
  rintro ⟨z, _⟩
  rw [h2] at z
  cases z
theorem cq_none {x : Str} {a : Nat} (h : ∀ k, a ≤ k → ¬ At x yq x.length k) : cq (x.cps.toList.drop a) = 0 := by
  rw [cq_skip (a := a) x.length fun k h1 _ => h k h1, List.drop_eq_nil_of_le (by simp [Str.length])]
  rfl
theorem cq_chain {x : Str} : ∀ (cuts : List Nat) (a f : Nat), ChainG x yq x.length a cuts f → (∀ k, f ≤ k → ¬ At x yq x.length k) → cq (x.cps.toList.drop a) ≤ cuts.length
  | [], a, f, h, hn => by
    have e : f = a := h
    subst e
    rw [cq_none hn]
    exact Nat.le_refl _
  | c :: r, a, f, h, hn => by
    have e := cq_skip (x := x) (a := a) (c - a) fun k h1 h2 => h.2.2.1 k h1 (by have := h.1; omega)
    rw [show a + (c - a) = c by have := h.1; omega] at e
    rw [e, cq_at h.2.1, List.length_cons]
    have := cq_chain r _ f h.2.2.2 hn
    have l : yq.length = 2 := rfl
    rw [l] at this
    omega
theorem split_q {x : Str} {k : Nat} (h : Hq x.cps.toList k) : k + 1 ≤ (Txt.split x yq).length := by
  obtain ⟨f, hG, hn⟩ := occ_tight x yq (by decide)
  have b := cq_chain _ 0 f hG hn
  rw [List.drop_zero] at b
  have c := h.count
  unfold Txt.split
  split
  · rename_i hc
    (rw [Bool.or_eq_true, decide_eq_true_eq, decide_eq_true_eq] at hc)
    have hx : x.length < 2 := by
      rcases hc with h | h
      · exact h
      · exfalso
        have e : Builtin.Str.strKind yq = 1 := by decide +kernel
        rw [e] at h
        unfold Builtin.Str.strKind at h
        split at h
        · omega
        · split at h <;> omega
    cases e : Builtin.Str.occurrences x yq 0 x.length (x.length + 1) with
    | nil =>
      rw [e] at b
      show k + 1 ≤ 1
      simp at b
      omega
    | cons a r =>
      rw [e] at hG
      have := hG.2.1.1
      have l : yq.length = 2 := rfl
      omega
  · split
    · rename_i he
      rw [List.isEmpty_iff.mp he] at b
      show k + 1 ≤ 1
      simp at b
      omega
    · rw [length_partsBetween]
      omega
end Mi
/-! Tq -/
namespace Mi
open PySem PySem.Spec PyProof.Rows L2 RZ StrLaws
/-! ### trees of tuples, small numbers and words, and how they are shown -/
def okS (w : Str) : Bool := decide ((reprText w).cps.toList = 39 :: (w.cps.toList ++ [39])) && (w.cps.toList.all fun c => decide (c < 128) && !decide (c = 39))
mutual
def tq : Nat → T → Bool
  | _, .int i => decide (0 ≤ i) && decide (i < 100)
  | _, .str x => okS x
  | n + 1, .tup ts => tqs n ts
  | _, _ => false
def tqs : Nat → List T → Bool
  | _, [] => true
  | n, t :: r => tq n t && tqs n r
end
mutual
def wt : T → Nat
  | .str x => x.cps.size
  | .int _ => 7
  | .tup ts => wts ts
  | _ => 0
def wts : List T → Nat
  | [] => 0
  | t :: r => wt t + 1 + wts r
end
def hd1 : List T → Nat
  | .str _ :: _ => 1
  | _ => 0
def hdW (w : Str) : List T → Nat
  | .str u :: _ => if u = w then 1 else 0
  | _ => 0
mutual
/-- how many tuples begin with a word; with this word -/
def nS : T → Nat
  | .tup ts => hd1 ts + nSs ts
  | _ => 0
def nSs : List T → Nat
  | [] => 0
  | t :: r => nS t + nSs r
end
mutual
def nW (w : Str) : T → Nat
  | .tup ts => hdW w ts + nWs w ts
  | _ => 0
def nWs (w : Str) : List T → Nat
  | [] => 0
  | t :: r => nW w t + nWs w r
end
def cl (x : Str) : List Nat := x.cps.toList
theorem tqs_mem : ∀ {n : Nat} {ts : List T}, tqs n ts = true → ∀ t ∈ ts, tq n t = true
  | n, t :: r, h, x, hx => by
    unfold tqs at h
    rw [Bool.and_eq_true] at h
    rcases List.mem_cons.mp hx with e | e
    · rw [e]; exact h.1
    · exact tqs_mem h.2 x e
theorem tqs_of : ∀ {n : Nat} {ts : List T}, (∀ t ∈ ts, tq n t = true) → tqs n ts = true
  | n, [], _ => by unfold tqs; rfl
  | n, t :: r, h => by
    unfold tqs
    rw [h t List.mem_cons_self, tqs_of fun x hx => h x (List.mem_cons_of_mem _ hx)]
    rfl
theorem int_len : ∀ i : Fin 100, (PyData.shown (.int (i : Nat))).length ≤ 8 ∧ PyData.showable (.int (i : Nat)) = true ∧ PyData.weight (.int (i : Nat)) ≤ 7 := by decide +kernel
/-- what is known of a shown tree -/
structure TF (n : Nat) (t : T) (p : PyData) : Prop where
  py : pyT t = some p
  sh : p.showable = true
  nd : p.hasDict = false
  dp : p.depth ≤ n
  lf : p.leavesShort 8 = true
  w : p.weight ≤ wt t
  q : Hq (cl p.shown) (nS t)
  qw : ∀ w : Str, Hw (cl w) (cl p.shown) (nW w t)
  hs : ∀ u, t = .str u → cl p.shown = 39 :: (cl u ++ [39])
structure TFs (n : Nat) (ts : List T) (ps : List PyData) : Prop where
  py : pyTs ts = some ps
  sh : PyData.showableAll ps = true
  nd : PyData.hasDictAll ps = false
  dp : PyData.depthAll ps ≤ n
  lf : PyData.leavesShortAll 8 ps = true
  w : PyData.weightAll ps ≤ wts ts
  q : Hq (cl (Str.join ", " (PyData.shownAll ps))) (nSs ts)
  qw : ∀ w : Str, Hw (cl w) (cl (Str.join ", " (PyData.shownAll ps))) (nWs w ts)
  hs : ∀ u r, ts = .str u :: r → ∃ z, cl (Str.join ", " (PyData.shownAll ps)) = 39 :: (cl u ++ 39 :: z) ∧ Hq z (nSs r) ∧ ∀ w : Str, Hw (cl w) z (nWs w r)
theorem clcat (a b : Str) : cl (a ++ b) = cl a ++ cl b := cat_l a b
theorem tq_int {i : Int} {n : Nat} (h : tq n (.int i) = true) : ∃ k : Fin 100, i = ((k : Nat) : Int) := by
  unfold tq at h
  (rw [Bool.and_eq_true, decide_eq_true_eq, decide_eq_true_eq] at h)
  exact ⟨⟨i.toNat, by omega⟩, by show i = ((i.toNat : Nat) : Int); omega⟩
mutual
theorem tq_py : ∀ (n : Nat) (t : T), tq n t = true → ∃ p, TF n t p
  | n, .int i, h => by
    obtain ⟨k, rfl⟩ := tq_int h
    obtain ⟨h1, h2, h3⟩ := int_len k
    refine ⟨.int ((k : Nat) : Int), rfl, h2, by simp only [PyData.hasDict], Nat.zero_le _, ?_, h3, .z _, fun _ => .z _, fun u e => by cases e⟩
    simp only [PyData.leavesShort, decide_eq_true_eq]
    exact h1
  | n, .str x, h => by
    unfold tq okS at h
    (rw [Bool.and_eq_true, decide_eq_true_eq] at h)
    obtain ⟨h1, h2⟩ := h
    refine ⟨.str x, rfl, by simp only [PyData.showable], by simp only [PyData.hasDict], Nat.zero_le _, ?_, ?_, .z _, fun _ => .z _, fun u e => ?_⟩
    · simp only [PyData.leavesShort]
      rw [List.all_eq_true] at h2 ⊢
      intro c hc
      have := h2 c hc
      rw [Bool.and_eq_true, decide_eq_true_eq] at this
      exact (decide_eq_true (by omega))
    · simp only [PyData.weight]
      exact Nat.le_refl _
    · cases e
      show (PyData.shown (.str x)).cps.toList = _
      simp only [PyData.shown]
      exact h1
  | n + 1, .tup ts, h => by
    unfold tq at h
    obtain ⟨ps, F⟩ := tqs_py n ts h
    have sh : cl (PyData.shown (.tuple ps)) = 40 :: (cl (Str.join ", " (PyData.shownAll ps)) ++ cl (if (PyData.shownAll ps).length == 1 then ",)" else ")" : String)) := by
      simp only [PyData.shown, tupleText, clcat]
      rfl
    refine ⟨.tuple ps, ?_, ?_, ?_, ?_, ?_, ?_, ?_, fun w => ?_, fun u e => by cases e⟩
    · show (pyTs ts).map PyData.tuple = _
      rw [F.py]; rfl
    · simp only [PyData.showable]; exact F.sh
    · simp only [PyData.hasDict]; exact F.nd
    · exact Nat.succ_le_succ F.dp
    · simp only [PyData.leavesShort]; exact F.lf
    · simp only [PyData.weight]; exact F.w
    · rw [sh]
      generalize cl (if (PyData.shownAll ps).length == 1 then ",)" else ")" : String) = tl
      have g : Hq (40 :: (cl (Str.join ", " (PyData.shownAll ps)) ++ tl)) (nSs ts) := (F.q.app (.z tl)).pre [40]
      cases ts with
      | nil => exact g
      | cons a r =>
        cases a with
        | str u =>
          obtain ⟨z, e, hq, _⟩ := F.hs u r rfl
          rw [e]
          have e2 : 40 :: (39 :: (cl u ++ 39 :: z) ++ tl) = [] ++ 40 :: 39 :: ((cl u ++ [39]) ++ (z ++ tl)) := by simp
          rw [e2]
          show Hq _ (1 + (0 + nSs r))
          rw [Nat.zero_add, Nat.add_comm]
          exact .s _ _ _ (Hq.pre _ (hq.app (.z tl)))
        | _ => exact (by show Hq _ (0 + _); rw [Nat.zero_add]; exact g)
    · rw [sh]
      generalize cl (if (PyData.shownAll ps).length == 1 then ",)" else ")" : String) = tl
      have g : Hw (cl w) (40 :: (cl (Str.join ", " (PyData.shownAll ps)) ++ tl)) (nWs w ts) := ((F.qw w).app (.z tl)).pre [40]
      cases ts with
      | nil => exact g
      | cons a r =>
        cases a with
        | str u =>
          by_cases hu : u = w
          · subst hu
            obtain ⟨z, e, _, hw⟩ := F.hs u r rfl
            rw [e]
            have e2 : 40 :: (39 :: (cl u ++ 39 :: z) ++ tl) = [40] ++ 39 :: (cl u ++ 39 :: (z ++ tl)) := by simp
            rw [e2]
            show Hw _ _ ((if u = u then 1 else 0) + (0 + nWs u r))
            rw [if_pos rfl, Nat.zero_add, Nat.add_comm]
            exact .s _ _ _ ((hw u).app (.z tl))
          · show Hw _ _ ((if u = w then 1 else 0) + _)
            rw [if_neg hu, Nat.zero_add]
            exact g
        | _ => exact (by show Hw _ _ (0 + _); rw [Nat.zero_add]; exact g)
  | 0, .tup ts, h => by simp [tq] at h
  | n, .non, h => by cases n <;> simp [tq] at h
  | n, .bl _, h => by cases n <;> simp [tq] at h
  | n, .lst _, h => by cases n <;> simp [tq] at h
  | n, .scr _, h => by cases n <;> simp [tq] at h
  | n, .glb _, h => by cases n <;> simp [tq] at h
  | n, .ty _, h => by cases n <;> simp [tq] at h
theorem tqs_py : ∀ (n : Nat) (ts : List T), tqs n ts = true → ∃ ps, TFs n ts ps
  | n, [], _ => ⟨[], rfl, by simp only [PyData.showableAll], by simp only [PyData.hasDictAll], Nat.zero_le _, by simp only [PyData.leavesShortAll], by simp only [PyData.weightAll]; exact Nat.zero_le _, .z _, fun _ => .z _, fun u r e => by cases e⟩
  | n, t :: r, h => by
    unfold tqs at h
    rw [Bool.and_eq_true] at h
    obtain ⟨p, F⟩ := tq_py n t h.1
    obtain ⟨ps, G⟩ := tqs_py n r h.2
    have jn : ∃ s, cl (Str.join ", " (PyData.shownAll (p :: ps))) = cl p.shown ++ (s ++ (if ps.length = 0 then [] else cl (Str.join ", " (PyData.shownAll ps)))) ∧ (ps.length = 0 → r = []) := by
      cases ps with
      | nil =>
        refine ⟨[], ?_, fun _ => ?_⟩
        · simp only [PyData.shownAll, Str.join, List.length_nil, if_true, List.append_nil]
        · cases r with
          | nil => rfl
          | cons a b =>
            exfalso
            have e := G.py
            simp only [pyTs] at e
            cases q : pyT a with
            | none => (rw [q] at e; cases e)
            | some x =>
              rw [q] at e
              cases q2 : pyTs b with
              | none => rw [q2] at e; cases e
              | some y => rw [q2] at e; cases e
      | cons a b =>
        refine ⟨cl ", ", ?_, fun e => by simp at e⟩
        simp only [PyData.shownAll, Str.join, List.length_cons]
        rw [clcat, clcat, List.append_assoc]
        rfl
    obtain ⟨s, ej, hnil⟩ := jn
    have gq : Hq (s ++ (if ps.length = 0 then [] else cl (Str.join ", " (PyData.shownAll ps)))) (nSs r) := by
      by_cases c : ps.length = 0
      · rw [hnil c]; exact .z _
      · rw [if_neg c]; exact G.q.pre s
    have gw : ∀ w : Str, Hw (cl w) (s ++ (if ps.length = 0 then [] else cl (Str.join ", " (PyData.shownAll ps)))) (nWs w r) := fun w => by
      by_cases c : ps.length = 0
      · rw [hnil c]; exact .z _
      · rw [if_neg c]; exact (G.qw w).pre s
    refine ⟨p :: ps, ?_, ?_, ?_, ?_, ?_, ?_, ?_, fun w => ?_, fun u r' e => ?_⟩
    · show (pyT t).bind (fun p => (pyTs r).map (p :: ·)) = _
      rw [F.py, G.py]; rfl
    · simp only [PyData.showableAll, F.sh, G.sh, Bool.and_self]
    · simp only [PyData.hasDictAll, F.nd, G.nd, Bool.or_self]
    · simp only [PyData.depthAll]
      exact Nat.max_le.mpr ⟨F.dp, G.dp⟩
    · simp only [PyData.leavesShortAll, F.lf, G.lf, Bool.and_self]
    · simp only [PyData.weightAll, wts]
      have := F.w
      have := G.w
      omega
    · rw [ej]
      exact F.q.app gq
    · rw [ej]
      exact (F.qw w).app (gw w)
    · cases e
      rw [ej, F.hs u rfl]
      exact ⟨_, by simp, gq, gw⟩
end
theorem str_tree {n : Nat} {ts : List T} (h : tq n (.tup ts) = true) (hn : n ≤ 60) (hw : 10 * wts ts + 8 ≤ LIM) (st : Sto) :
    ∃ s : Str, strB [.t (.tup ts)] st = some (.t (.str s)) ∧ s.length ≤ 10 * wts ts + 8 ∧ Hq (cl s) (nS (.tup ts)) ∧ ∀ w : Str, Hw (cl w) (cl s) (nW w (.tup ts)) := by
  obtain ⟨p, F⟩ := tq_py n _ h
  have l := PyData.shown_le 8 (Nat.le_refl _) p F.lf
  have w := F.w
  have w2 : p.weight ≤ wts ts := by unfold wt at w; exact w
  have hl : p.shown.length ≤ 10 * wts ts + 8 := by omega
  refine ⟨p.shown, ?_, hl, F.q, F.qw⟩
  show (pyT (.tup ts)).bind showB = _
  rw [F.py]
  show (if p.showable = true ∧ p.hasDict = false ∧ p.depth ≤ 60 ∧ p.shown.length ≤ LIM then some (sD p.shown) else none) = _
  rw [if_pos ⟨F.sh, F.nd, Nat.le_trans F.dp hn, Nat.le_trans hl hw⟩]
  rfl
/-- the words of a shown tree -/
theorem words_len {s : Str} {k : Nat} (h : Hq (cl s) k) : k + 1 ≤ (Txt.split s "('").length := by
  have e : (Str.ofString "('") = yq := by decide +kernel
  rw [e]
  exact split_q h
theorem words_cnt {s w : Str} {k : Nat} (hw : 39 ∉ cl w) (h : Hw (cl w) (cl s) k) : k ≤ (Txt.split s "'").countP (fun p => decide (p = w)) := by
  have e : (Str.ofString "'") = ⟨#[39]⟩ := by decide +kernel
  rw [e]
  have c := h.count hw
  unfold cl at c
  rw [← split_sp, List.countP_map] at c
  refine Nat.le_trans c (Nat.le_of_eq ?_)
  congr 1
  funext p
  show decide (p.cps.toList = w.cps.toList) = decide (p = w)
  by_cases q : p = w
  · rw [decide_eq_true q, q, decide_eq_true rfl]
  · rw [decide_eq_false q, decide_eq_false]
    intro z
    exact q (by
      cases p; cases w
      simp only [Str.mk.injEq]
      exact Array.toList_inj.mp z)
end Mi
/-! Okc -/
namespace Mi
open PySem PySem.Spec PyProof.Rows L2 RZ
/-! ### what is known of a result -/
def Res.Is {α : Type} (r : Res α) (A : α → Sto → Prop) : Prop := match r with
  | .ok a s => A a s
  | _ => False
def Out.Is (o : Out) (N : Env → Sto → Prop) (B : D → Sto → Prop) : Prop := match o with
  | .nx e s => N e s
  | .rt d s => B d s
  | _ => False
theorem Res.Is.imp {α : Type} {r : Res α} {A B : α → Sto → Prop} (h : r.Is A) (f : ∀ a s, A a s → B a s) : r.Is B := by
  cases r with
  | ok a s => exact f a s h
  | exc C fs s => exact h
  | bad => exact h
theorem Res.Is.get {α : Type} {r : Res α} {A : α → Sto → Prop} (h : r.Is A) : ∃ a s, r = .ok a s ∧ A a s := by
  cases r with
  | ok a s => exact ⟨a, s, rfl, h⟩
  | exc C fs s => exact h.elim
  | bad => exact h.elim
theorem Res.is_of {α : Type} {r : Res α} {A : α → Sto → Prop} {a : α} {s : Sto} (e : r = .ok a s) (h : A a s) : r.Is A := by
  rw [e]; exact h
theorem Out.Is.imp {o : Out} {N N' : Env → Sto → Prop} {B B' : D → Sto → Prop} (h : o.Is N B) (f : ∀ e s, N e s → N' e s) (g : ∀ d s, B d s → B' d s) : o.Is N' B' := by
  cases o with
  | nx e s => exact f e s h
  | rt d s => exact g d s h
  | _ => exact h
theorem Out.is_of {o o' : Out} {N : Env → Sto → Prop} {B : D → Sto → Prop} (e : o = o') (h : o'.Is N B) : o.Is N B := by
  rw [e]; exact h
section
variable {env : Env} {st : Sto} {fa fb f : Env → Sto → Res D} {fs : List (Env → Sto → Res D)} {B : D → Sto → Prop} {N : Env → Sto → Prop}
theorem is_bind {α β : Type} {r : Res α} {k : α → Sto → Res β} {B : β → Sto → Prop} (h : r.Is fun a s => (k a s).Is B) : (r.bind k).Is B := by
  cases r with
  | ok a s => exact h
  | exc C fs s => exact h
  | bad => exact h
theorem is_out {α : Type} {r : Res α} {k : α → Sto → Out} (h : r.Is fun a s => (k a s).Is N B) : (r.out env k).Is N B := by
  cases r with
  | ok a s => exact h
  | exc C fs s => exact h
  | bad => exact h
theorem is_opt {α : Type} {o : Option α} {A : α → Sto → Prop} (h : ∃ z, o = some z ∧ A z st) : (optR o st).Is A := by
  obtain ⟨z, e, q⟩ := h
  rw [e]; exact q
theorem is_optS {o : Option (D × Sto)} (h : ∃ z, o = some z ∧ B z.1 z.2) : (optS o).Is B := by
  obtain ⟨z, e, q⟩ := h
  rw [e]; exact q
theorem is_bin {g : D → D → Sto → Option D} (h : (fa env st).Is fun x s => (fb env s).Is fun y s2 => ∃ z, g x y s2 = some z ∧ B z s2) : (Mi.bin g fa fb env st).Is B :=
  is_bind (h.imp fun _ _ h => is_bind (h.imp fun _ _ h => is_opt h))
theorem is_un {g : D → Sto → Option D} (h : (fa env st).Is fun x s => ∃ z, g x s = some z ∧ B z s) : (Mi.un g fa env st).Is B :=
  is_bind (h.imp fun _ _ h => is_opt h)
theorem is_var {i : Nat} {d : D} (e : env[i]? = some (some d)) (h : B d st) : (eVar i env st).Is B := by
  unfold eVar; rw [e]; exact h
theorem is_C {t : T} (h : B (.t t) st) : (eC t env st).Is B := h
theorem is_nil {A : List D → Sto → Prop} (h : A [] st) : (argsM [] env st).Is A := h
theorem is_cons {A : List D → Sto → Prop} (h : (f env st).Is fun d s => (argsM fs env s).Is fun ds s2 => A (d :: ds) s2) : (argsM (f :: fs) env st).Is A :=
  is_bind (h.imp fun _ _ h => is_bind h)
theorem is_tup (h : (argsM fs env st).Is fun ds s => ∃ ts, plains ds = some ts ∧ B (.t (.tup ts)) s) : (tupM fs env st).Is B :=
  is_bind (h.imp fun _ _ ⟨ts, e, q⟩ => is_opt ⟨_, by rw [e]; rfl, q⟩)
theorem is_lst (h : (argsM fs env st).Is fun ds s => ∃ ts, plains ds = some ts ∧ B (.t (.lst ts)) s) : (lstM fs env st).Is B :=
  is_bind (h.imp fun _ _ ⟨ts, e, q⟩ => is_opt ⟨_, by rw [e]; rfl, q⟩)
theorem is_callB {g : List D → Sto → Option D} (h : (argsM fs env st).Is fun ds s => ∃ z, g ds s = some z ∧ B z s) : (callB g fs env st).Is B :=
  is_bind (h.imp fun _ _ h => is_opt h)
theorem is_callG {F : List D → Sto → Res D} (h : (argsM fs env st).Is fun ds s => (F ds s).Is B) : (callG F fs env st).Is B := is_bind h
theorem is_callP {F : List T → Rp} (h : (argsM fs env st).Is fun ds s => ∃ ts t, plains ds = some ts ∧ F ts = .ok t ∧ B (.t t) s) : (callP F fs env st).Is B :=
  is_bind (h.imp fun _ _ ⟨ts, t, e1, e2, q⟩ => by rw [e1]; dsimp only; rw [e2]; exact q)
theorem is_meth {n : String} {g : D → List D → Sto → Option (D × Sto)} (h : (fa env st).Is fun d s => tyOk n s d = true ∧ (argsM fs env s).Is fun ds s2 => ∃ z, g d ds s2 = some z ∧ B z.1 z.2) : (methM n g fa fs env st).Is B :=
  is_bind (h.imp fun _ _ ⟨e, h⟩ => by rw [if_pos e]; exact is_bind (h.imp fun _ _ h => is_optS h))
theorem is_bl {r : Res D} {A : Bool → Sto → Prop} (h : r.Is fun d s => ∃ b, d = .t (.bl b) ∧ A b s) : (blOf r).Is A :=
  is_bind (h.imp fun _ _ ⟨b, e, q⟩ => by rw [e]; exact q)
theorem is_tru {A : Bool → Sto → Prop} (h : (fa env st).Is fun d s => ∃ b, tru s d = some b ∧ A b s) : (truM fa env st).Is A :=
  is_bind (h.imp fun _ _ h => is_opt h)
theorem is_and {ga gb : Env → Sto → Res Bool} {A : Bool → Sto → Prop} (h : (ga env st).Is fun k s => if k = true then (gb env s).Is A else A false s) : (andM ga gb env st).Is A :=
  is_bind (h.imp fun k _ h => by
    cases k with
    | true => rw [if_pos rfl] at h ⊢; exact h
    | false => exact h)
theorem is_or {ga gb : Env → Sto → Res Bool} {A : Bool → Sto → Prop} (h : (ga env st).Is fun k s => if k = true then A true s else (gb env s).Is A) : (orM ga gb env st).Is A :=
  is_bind (h.imp fun k _ h => by
    cases k with
    | true => exact h
    | false => exact h)
theorem is_not {ga : Env → Sto → Res Bool} {A : Bool → Sto → Prop} (h : (ga env st).Is fun k s => A (!k) s) : (Mi.notM ga env st).Is A := is_bind h
theorem o_nx (h : N env st) : (nxM env st).Is N B := h
theorem o_seq {g1 g2 : Env → Sto → Out} (h : (g1 env st).Is (fun e s => (g2 e s).Is N B) B) : (seqM g1 g2 env st).Is N B := by
  unfold seqM
  cases q : g1 env st with
  | nx e s => rw [q] at h; exact h
  | rt d s => rw [q] at h; exact h
  | _ => rw [q] at h; exact h.elim
theorem o_set {i : Nat} (h : (f env st).Is fun d s => N (env.set i (some d)) s) : (setM i f env st).Is N B := is_out h
theorem o_ret (h : (f env st).Is B) : (retM f env st).Is N B := is_out h
theorem o_drop (h : (f env st).Is fun _ s => N env s) : (dropM f env st).Is N B := is_out h
theorem o_if {c : Env → Sto → Res Bool} {a b : Env → Sto → Out} (h : (c env st).Is fun k s => if k = true then (a env s).Is N B else (b env s).Is N B) : (ifM c a b env st).Is N B :=
  is_out (h.imp fun k _ h => by
    cases k with
    | true => exact h
    | false => exact h)
theorem o_par {i j : Nat} (h : (argsM fs env st).Is fun ds s => ∃ d d2, ds = [d, d2] ∧ N ((env.set i (some d)).set j (some d2)) s) : (parM i j fs env st).Is N B :=
  is_out (h.imp fun _ _ ⟨d, d2, e, q⟩ => by rw [e]; exact q)
/-- a loop over a list, by what holds behind each item -/
theorem o_forL {ga : D → Env → Option Env} {body : Env → Sto → Out} (tot : Nat) (P : List D → Env → Sto → Prop) : ∀ (ds pre : List D) (env : Env) (st : Sto), pre.length + ds.length ≤ tot → P pre env st →
    (∀ p d e s, P p e s → d ∈ ds → p.length < tot → ∃ e1, ga d e = some e1 ∧ (body e1 s).Is (fun e2 s2 => P (p ++ [d]) e2 s2) B) → (∀ e s, P (pre ++ ds) e s → N e s) → (forL ga body ds env st).Is N B
  | [], pre, env, st, _, h0, _, hN => hN env st (by rw [List.append_nil]; exact h0)
  | d :: r, pre, env, st, hl, h0, ht, hN => by
    rw [List.length_cons] at hl
    obtain ⟨e1, q, hb⟩ := ht pre d env st h0 List.mem_cons_self (by omega)
    unfold forL
    rw [q]
    dsimp only
    cases z : body e1 st with
    | nx e s =>
      rw [z] at hb
      exact o_forL tot P r (pre ++ [d]) e s (by rw [List.length_append]; simp; omega) hb (fun p d e s h hm => ht p d e s h (List.mem_cons_of_mem _ hm)) fun e s h => hN e s (by rw [List.append_assoc] at h; exact h)
    | rt d s => rw [z] at hb; exact hb
    | _ => rw [z] at hb; exact hb.elim
theorem o_for {fi : Env → Sto → Res ItM} {ga : D → Env → Option Env} {body : Env → Sto → Out} {it : ItM} {s : Sto} {ds : List D} (P : List D → Env → Sto → Prop) (hi : fi env st = .ok it s) (hn : ∀ st i, it.nth st i = some ds[i]?) (hm : ds.length ≤ it.most)
    (h0 : P [] env s) (ht : ∀ p d e s, P p e s → d ∈ ds → p.length < ds.length → ∃ e1, ga d e = some e1 ∧ (body e1 s).Is (fun e2 s2 => P (p ++ [d]) e2 s2) B) (hN : ∀ e s, P ds e s → N e s) : (forM' fi ga body env st).Is N B := by
  rw [forM_eq hi hn hm]
  exact o_forL ds.length P ds [] env s (by simp) h0 ht hN
def upto (lo : Int) (n : Nat) : List D := (List.range n).map fun i => .t (.int (lo + (i : Nat)))
theorem nth_rng (lo : Int) (n : Nat) : ∀ st i, (rngIt lo n).nth st i = some (upto lo n)[i]? := fun st i => by
  show some (if i < n then some (D.t (.int (lo + i))) else none) = _
  unfold upto
  rw [List.getElem?_map]
  by_cases h : i < n
  · rw [if_pos h, List.getElem?_range h]; rfl
  · rw [if_neg h, List.getElem?_eq_none (by rw [List.length_range]; omega)]; rfl
theorem upto_len (lo : Int) (n : Nat) : (upto lo n).length = n := by unfold upto; rw [List.length_map, List.length_range]
theorem upto_mem {lo : Int} {n : Nat} {d : D} (h : d ∈ upto lo n) : ∃ i : Nat, i < n ∧ d = .t (.int (lo + i)) := by
  obtain ⟨i, hi, e⟩ := List.mem_map.mp h
  exact ⟨i, List.mem_range.mp hi, e.symm⟩
theorem is_defG {n : Nat} {g : Env → Sto → Out} {ds : List D} (h : (g (startE n ds) st).Is (fun _ s => B (.t .non) s) B) : (defG n g ds st).Is B := by
  unfold defG
  cases q : g (startE n ds) st with
  | nx e s => rw [q] at h; exact h
  | rt d s => rw [q] at h; exact h
  | _ => rw [q] at h; exact h.elim
theorem is_defT {n : Nat} {g : Env → Sto → Out} {ds : List D} (h : (g (startE n ds) st).Is (fun _ s => (trim st.length (.t .non) s).Is B) (fun d s => (trim st.length d s).Is B)) : (defT n g ds st).Is B := by
  unfold defT
  cases q : g (startE n ds) st with
  | nx e s => rw [q] at h; exact h
  | rt d s => rw [q] at h; exact h
  | _ => rw [q] at h; exact h.elim
/-- objects that hold plain values only -/
def Pl (st : Sto) : Prop := st.all (SO.below 0) = true
theorem belowD_up {n : Nat} {d : D} (h : D.below 0 d = true) : D.below n d = true := by
  cases d with
  | t x => rfl
  | x => rfl
  | r m => unfold D.below at h; simp at h
theorem belowK_up {n : Nat} {κ : Type} {fs : List (κ × D)} (h : (fs.all fun p => p.2.below 0) = true) : (fs.all fun p => p.2.below n) = true := by
  rw [List.all_eq_true] at h ⊢
  exact fun p hp => belowD_up (h p hp)
theorem below_up {n : Nat} {o : SO} (h : SO.below 0 o = true) : SO.below n o = true := by
  cases o with
  | lst ds =>
    unfold SO.below at h ⊢
    rw [List.all_eq_true] at h ⊢
    exact fun d hd => belowD_up (h d hd)
  | ins C fs => exact belowK_up (fs := fs) h
  | dk lk fs => exact belowK_up (fs := fs) h
  | dt fs => exact belowK_up (fs := fs) h
  | exc C fs => exact belowK_up (fs := fs) h
theorem Pl.take {st : Sto} (h : Pl st) (n : Nat) : (st.take n).all (SO.below n) = true := by
  unfold Pl at h
  rw [List.all_eq_true] at h ⊢
  intro o ho
  exact below_up (h o (List.mem_of_mem_take ho))
theorem Pl.cut {st : Sto} (h : Pl st) (n : Nat) : Pl (st.take n) := by
  unfold Pl at h ⊢
  rw [List.all_eq_true] at h ⊢
  intro o ho
  exact h o (List.mem_of_mem_take ho)
theorem is_trim {n : Nat} {t : T} (h : Pl st) (hB : B (.t t) (st.take n)) : (trim n (.t t) st).Is B := by
  unfold trim
  rw [if_pos (h.take n)]
  exact hB
theorem Pl.set {st : Sto} (h : Pl st) (k : Nat) (ts : List T) : Pl (st.set k (.lst (ts.map .t))) := by
  unfold Pl at h ⊢
  rw [List.all_eq_true] at h ⊢
  intro o ho
  rcases List.mem_or_eq_of_mem_set ho with e | e
  · exact h o e
  · rw [e]
    show (ts.map D.t).all (D.below 0) = true
    rw [List.all_map, List.all_eq_true]
    exact fun _ _ => rfl
theorem Pl.app {st : Sto} (h : Pl st) (ts : List T) : Pl (st ++ [.lst (ts.map .t)]) := by
  unfold Pl at h ⊢
  rw [List.all_append, h, Bool.true_and, List.all_cons, List.all_nil, Bool.and_true]
  show (ts.map D.t).all (D.below 0) = true
  rw [List.all_map, List.all_eq_true]
  exact fun _ _ => rfl
end
end Mi
/-! Xk1 -/
namespace PySem
namespace HandSPX
open PySem.Spec PySem.Calls PyProof.Rows
/-! ### an own exception class called with a keyword -/
section
variable  {M : Model} {A : Around} {E : Value → Shared → Prop} {h : Heap} {g : Array GenState} {d : Drawn} {t : Nat} {os : OsState}
variable  {nm q : Str} {C N : Addr} {bs bm bmB : List Value} {hdct : Bool} {sn : List Str} {sub : List Value} {ab : Bool} {col : Option Bool} {dd : Option Addr} {k0 k1 k2 k3 k5 : Option Value} {B newId initId : String}
theorem check_new_kw (F : ExcBaseFacts B newId initId bmB) (hT : ∀ X : String, bm.contains (.type X) = bmB.contains (.type X)) {kws : List (Str × Value)} {Q : Unit → Shared → Prop}
    (hC : h.get? C = some (excClassObj nm q C N bs bm hdct sn sub ab col dd k0 k1 k2 k3 k5 newId)) (hq : Q () ⟨h, g, d, t, os⟩) : wpAny M A (checkBuiltinCall newId ⟨[.ref C], kws⟩) Q E ⟨h, g, d, t, os⟩ := by
  have  hcont : (Value.ref C :: bm).contains (.type B) = true := by rw [List.contains_cons, hT, F.hasB, Bool.or_true]
  have hstar := F.noStar
  simp  only [checkBuiltinCall, F.newKind, F.newSplit, F.newRow]
  repeat  (first | refine wpAny_loadPart_at hC ?_ | (refine wpAny_isSubtype_exc hC ?_; rw [hcont]) | refine wpAny_staticBase_exc hC ?_ | refine wpAny_madeBy_exc hC ?_ | simp only [bne_self_eq_false, Bool.false_eq_true, if_false] | wp_step)
  exact hq
end
section
variable  {prog : Program} {w : World} {A : Around} {E : Value → Shared → Prop} {R : Result → Shared → Prop} {h : Heap} {g : Array GenState} {d : Drawn} {t : Nat} {os : OsState}
variable  {nm q : Str} {C N : Addr} {bs bm bmB : List Value} {hdct : Bool} {sn : List Str} {sub : List Value} {ab : Bool} {col : Option Bool} {dd : Option Addr} {k0 k1 k2 k3 k5 : Option Value} {B newId initId : String}
theorem new_kw (F : ExcBaseFacts B newId initId bmB) (hT : ∀ X : String, bm.contains (.type X) = bmB.contains (.type X)) {kws : List (Str × Value)}
    (hC  : h.get? C = some (excClassObj nm q C N bs bm hdct sn sub ab col dd k0 k1 k2 k3 k5 newId))
    (hq : R (.ok (.ret (.ref (h.objs.size + 1)))) ⟨(h.push (W.kdv_tup [])).push (excO C h.objs.size), g, d, t, os⟩) :
    codeAny (model prog w) A (.builtin newId ⟨[.ref C], kws⟩) R ⟨h, g, d, t, os⟩ := by
  have hrest : ([] : List Value).length ≤ sizeLine := Nat.zero_le _
  have hends := F.ends
  have  hcB : (Value.ref C :: bm).contains (.type B) = true := by rw [List.contains_cons, hT, F.hasB, Bool.or_true]
  have  hcA : (Value.ref C :: bm).contains (.type "AttributeError") = false := by rw [List.contains_cons, hT, F.noAttr]; rfl
  have  hcN : (Value.ref C :: bm).contains (.type "NameError") = false := by rw [List.contains_cons, hT, F.noName]; rfl
  refine  codeAny_builtinAt F.entry ?_
  unfold  Builtin.«BaseException.__new__»
  refine wpAt_bind ?_
  show  wpAt _ _ _ (stack >>= _) _ _ _
  refine  wpAt_bind (wpAt_stack fun p below => wpAt_of_wpAny ?_)
  wp_walk
  refine wpAt_of_wpAny ?_
  rw [F.owner]
  repeat  (first | with_reducible refine wpAny_madeHere_exc F.canon hC ?_ | with_reducible refine wpAny_loadPart_at hC ?_ | (with_reducible refine wpAny_isSubtype_exc hC ?_; first | rw [hcB] | rw [hcA] | rw [hcN]) | wp_step)
  show R _ _
  rw [Heap.size_push]
  exact hq
theorem type_call_kw (F : ExcBaseFacts B newId initId bmB) (hT : ∀ X : String, bm.contains (.type X) = bmB.contains (.type X)) {kws : List (Str × Value)} {fI : Addr} {Q : Fin → Shared → Prop}
    (hC  : h.get? C = some (excClassObj nm q C N bs bm hdct sn sub ab col dd k0 k1 k2 k3 k5 newId))
    (hi : W.Looks (model prog w) h (typeLookup (.ref C) "__init__") (some (.ref fI))) (hb : ∀ self, W.Looks (model prog w) h (bindSpecial (.ref fI) self) (.ref fI, [self]))
    (hq : codeAny (model prog w) A (.call (.ref fI) ⟨[.ref (h.objs.size + 1)], kws⟩)
      (fun  r s' => match r with | .ok (.ret v) => v = .none ∧ Q (.done (.ret (.ref (h.objs.size + 1)))) s' | .ok _ => False | .error e => E e s')
      ⟨(h.push (W.kdv_tup [])).push (excO C h.objs.size), g, d, t, os⟩) :
    wpAny (model prog w) A (Builtin.«type.__call__» ⟨[.ref C], kws⟩) Q E ⟨h, g, d, t, os⟩ := by
  repeat  (first | with_reducible refine wpAny_loadPart_at hC ?_ | with_reducible refine wpAny_madeBy_exc hC ?_ | wp_step)
  refine codeAny_call_builtin_code (Code.quiet_builtin _ F.quiet) (check_new_kw F hT hC ?_)
  refine new_kw F hT hC ?_
  show wpAny _ _ _ _ _ _
  have k : ∀ b o, h.get? b = some o → ((h.push (W.kdv_tup [])).push (excO C h.objs.size)).get? b = some o := fun b o e => Heap.get?_push_of_some _ (Heap.get?_push_of_some _ e)
  have hC₁ := k _ _ hC
  have hget : ((h.push (W.kdv_tup [])).push (excO C h.objs.size)).get? (h.objs.size + 1) = some (excO C h.objs.size) := by heap_get
  have  hcC : (Value.ref C :: bm).contains (.ref C) = true := by simp
  have i1 := hi.keeps k
  have  b1 := (hb (.ref (h.objs.size + 1))).keeps k
  unfold isInstance
  repeat  (first | with_reducible refine wpAny_loadPart_at hget ?_ | (with_reducible refine wpAny_isSubtype_exc hC₁ ?_; rw [hcC]) | wp_step)
  show  wpAny _ _ (typeLookup (.ref C) _) _ _ _
  refine i1.at ?_
  refine  wpAny_holding (wpAny_bind (b1.at ?_))
  refine  wpAny_bind (wpAny_call (codeAny_mono hq fun r s' z => ?_))
  rcases  r with e | (v | _ | _ | _) <;> first | exact z | exact z.elim | skip
  obtain ⟨rfl, z⟩ := z
  first
    |  exact wpAny_pure (wpAny_pure z)
    | (wp_walk; exact z)
theorem call_kw (F : ExcBaseFacts B newId initId bmB) (hT : ∀ X : String, bm.contains (.type X) = bmB.contains (.type X)) {kws : List (Str × Value)} {fI : Addr}
    (hC  : h.get? C = some (excClassObj nm q C N bs bm hdct sn sub ab col dd k0 k1 k2 k3 k5 newId))
    (hi : W.Looks (model prog w) h (typeLookup (.ref C) "__init__") (some (.ref fI))) (hb : ∀ self, W.Looks (model prog w) h (bindSpecial (.ref fI) self) (.ref fI, [self]))
    (hq : codeAny (model prog w) (A.under (.builtin "type.__call__" ⟨[.ref C], kws⟩)) (.call (.ref fI) ⟨[.ref (h.objs.size + 1)], kws⟩) (W.InitBack (h.objs.size + 1) R)
      ⟨(h.push (W.kdv_tup [])).push (excO C h.objs.size), g, d, t, os⟩) :
    codeAny (model prog w) A (.call (.ref C) ⟨[], kws⟩) R ⟨h, g, d, t, os⟩ := by
  have f1 := tc_lookup
  have f2 := tc_bind (.ref C)
  have  hTy : (⟨h, g, d, t, os⟩ : Shared).TypeIs (.ref C) "type" := ⟨_, hC, rfl⟩
  refine codeAny_of_tree ?_
  show  wpAny _ _ (callAny (.ref C) _) _ _ _
  repeat  (any_goals (first | assumption | with_reducible refine wpAny_loadPart_at hC ?_ | wp_step))
  refine ⟨rfl, ?_⟩
  refine codeAny_call_builtin_at (Code.quiet_builtin _ (by decide +kernel)) entry_typeCall (wpAny_check_type_call_sub hC (type_call_kw F hT hC hi hb ?_))
  refine  codeAny_mono hq fun r s' z => ?_
  rcases  r with e | (v | _ | _ | _) <;> exact z
end
end HandSPX
end PySem
/-! Xk2 -/
namespace L2
open PySem PySem.Spec PySem.Calls PyProof.Rows PySem.Builtin PySem.Builtin.ObjectAttr
/-- what the written part says of an own exception class that is called -/
structure KexC (K : PySem.W.Frag) (C : Addr) : Prop where
  fb : ∃ B newId initId bmB, ExcBaseFacts B newId initId bmB ∧ StoreFacts B bmB "object.__setattr__" "object" ∧ PySem.W.excInitIn K C bmB newId = true ∧ PySem.W.excOver K C bmB = true
  hd  : PySem.W.hasDictIn K C = true
  sa  : PySem.W.findIn K (.ref C) "__setattr__" = some (some (.builtin "object.__setattr__"))
  kC  : PySem.W.keepIn K (.ref C) = true
section
variable {prog : Program} {w : World} {A : Around} {E : Value → Shared → Prop} {R : Result → Shared → Prop} {hp : Heap} {g : Array GenState} {d : Drawn} {t : Nat} {os : OsState} {B : String} {bmB : List Value}
/-- object.__setattr__ of an exception without a dict -/
theorem xosa {K : PySem.W.Frag} {name : Str} {tk : Tok} {v : Value} {x C : Addr} {fv : Array Value} (SF : StoreFacts B bmB "object.__setattr__" "object") (X : K.In hp) (hx : hp.get? x = some { cls := .ref C, data := .fields fv }) (ov : PySem.W.excOver K C bmB = true) (hh : PySem.W.hasDictIn K C = true) (ha : PySem.W.findIn K (.ref C) name = some none)
    (hq  : ∀ h' tk' dx, (∀ b o, b ≠ x → hp.get? b = some o → h'.get? b = some o) → hp.objs.size ≤ dx → dx ≠ x → h'.get? x = some { cls := .ref C, dict := some dx, data := .fields fv } →
      h'.Ns1  dx (fun y => if y = name then some v else none) → R (.ok (.ret .none)) ⟨h', g, d, tk', os⟩) :
    codeAny  (model prog w) A (.call (.builtin "object.__setattr__") ⟨[.ref x, .str name tk, v], []⟩) R ⟨hp, g, d, t, os⟩ := by
  have I : PySem.W.InstAt hp x { cls := .ref C, data := .fields fv } C none := ⟨hx, rfl, rfl, trivial⟩
  have  hxs : x ≠ hp.objs.size := Nat.ne_of_lt (Heap.lt_size hx)
  refine PySem.W.osa_openX (r := none) (s := ⟨hp, g, d, t, os⟩) SF X I ov (by unfold PySem.W.takerIn; rw [ha]; rfl) fun b => ?_
  show wpAny _ _ (storeInOwnDict (.ref x) (.ref C) (.str name tk) name v b) _ _ _
  obtain ⟨cd, hcd, hdd⟩ := PySem.W.any_some hh
  have hcls : PySem.W.Looks (model prog w) hp (classData C) cd := PySem.W.looks_clsIn X hcd
  obtain  ⟨nm, bs, mro, ns, qn, hd, sn, sb, ab, col, del⟩ := cd
  dsimp only at hdd
  subst hdd
  unfold  storeInOwnDict ownDictForStores
  repeat (first | with_reducible refine PySem.HandSPX.store_in_new ?_ ?_ | with_reducible refine wpAny_loadPart_at hx ?_ | with_reducible refine hcls.at ?_ | wp_step)
  · exact  ⟨_, #[], _, (Heap.get?_update_ne _ _ _ _ hxs.symm).trans (Heap.get?_push_at rfl rfl), rfl, fun e he => absurd he (by simp), fun _ => rfl⟩
  · intro h' tk' hn' hs
    have  hx₁ : (hp.push { cls := .type "dict", data := .dict #[] }).get? x = some { cls := .ref C, data := .fields fv } := Heap.get?_push_of_some _ hx
    refine  hq h' tk' hp.objs.size (fun b o hb ho => ?_) (Nat.le_refl _) hxs.symm ?_ hn'
    · exact  (hs.2 b (Nat.ne_of_lt (Heap.lt_size ho))).trans ((Heap.get?_update_ne _ _ _ _ hb).trans (Heap.get?_push_of_some _ ho))
    · exact  (hs.2 x hxs).trans (Heap.get?_update_self _ hx₁ rfl)
end
section
variable  {X : Cx} {pins : List (Addr × Obj)} {σ : St} {H : Hp} {s : Shared} {a C dx : Addr} {f : Str} {y : V} {u : Value} {fs : List (Str × V)} {Q : Unit → Shared → Prop} {E : Value → Shared → Prop} {A : Around}
/--  self.f = y, the first one -/
theorem xst_new (T : KexC X.K C) (I : Inv X pins σ H s) (e : H a = some (exo a C none)) (hno : PySem.W.findIn X.K (.ref C) f = some none) (ry : RelV y u)
    (h : ∀ dx s', H dx = none → dx ≠ a → Inv X pins σ (upd (upd H dx (.xd [(f, y)])) a (exo a C (some dx))) s' → Q () s') : wpAny (model X.prog X.w) A (setAttr (.ref a) f u) Q E s := by
  obtain ⟨B, newId, initId, bmB, FB, SF, q, ov⟩ := T.fb
  obtain  ⟨t1, ho⟩ := exo_at I.hok e
  obtain ⟨hp, g, d, t, os⟩ := s
  refine  PySem.W.set_plain I.kIn (ox := { cls := .ref C, dict := none, data := .fields #[.ref t1, .none, .none, .none, .bool false, .none] }) (od := none) ⟨ho, rfl, rfl, trivial⟩ T.sa ?_
  refine xosa SF I.kIn ho ov T.hd hno (fun h' tk' dx k dn dne hx hn => ?_)
  have  hnd : H dx = none := I.hok.fresh dn
  have  nd : ∀ {b : Addr} {o : Obj}, hp.get? b = some o → b ≠ dx := fun {b o} q => Nat.ne_of_lt (Nat.lt_of_lt_of_le (Heap.lt_size q) dn)
  have  na : ∀ {b : Addr}, H b = none → b ≠ a := fun {b} n z => by
    rw [z, e] at n
    cases n
  have Un1 : Un X.fs [] H (upd (upd H dx (.xd [(f, y)])) a (exo a C (some dx))) hp h' := {
    keep  := fun b o q n _ _ => k b o (na n) q
    slot  := fun b o q n _ _ => ⟨o.slots, k b o (na n) q⟩
    free  := fun b o q n _ => by rw [upd_ne (na n), upd_ne (nd q)]; exact n
    there := fun b o q _ => by
      by_cases hb : b = a
      · exact  ⟨_, by rw [hb]; exact hx⟩
      · exact ⟨o, k b o hb q⟩
    tups  := fun b xs q => by rw [upd_ne (at_ne e q exo_tup), upd_ne (ne_of_none q hnd)]; exact q
    frzs  := fun b o v q => by rw [upd_ne (at_ne e q exo_frz), upd_ne (ne_of_none q hnd)]; exact q
    tbls  := fun b ps q => ⟨#[], by rw [upd_ne (at_ne e q exo_tbl), upd_ne (ne_of_none q hnd), q]; simp⟩ }
  refine  h dx _ hnd dne (I.un (t' := tk') Un1 fun b o q => ?_)
  by_cases hb : b = a
  · subst hb
    rw [upd_same] at q
    cases q
    exact exo_ok hx
  · rw [upd_ne hb] at q
    by_cases hd : b = dx
    · subst hd
      rw [upd_same] at q
      cases q
      exact ⟨_, hn, relO_put (fs := []) ry fun g => True.intro⟩
    · rw [upd_ne hd] at q
      exact  (I.hok b o q).stay (fun c v hc z => k c v (by
          rcases hc with hc | hc
          · rw [hc]
            exact hb
          · exact  at_ne e hc exo_own) z)
        (fun  c hc => by rw [upd_ne (at_ne e hc exo_own), upd_ne (ne_of_none hc hnd)]; exact hc) (fun c xs hc => by rw [upd_ne (at_ne e hc exo_tup), upd_ne (ne_of_none hc hnd)]; exact hc)
/-- self.f = e -/
def tXst (K : PySem.W.Frag) (f : Str) (to te : TE) : TS := fun D σ H => te σ H fun y H1 => to σ H1 fun x H2 => ∃ a C : Addr, x = .ref a ∧ KexC K C ∧ PySem.W.findIn K (.ref C) f = some none ∧
  H2 a = some (exo a C none) ∧ ∀ dx, H2 dx = none → dx ≠ a → D.nx σ (upd (upd H2 dx (.xd [(f, y)])) a (exo a C (some dx)))
end
section
variable  {X : Cx} {o e : Expr} {es : List Expr} {to te : TE} {ta : TA} {f : Str} {p p' p1 p2 pos : Pos}
theorem ps_xst (ho : PE X o to) (he : PE X e te) (hs : swapsWith e (some (.Attribute o f p')) pos.line X.env = pure false := by rfl) : PS X (.Assign [.Attribute o f p'] e pos) (tXst X.K f to te) := by
  refine  ⟨fun pins s σ H D I h => ?_⟩
  refine plainObj_wpAny_Assign_Attribute (thn (he.run pins s σ H _ I h) fun v s1 ⟨y, H1, I1, r1, q1⟩ => thn (ho.run pins s1 σ H1 _ I1 q1) fun u s2 ⟨x, H2, I2, r2, a, C, ex, T, hno, ea, q⟩ => ?_) hs
  subst ex
  obtain  rfl : u = Value.ref a := r2
  exact xst_new T I2 ea hno r1 fun dx s' n ne J => ⟨σ, _, J, q dx n ne⟩
end
/-! ### the calls -/
section
variable {X : Cx} {CX : CXT} {C fI : Addr} {k n : Nat} {fd : FuncData} {ps ks : List Str} {sp : Sp} {pins : List (Addr × Obj)} {σ : St} {H : Hp} {s : Shared} {Q : VK} {us ws : List Value} {vs zs : List V} {g : List Value → List Value → List Value} {gV : List V → List V → List V}
theorem laid_exc {hp : Heap} {gs : Array GenState} {dr : Drawn} {tk : Nat} {os : OsState} {us : List Value} (I : Inv X pins σ H ⟨hp, gs, dr, tk, os⟩) : Inv X pins σ (upd H (hp.objs.size + 1) (exo (hp.objs.size + 1) C none)) ⟨(hp.push (PySem.W.kdv_tup us)).push (PySem.HandSPX.excO C hp.objs.size), gs, dr, tk, os⟩ := by
  have  kk : ∀ b o, hp.get? b = some o → ((hp.push (PySem.W.kdv_tup us)).push (PySem.HandSPX.excO C hp.objs.size)).get? b = some o := fun b o e => Heap.get?_push_of_some _ (Heap.get?_push_of_some _ e)
  have  hget : ((hp.push (PySem.W.kdv_tup us)).push (PySem.HandSPX.excO C hp.objs.size)).get? (hp.objs.size + 1) = some (PySem.HandSPX.excO C hp.objs.size) := by heap_get
  exact I.laid (t' := tk) (a := hp.objs.size + 1) (o := exo (hp.objs.size + 1) C none) (h' := (hp.push (PySem.W.kdv_tup us)).push (PySem.HandSPX.excO C hp.objs.size)) kk (Nat.le_succ _) (exo_ok hget)
theorem run_exc (T : KexC X.K C) (iC : PySem.W.findIn X.K (.ref C) "__init__" = some (some (.ref fI))) (tI : PySem.W.typeIn X.K (.ref fI) = some (.type "function")) (F1 : FnOk X.prog X.w X.K X.mg X.base CX k fI fd ps sp) (hr : Room (k + 1) X.A) (hb : Binds X.K fd ps []) (hx : Passes CX X (fun _ _ _ => False))
    (I : Inv X pins σ H s) (r : Vals vs us) (hl : vs.length ≤ 1000) (h : ∀ a, H a = none → sp (.ref a :: vs) (upd H a (exo a C none)) (fun v H2 => v = .non ∧ Q (.ref a) H2) (fun _ _ _ => False)) :
    wpAny  (model X.prog X.w) X.A (call (.ref C) us) (EP X pins σ Q) X.xe s := by
  obtain ⟨B, newId, initId, bmB, FB, SF, q, ov⟩ := T.fb
  obtain ⟨nm, N', qn, bs, bm, hdct, sn, sub, ab, col, dd, k0, k1, k2, k3, k5, hC, hT⟩ := PySem.W.excInit_of I.kIn q
  obtain ⟨hp, gs, dr, tk, os⟩ := s
  have hn : H (hp.objs.size + 1) = none := I.hok.fresh (Nat.le_succ _)
  have hq := h (hp.objs.size + 1) hn
  have I2 := laid_exc (C := C) (us := us) I
  have r2 : Vals (V.ref (hp.objs.size + 1) :: vs) (Value.ref (hp.objs.size + 1) :: us) := .cons rfl r
  have hl2 : ((Value.ref (hp.objs.size + 1) :: us) ++ []).length = ps.length := by
    have e := r2.length
    rw [F1.len _ _ _ _ hq] at e
    rw [List.append_nil]
    exact e.symm
  have  hus : us.length ≤ sizeLine := by
    rw [← Paired.length r, sizeLine_eq]
    omega
  have hbb := hb _ (Value.ref (hp.objs.size + 1) :: us) I2.kIn hl2
  rw [List.append_nil] at hbb
  refine wpAny_call (PySem.HandSPX.call_own FB hT hC (PySem.W.looks_findIn I.kIn iC) (fun self => PySem.W.bind_fn I.kIn self tI) hus
    (codeAny_mono (F1.run _ X.stack _ _ ⟨Value.ref (hp.objs.size + 1) :: us, []⟩ (Value.ref (hp.objs.size + 1) :: us) _ _ (fun _ _ _ => False) (hr.make C us []) (I2.env0.make C us []) hbb r2 hq) fun r s' hq' => ?_))
  cases r with
  |  error er => exact hx pins σ _ _ er s' I2 hq'
  | ok fl =>
    cases fl with
    | ret u =>
      obtain  ⟨v, H', I3, rv, ev, q3⟩ := I2.after hq'
      subst ev
      exact ⟨rv, ⟨V.ref (hp.objs.size + 1), H', I3, rfl, q3⟩⟩
    |  next => exact False.elim hq'
    | brk => exact False.elim hq'
    |  cont => exact False.elim hq'
theorem run_excK (T : KexC X.K C) (iC : PySem.W.findIn X.K (.ref C) "__init__" = some (some (.ref fI))) (tI : PySem.W.typeIn X.K (.ref fI) = some (.type "function")) (F1 : FnOk X.prog X.w X.K X.mg X.base CX k fI fd ps sp) (hr : Room (k + 1) X.A) (hb : KBn X.K fd ps 1 ks g gV) (hx : Passes CX X (fun _ _ _ => False))
    (I : Inv X pins σ H s) (rz : Vals zs ws) (l2 : zs.length = ks.length) (h : ∀ a, H a = none → sp (gV [.ref a] zs) (upd H a (exo a C none)) (fun v H2 => v = .non ∧ Q (.ref a) H2) (fun _ _ _ => False)) :
    wpAny (model X.prog X.w) X.A (call (.ref C) [] (ks.zip ws)) (EP X pins σ Q) X.xe s := by
  obtain ⟨B, newId, initId, bmB, FB, SF, q, ov⟩ := T.fb
  obtain ⟨nm, N', qn, bs, bm, hdct, sn, sub, ab, col, dd, k0, k1, k2, k3, k5, hC, hT⟩ := PySem.W.excInit_of I.kIn q
  obtain ⟨hp, gs, dr, tk, os⟩ := s
  have hn : H (hp.objs.size + 1) = none := I.hok.fresh (Nat.le_succ _)
  have hq := h (hp.objs.size + 1) hn
  have I2 := laid_exc (C := C) (us := []) I
  have r1 : Vals [V.ref (hp.objs.size + 1)] [Value.ref (hp.objs.size + 1)] := .cons rfl .nil
  have r2 := hb.rel r1 rz
  refine wpAny_call (PySem.HandSPX.call_kw FB hT hC (PySem.W.looks_findIn I.kIn iC) (fun self => PySem.W.bind_fn I.kIn self tI)
    (codeAny_mono (F1.run _ X.stack _ _ ⟨[Value.ref (hp.objs.size + 1)], ks.zip ws⟩ (g [Value.ref (hp.objs.size + 1)] ws) _ _ (fun _ _ _ => False) (hr.make C [] (ks.zip ws)) (I2.env0.make C [] (ks.zip ws)) (hb.to _ [Value.ref (hp.objs.size + 1)] ws I2.kIn rfl (rz.length.symm.trans l2)) r2 hq) fun r s' hq' => ?_))
  cases r with
  |  error er => exact hx pins σ _ _ er s' I2 hq'
  | ok fl =>
    cases fl with
    | ret u =>
      obtain  ⟨v, H', I3, rv, ev, q3⟩ := I2.after hq'
      subst ev
      exact ⟨rv, ⟨V.ref (hp.objs.size + 1), H', I3, rfl, q3⟩⟩
    |  next => exact False.elim hq'
    | brk => exact False.elim hq'
    |  cont => exact False.elim hq'
/-- a class without an own __init__ -/
structure Kex0 (K : PySem.W.Frag) (C : Addr) : Prop where
  fb : ∃ B newId initId bmB, ExcBaseFacts B newId initId bmB ∧ PySem.W.excInitIn K C bmB newId = true ∧ PySem.W.findIn K (.ref C) "__init__" = some (some (.builtin initId))
  kC  : PySem.W.keepIn K (.ref C) = true
theorem run_exc0 (T : Kex0 X.K C) (I : Inv X pins σ H s) (h : ∀ a, H a = none → Q (.ref a) (upd H a (exo a C none))) : wpAny (model X.prog X.w) X.A (call (.ref C) []) (EP X pins σ Q) X.xe s := by
  obtain ⟨B, newId, initId, bmB, FB, q, hi⟩ := T.fb
  obtain ⟨nm, N', qn, bs, bm, hdct, sn, sub, ab, col, dd, k0, k1, k2, k3, k5, hC, hT⟩ := PySem.W.excInit_of I.kIn q
  obtain ⟨hp, gs, dr, tk, os⟩ := s
  refine PySem.W.call_B FB hT hC (PySem.W.looks_findIn I.kIn hi) (Nat.zero_le _) fun h' k he ht => ?_
  exact ⟨.ref (hp.objs.size + 1), _, I.laid (t' := tk) (a := hp.objs.size + 1) (o := exo (hp.objs.size + 1) C none) (h' := h') k (Nat.le_succ _) (exo_ok he), rfl, h _ (I.hok.fresh (Nat.le_succ _))⟩
end
section
variable {X : Cx} {CX : CXT} {x : Str} {C fI : Addr} {k n : Nat} {fd : FuncData} {ps ks : List Str} {sp : Sp} {ta tk : TA} {e : Expr} {es : List Expr} {kws : List Keyword} {p pos : Pos} {g : List Value → List Value → List Value} {gV : List V → List V → List V}
/-- C(e, ..) -/
def tExc (C : Addr) (sp : Sp) (ta : TA) : TE := fun σ H Q => ta σ H fun vs H1 => vs.length ≤ 1000 ∧ ∀ a, H1 a = none → sp (.ref a :: vs) (upd H1 a (exo a C none)) (fun v H2 => v = .non ∧ Q (.ref a) H2) (fun _ _ _ => False)
def tExcK (C : Addr) (n : Nat) (gV : List V → List V → List V) (sp : Sp) (ta : TA) : TE := fun σ H Q => ta σ H fun zs H1 => zs.length = n ∧ ∀ a, H1 a = none → sp (gV [.ref a] zs) (upd H1 a (exo a C none)) (fun v H2 => v = .non ∧ Q (.ref a) H2) (fun _ _ _ => False)
theorem pe_exc (T : KexC X.K C) (iC : PySem.W.findIn X.K (.ref C) "__init__" = some (some (.ref fI))) (tI : PySem.W.typeIn X.K (.ref fI) = some (.type "function")) (F1 : FnOk X.prog X.w X.K X.mg X.base CX k fI fd ps sp) (hr : Room (k + 1) X.A) (hb : Binds X.K fd ps []) (hx : Passes CX X (fun _ _ _ => False)) (hg : Gl X x) (hm : X.mg x = some (.ref C)) (ha : PA X (e :: es) ta)
    (hdb  : (x == ("__debug__" : Str)) = false := by decide) (he : starEach (e :: es) X.env = (false, eval e X.env) :: starEach es X.env := by rfl) (hpl : (backTo pos (starEach es X.env)).any (·.1) = false := by rfl) :
    PE X (.Call (.Name x p) (e :: es) [] pos) (tExc C sp ta) := by
  refine  ⟨fun pins s σ H Q I h => ?_⟩
  refine  wpAny_Call_Name_kw (ld_glob I hg hm ?_ hdb)
  refine  PySem.W.callWith_K (h₀ := X.base) I.ok.mod.kin T.kC (thn (ha.run pos pins s σ H _ I h) fun us s1 ⟨vs, H1, I1, r1, hz, q1⟩ => ⟨I1.kIn, ?_⟩) he hpl
  exact run_exc T iC tI F1 hr hb hx I1 r1 hz q1
theorem pe_excK (T : KexC X.K C) (iC : PySem.W.findIn X.K (.ref C) "__init__" = some (some (.ref fI))) (tI : PySem.W.typeIn X.K (.ref fI) = some (.type "function")) (F1 : FnOk X.prog X.w X.K X.mg X.base CX k fI fd ps sp) (hr : Room (k + 1) X.A) (hb : KBn X.K fd ps 1 ks g gV) (hx : Passes CX X (fun _ _ _ => False)) (hg : Gl X x) (hm : X.mg x = some (.ref C)) (hkw : PK X kws tk)
    (hall  : (backToKw pos (keywordEach kws X.env)).all (·.1.isSome) = true := by rfl) (hks : (backToKw pos (keywordEach kws X.env)).filterMap (·.1) = ks := by rfl) (hdb : (x == ("__debug__" : Str)) = false := by decide)
    (hpl  : ((backTo pos (starEach [] X.env)).any (·.1) || (backToKw pos (keywordEach kws X.env)).any (·.1.isNone)) = false := by rfl) :
    PE X (.Call (.Name x p) [] kws pos) (tExcK C ks.length gV sp tk) := by
  refine  ⟨fun pins s σ H Q I h => ?_⟩
  refine  wpAny_Call_Name_kw (ld_glob I hg hm ?_ hdb)
  refine PySem.W.callWith_KW0 (h₀ := X.base) I.ok.mod.kin T.kC hall ?_ hpl
  refine thn (hkw.run pos pins s σ H _ I h) fun ws s2 ⟨zs, H2, I2, rz, l2, q2⟩ => ⟨I2.kIn, ?_⟩
  rw [hks]
  exact run_excK T iC tI F1 hr hb hx I2 rz l2 q2
/-- C() -/
theorem pe_exc0 (T : Kex0 X.K C) (hg : Gl X x) (hm : X.mg x = some (.ref C)) (hdb : (x == ("__debug__" : Str)) = false := by decide) :
    PE X (.Call (.Name x p) [] [] pos) (fun σ H Q => ∀ a, H a = none → Q (.ref a) (upd H a (exo a C none))) := by
  refine  ⟨fun pins s σ H Q I h => ?_⟩
  refine  wpAny_Call_Name_kw (ld_glob I hg hm ?_ hdb)
  exact PySem.W.callWith_K0 I.kIn T.kC (run_exc0 T I h)
end
end L2
/-! Xk3 -/
namespace Mi
open L2 PySem PySem.Spec PyProof.Rows
/-! ### exceptions that are kept: made -/
/-- the promise of an own __init__ that keeps its argument in the field n -/
def spX (n : Str) (C : Addr) : Sp := fun vs H Q E => ∃ a y, vs = [.ref a, y] ∧ H a = some (exo a C none) ∧ ∀ dx, H dx = none → dx ≠ a → Q .non (upd (upd H dx (.xd [(n, y)])) a (exo a C (some dx)))
section
variable {P : Program} {w : World}  {K : PySem.W.Frag}  {mg : Str → Option Value} {base : Heap}
theorem initX_ok {qual n sf vl : Str} {st : Stmt} {f C : Addr} {fd : FuncData} {p1 p2 p3 p4 : Pos} (F : Fun K "__init__" qual st f fd) (S : FnScope [sf, vl] [sf, vl] (defScope st)) (T : KexC K C) (no : PySem.W.findIn K (.ref C) n = some none)
    (hb : defBody st = [.Assign [.Attribute (.Name sf p1) n p2] (.Name vl p3) p4])
    (h0 : (defScope st).names.lookup sf = some .local) (h1 : (defScope st).names.lookup vl = some .local) (d0 : (sf == ("__debug__" : Str)) = false) (c0 : (sf == ("__classdict__" : Str)) = false) (d1 : (vl == ("__debug__" : Str)) = false) (c1 : (vl == ("__classdict__" : Str)) = false)
    (hs : ∀ env, swapsWith (.Name vl p3) (some (.Attribute (.Name sf p1) n p2)) p4.line env = pure false) : FnOk P w K mg base CX0 1 f fd [sf, vl] (spX n C) := by
  refine Fun.ok (k := 0) F S (fun vs H Q E ⟨a, y, e, _⟩ => by rw [e]; rfl) fun cd A outer s H vs Q E room ⟨a, y, e, ha, q⟩ => ?_
  refine ⟨_, (by rw [hb]; exact pss_one (ps_xst (pe_var (i := 0) rfl (.inl h0) d0 c0) (pe_var (i := 1) rfl (.inl h1) d1 c1) (hs _))), ?_⟩
  subst e
  exact ⟨y, rfl, .ref a, rfl, a, C, rfl, T, no, ha, fun dx hd ne => q dx hd ne⟩
end
section
variable {X : Cx} {Wx : WX} {e e1 : Expr} {es : List Expr} {f fa : Env → Sto → Res D} {fs : List (Env → Sto → Res D)} {x n : Str} {p pos pos' : Pos} {C fI : Addr} {kws : List Keyword}
/-- C(e), with the field n -/
def exM (C : Addr) (n : Str) (fs : List (Env → Sto → Res D)) (env : Env) (st : Sto) : Res D := (argsM fs env st).bind fun ds s => match ds with
  | [d] => .ok (.r s.length) (s ++ [.exc C [(n, d)]])
  | _ => .bad
theorem ex_core {K : PySem.W.Frag} {W W1 : Wd} {H H1 : Hp} {s : Sto} {d : D} {y : V} {Q : VK} (E1 : Ext W H W1 H1) (R1 : Rl K W1 s H1) (r : RelD K W1 H1 d y) (q : OkD K W H Q (.r s.length) (s ++ [.exc C [(n, d)]])) (a : Addr) (ha : H1 a = none) :
    spX n C [.ref a, y] (upd H1 a (exo a C none)) (fun v H2 => v = .non ∧ Q (.ref a) H2) (fun _ _ _ => False) := by
  refine ⟨a, y, rfl, upd_same, fun dx hd ne => ⟨rfl, ?_⟩⟩
  rw [upd_ne ne] at hd
  have e : upd (upd (upd H1 a (exo a C none)) dx (.xd [(n, y)])) a (exo a C (some dx)) = upd (upd H1 dx (.xd [(n, y)])) a (exo a C (some dx)) := by
    funext b
    by_cases hb : b = a
    · rw [hb, upd_same, upd_same]
    · rw [upd_ne hb, upd_ne hb]
      by_cases hb2 : b = dx
      · rw [hb2, upd_same, upd_same]
      · rw [upd_ne hb2, upd_ne hb2, upd_ne hb]
  rw [e]
  have ha2 : upd H1 dx (.xd [(n, y)]) a = none := by rw [upd_ne (Ne.symm ne)]; exact ha
  have E2 : Ext W1 H1 W1 (upd H1 dx (.xd [(n, y)])) := R1.more hd
  have R2 : Rl K W1 s (upd H1 dx (.xd [(n, y)])) := R1.rest hd
  have E3 := Ext.add W1 (o := exo a C (some dx)) ha2
  have R3 := R2.addO (so := .exc C [(n, d)]) ha2 ⟨some dx, [(n, y)], upd_same, .inr ⟨dx, rfl, by rw [upd_ne ne]; exact upd_same⟩, y, [], rfl, E3.relD R2 (E2.relD R1 r), rfl⟩
  exact q _ _ (.ref a) (E1.trans (E2.trans E3)) R3 ⟨a, by
    show (W1.ρ ++ [a])[s.length]? = some a
    rw [← R1.len, List.getElem?_append_right (Nat.le_refl _), Nat.sub_self]; rfl, rfl⟩
theorem re_ex {k : Nat} {fd : FuncData} {ps : List Str} (T : KexC X.K C) (iC : PySem.W.findIn X.K (.ref C) "__init__" = some (some (.ref fI))) (tI : PySem.W.typeIn X.K (.ref fI) = some (.type "function"))
    (F1 : FnOk X.prog X.w X.K X.mg X.base CX0 k fI fd ps (spX n C)) (hr : Room (k + 1) X.A) (hb : Binds X.K fd ps []) (hg : Gl X x) (hm : X.mg x = some (.ref C)) (ha : RA X Wx (e :: es) (argsM fs))
    (hdb : (x == ("__debug__" : Str)) = false := by decide) (hse : starEach (e :: es) X.env = (false, eval e X.env) :: starEach es X.env := by rfl) (hpl : (backTo pos (starEach es X.env)).any (·.1) = false := by rfl) :
    RE X Wx (.Call (.Name x p) (e :: es) [] pos) (exM C n fs) := by
  refine PE.conv (pe_exc T iC tI F1 hr hb pass0 hg hm ha hdb hse hpl) fun σ H Q ⟨W, env, st, R, Ev, h⟩ => ⟨W, env, st, R, Ev, split h (fun ds s h1 W1 H1 vs E1 R1 r1 => ?_) fun _ _ _ hx => hx⟩
  split at h1
  · rename_i d
    obtain ⟨y, u, e1, ry, ru⟩ := r1
    cases ru
    subst e1
    exact ⟨by simp, fun a ha => ex_core E1 R1 ry h1 a ha⟩
  · exact h1.elim
theorem re_exK {k : Nat} {fd : FuncData} {ps ks : List Str} {g : List Value → List Value → List Value} (T : KexC X.K C) (iC : PySem.W.findIn X.K (.ref C) "__init__" = some (some (.ref fI))) (tI : PySem.W.typeIn X.K (.ref fI) = some (.type "function"))
    (F1 : FnOk X.prog X.w X.K X.mg X.base CX0 k fI fd ps (spX n C)) (hr : Room (k + 1) X.A) (hb : KBn X.K fd ps 1 ks g (fun vs zs => vs ++ zs)) (hl : ks.length = 1) (hg : Gl X x) (hm : X.mg x = some (.ref C)) (hk : RK X Wx kws (argsM fs))
    (hall  : (backToKw pos (keywordEach kws X.env)).all (·.1.isSome) = true := by rfl) (hks : (backToKw pos (keywordEach kws X.env)).filterMap (·.1) = ks := by rfl) (hdb : (x == ("__debug__" : Str)) = false := by decide)
    (hpl  : ((backTo pos (starEach [] X.env)).any (·.1) || (backToKw pos (keywordEach kws X.env)).any (·.1.isNone)) = false := by rfl) :
    RE X Wx (.Call (.Name x p) [] kws pos) (exM C n fs) := by
  refine PE.conv (pe_excK T iC tI F1 hr hb pass0 hg hm hk hall hks hdb hpl) fun σ H Q ⟨W, env, st, R, Ev, h⟩ => ⟨W, env, st, R, Ev, split h (fun ds s h1 W1 H1 vs E1 R1 r1 => ?_) fun _ _ _ hx => hx⟩
  split at h1
  · rename_i d
    obtain ⟨y, u, e1, ry, ru⟩ := r1
    cases ru
    subst e1
    exact ⟨by rw [hl]; rfl, fun a ha => ex_core E1 R1 ry h1 a ha⟩
  · exact h1.elim
/-- C() -/
def ex0M (C : Addr) (_ : Env) (st : Sto) : Res D := .ok (.r st.length) (st ++ [.exc C []])
theorem re_ex0 (T : Kex0 X.K C) (hg : Gl X x) (hm : X.mg x = some (.ref C)) (hdb : (x == ("__debug__" : Str)) = false := by decide) : RE X Wx (.Call (.Name x p) [] [] pos) (ex0M C) := by
  refine PE.conv (pe_exc0 T hg hm hdb) fun σ H Q ⟨W, env, st, R, Ev, h⟩ a ha => ?_
  have E3 := Ext.add W (o := exo a C none) ha
  have R3 := R.addO (so := .exc C []) ha ⟨none, [], upd_same, .inl ⟨rfl, rfl⟩, rfl⟩
  have h : OkD X.K W H Q (.r st.length) (st ++ [.exc C []]) := h
  exact h _ _ (.ref a) E3 R3 ⟨a, by
    show (W.ρ ++ [a])[st.length]? = some a
    rw [← R.len, List.getElem?_append_right (Nat.le_refl _), Nat.sub_self]; rfl, rfl⟩
end
end Mi
/-! Xk4 -/
namespace L2
open  PySem PySem.Spec PyProof.Rows
/-- e.n, e an exception that is kept -/
def tXg (K : PySem.W.Frag) (f : Str) (te : TE) : TE := fun σ H Q => te σ H fun x H1 => ∃ (a C dd : Addr) (fs : List (Str × V)) (v : V), x = .ref a ∧ XfC K C ∧ PySem.W.findIn K (.ref C) f = some none ∧ H1 a = some (exo a C (some dd)) ∧ H1 dd = some (.xd fs) ∧ fs.lookup f = some v ∧ Q v H1
theorem pe_xg {X : Cx} {e : Expr} {te : TE} {pos : Pos} {n : Str} (he : PE X e te) (hb : attributeBase e n X.env (eval e X.env) = eval e X.env := by rfl) : PE X (.Attribute e n pos) (tXg X.K n te) := by
  refine  ⟨fun pins s σ H Q I h => ?_⟩
  refine  attr_of hb (thn (he.run pins s σ H _ I h) fun u s1 hh => ?_)
  obtain ⟨x, H1, I1, rx, a, C, dd, fs, v, ex, T, hno, ha, ea, l, q⟩ := hh
  subst ex
  obtain  rfl : u = Value.ref a := rx
  obtain ⟨t1, hget⟩ := exo_at I1.hok ha
  have  hx : ObjOk X.prog X.w H1 s1.heap dd (.xd fs) := I1.hok dd _ ea
  obtain ⟨mA, hns, hr⟩ := hx
  obtain  ⟨od, ho, hl⟩ := lookIn_ns hns
  obtain  ⟨u, hu, ru⟩ := RelO.some_of (v := v) (o := mA n) (by rw [← l]; exact hr n)
  have J : PySem.W.InstAt s1.heap a _ C (some od) := ⟨hget, rfl, rfl, ho⟩
  exact  HandSPX.exc_get I1.kIn J T.ga T.gg T.exC (PySem.W.findObj_own T.hdC hno rfl (by rw [hl, hu])) (handed_of ru) ⟨v, H1, I1.tok _, ru, q⟩
end L2
namespace Mi
open L2 PySem PySem.Spec PyProof.Rows
section
variable {X : Cx} {Wx : WX} {e : Expr} {f : Env → Sto → Res D} {x n : Str} {p pos pos' : Pos}
/-- e.n, e of one of these classes -/
def xgM (cs : Addr → Bool) (n : Str) (f : Env → Sto → Res D) (env : Env) (st : Sto) : Res D := (f env st).bind fun d s => match d with
  | .r m => match s[m]? with
    | some (.exc C fs) => if cs C = true then optR (fs.lookup n) s else .bad
    | _ => .bad
  | _ => .bad
theorem re_xg {cs : Addr → Bool} (T : ∀ C, cs C = true → XfC X.K C ∧ PySem.W.findIn X.K (.ref C) n = some none) (he : RE X Wx e f) (hb : attributeBase e n X.env (eval e X.env) = eval e X.env := by rfl) : RE X Wx (.Attribute e n pos) (xgM cs n f) := by
  refine PE.conv (pe_xg he hb) fun σ H Q ⟨W, env, st, R, Ev, h⟩ => ⟨W, env, st, R, Ev, split h (fun z s h1 W1 H1 v E1 R1 r1 => ?_) fun C fs st' hx => hx⟩
  cases z with
  | t => exact h1.elim
  | x => exact h1.elim
  | r m =>
    obtain ⟨a, ea, rfl⟩ := r1
    dsimp only at h1
    cases e1 : s[m]? with
    | none => rw [e1] at h1; exact h1.elim
    | some o =>
      rw [e1] at h1
      cases o with
      | exc C fs =>
        dsimp only at h1
        split at h1
        · rename_i c
          obtain ⟨u, e2, q⟩ := optR_holds h1
          obtain ⟨d, vs, ha, hd, rk⟩ := R1.live m a _ ea e1
          obtain ⟨t1, t2⟩ := T C c
          have key : ∀ {fs : List (Str × D)} {vs : List (Str × V)}, RelKs X.K W1 H1 fs vs → fs.lookup n = some u → ∃ v, vs.lookup n = some v ∧ RelD X.K W1 H1 u v := by
            intro fs
            induction fs with
            | nil => intro vs _ h; cases h
            | cons q r ih =>
              intro vs h1 h2
              obtain ⟨k, d⟩ := q
              obtain ⟨v, w, rfl, ra, rb⟩ := h1
              rw [L2.lookup_put]
              by_cases hk : n = k
              · subst hk
                have h2 : some d = some u := by rw [← h2]; simp [List.lookup]
                cases h2
                exact ⟨v, if_pos rfl, ra⟩
              · have hnk : (n == k) = false := by simpa using hk
                have h2 : r.lookup n = some u := by rw [← h2]; simp [List.lookup, hnk]
                rw [if_neg hk]
                exact ih rb h2
          obtain ⟨v, l, rv⟩ := key rk e2
          rcases hd with ⟨rfl, _⟩ | ⟨dx, rfl, hx⟩
          · cases e2
          · exact ⟨a, C, dx, vs, v, rfl, t1, t2, ha, hx, l, q W1 H1 v E1 R1 rv⟩
        · exact h1.elim
      | _ => exact h1.elim
/-! ### isinstance of such -/
/-- what the written part says of its class -/
structure XIs (K : PySem.W.Frag) (C : Addr) : Prop where
  xf : XfC K C
  ca  : PySem.W.findIn K (.ref C) "__class__" = some (some (.builtin "object.__class__"))
  sp : PySem.W.specialIn K (.builtin "object.__class__") "__get__" = some (some (.builtin "getset_descriptor.__get__"))
  tk : PySem.W.takesIn K (.builtin "object.__class__") = some true
  mr : PySem.W.mroIn K C (.type "object") = some true
/-- isinstance(e, B): B an own class, or a built-in one -/
def isXE (B : Addr) (l : List (Addr × Bool)) (ds : List D) (st : Sto) : Option D := match ds with
  | [.r m, .t (.glb b)] => match st[m]? with
    | some (.exc C _) => if b = B then (lkB C l).map bD else none
    | _ => none
  | _ => none
def isXT (n : String) (l : List (Addr × Bool)) (ds : List D) (st : Sto) : Option D := match ds with
  | [.r m, .t (.ty b)] => match st[m]? with
    | some (.exc C _) => if b = n then (lkB C l).map bD else none
    | _ => none
  | _ => none
theorem isx_core {K : PySem.W.Frag} {pins : List (Addr × Obj)} {s : Shared} {σ : L2.St} {H : Hp} {m : Nat} {a C : Addr} {fs : List (Str × D)} {W : Wd} {st : Sto} {b : Bool} {cv : Value} {Q : VK} (I : Inv X pins σ H s) (T : XIs X.K C) (R : Rl X.K W st H) (ea : W.ρ[m]? = some a) (e1 : st[m]? = some (.exc C fs)) (hk : PySem.W.kitOne X.K (.ref C) cv = some b) (hq : Q (.bl b) H) :
    wpAny (model X.prog X.w) X.A (call (.builtin "isinstance") [.ref a, cv]) (EP X pins σ Q) X.xe s := by
  obtain ⟨d, vs, ha, hd, rk⟩ := R.live m a _ ea e1
  obtain ⟨t1, hget⟩ := exo_at I.hok ha
  have J : ∃ od, PySem.W.InstAt s.heap a { cls := .ref C, dict := d, data := .fields #[.ref t1, .none, .none, .none, .bool false, .none] } C od := by
    rcases hd with ⟨_, rfl⟩ | ⟨dx, rfl, hx⟩
    · exact ⟨none, hget, rfl, rfl, trivial⟩
    · have hx2 : ObjOk X.prog X.w H s.heap dx (.xd vs) := I.hok dx _ hx
      obtain ⟨mA, hns, hr⟩ := hx2
      obtain  ⟨od, ho, hl⟩ := lookIn_ns hns
      exact ⟨some od, hget, rfl, rfl, ho⟩
  obtain ⟨od, J⟩ := J
  have Z := PySem.W.kitx_exc (x := a) (ox := { cls := .ref C, dict := d, data := .fields #[.ref t1, .none, .none, .none, .bool false, .none] }) (od := od) (by obtain ⟨cd, hc, _⟩ := PySem.W.any_some T.xf.hdC; rw [hc]; rfl) T.xf.ga T.xf.gg T.xf.exC T.ca T.sp T.tk T.mr
  exact PySem.W.kia_one Z I.kIn J hk (fun z => nomatch z) fun tk => ⟨.bl b, H, I.kept (t' := tk) fun _ _ z => z, rfl, hq⟩
theorem c_isXE {B : Addr} {l : List (Addr × Bool)} (h : AllB (fun C b => XIs X.K C ∧ PySem.W.kitOne X.K (.ref C) (.ref B) = some b) l) : CallR X (.builtin "isinstance") (rC X.K (isXE B l)) := by
  intro pins s σ H xs us Q I r ⟨W, st, ds, R, r1, z, e1, q⟩
  unfold isXE at e1
  split at e1
  · rename_i m b
    split at e1
    · rename_i C fs e2
      split at e1
      · rename_i c
        subst c
        cases e3 : lkB C l with
        | none => rw [e3] at e1; cases e1
        | some k =>
          rw [e3] at e1
          cases e1
          obtain ⟨T, hk⟩ := lkB_all (P := fun C b' => XIs X.K C ∧ PySem.W.kitOne X.K (.ref C) (.ref b) = some b') h e3
          obtain ⟨v, w, rfl, ra, rb⟩ := rel2 r1
          cases rb
          obtain ⟨a, ea, rfl⟩ := ra
          cases r with
          | cons rx rr =>
            cases rr with
            | cons rt rr =>
              cases rr
              cases rx
              cases rt
              exact isx_core (K := X.K) I T R ea e2 hk (q W H _ .refl R rfl)
      · cases e1
    · cases e1
  · cases e1
theorem c_isXT {n : String} {l : List (Addr × Bool)} (h : AllB (fun C b => XIs X.K C ∧ PySem.W.kitOne X.K (.ref C) (.type n) = some b) l) : CallR X (.builtin "isinstance") (rC X.K (isXT n l)) := by
  intro pins s σ H xs us Q I r ⟨W, st, ds, R, r1, z, e1, q⟩
  unfold isXT at e1
  split at e1
  · rename_i m b
    split at e1
    · rename_i C fs e2
      split at e1
      · rename_i c
        subst c
        cases e3 : lkB C l with
        | none => rw [e3] at e1; cases e1
        | some k =>
          rw [e3] at e1
          cases e1
          obtain ⟨T, hk⟩ := lkB_all (P := fun C b' => XIs X.K C ∧ PySem.W.kitOne X.K (.ref C) (.type b) = some b') h e3
          obtain ⟨v, w, rfl, ra, rb⟩ := rel2 r1
          cases rb
          obtain ⟨a, ea, rfl⟩ := ra
          cases r with
          | cons rx rr =>
            cases rr with
            | cons rt rr =>
              cases rr
              cases rx
              cases rt
              exact isx_core (K := X.K) I T R ea e2 hk (q W H _ .refl R rfl)
      · cases e1
    · cases e1
  · cases e1
end
/-! ### != of lists that hold changed lists -/
def neXM (d e : D) (st : Sto) : Option D := (eqX d e st).map fun b => bD (!b)
end Mi
/-! Xk5 -/
namespace Mi
open L2 PySem PySem.Spec PyProof.Rows
theorem o_neX {X : Cx} (hu : X.A.units + 64 < cLine) : OpR X (compareOp .NotEq) (rM X.K neXM) := by
  have ho : OpR X (compareOp .NotEq) _ := OpR.or op_ne (op_neD hu)
  refine op_of ho fun W st d e x y H Q z R r1 r2 h q => ?_
  unfold neXM eqX at h
  cases e1 : eqB d e st with
  | some b =>
    rw [e1] at h
    cases h
    rcases eqB_rel R e1 r1 r2 with ⟨h1, h2⟩ | ⟨p, k, h1, h2, h3, h4, h5⟩
    · exact .inl ⟨h1, by rw [h2]; exact q W H _ .refl R rfl⟩
    · exact .inr ⟨p, k, h1, h2, h3, h4, by rw [h5]; exact q W H _ .refl R rfl⟩
  | none =>
    rw [e1] at h
    dsimp only at h
    cases e2 : pyX 3 st d with
    | none => rw [e2] at h; cases h
    | some p =>
      cases e3 : pyX 3 st e with
      | none => rw [e2, e3] at h; cases h
      | some k =>
        rw [e2, e3] at h
        have h : (if (SeqAt.shaped p && SeqAt.shaped k) = true then some (PyData.eqv p k) else none).map (fun b => bD (!b)) = some z := h
        split at h
        · rename_i c
          rw [Bool.and_eq_true] at c
          cases h
          exact .inr ⟨p, k, dpX_of R 3 e2 r1, dpX_of R 3 e3 r2, c.1, c.2, q W H _ .refl R rfl⟩
        · cases h
/-! ### for i, e in enumerate(a list whatever it holds) -/
def nthE (d : D) (st : Sto) (i : Nat) : Option (Option D) := (items st d).map fun ds => ds[i]?
def forEI (i j : Nat) (body : Env → Sto → Out) (d : D) : Nat → Nat → Env → Sto → Out
  | 0, k, env, st => match nthE d st k with
    | some none => .nx env st
    | _ => .bad
  | m + 1, k, env, st => match nthE d st k with
    | some none => .nx env st
    | some (some x) => match body ((env.set i (some (.t (.int (k : Nat))))).set j (some x)) st with
      | .nx e s => forEI i j body d m (k + 1) e s
      | .ct e s => forEI i j body d m (k + 1) e s
      | .bk e s => .nx e s
      | .rt d s => .rt d s
      | .exc C fs e s => .exc C fs e s
      | .bad => .bad
    | none => .bad
def forE (i j : Nat) (f : Env → Sto → Res D) (body : Env → Sto → Out) (env : Env) (st : Sto) : Out := (f env st).out env fun d s => match d with
  | .r n => match lsq s (.r n) with
    | some ds => forEI i j body (.r n) ds.length 0 env s
    | none => .bad
  | _ => .bad
section
variable {X : Cx} {Wx : WX} {g : Env → Sto → Out} {e : Expr} {f : Env → Sto → Res D} {pos : Pos}
theorem rs_forE {i j : Nat} {x y : Str} {px py pt p pos' : Pos} {kk : Nat} {body : List Stmt} (hp : PassesOwn (model X.prog X.w) X.A X.env X.xe) (hc : X.calm = true) (hg : Gl X "enumerate") (hm : X.mg "enumerate" = none) (he : RE X Wx e f) (hN : X.N.Nodup) (hi : X.N[i]? = some x) (hj : X.N[j]? = some y)
    (hx : Loc X.env.scope x) (hy : Loc X.env.scope y) (hb : RSs X Wx body g)
    (fx : X.fn x = true ∨ X.env.scope.names.lookup x = some .local := by first | exact .inl rfl | exact .inr rfl | assumption) (fy : X.fn y = true ∨ X.env.scope.names.lookup y = some .local := by first | exact .inl rfl | exact .inr rfl | assumption)
    (hs1 : starEach [e] X.env = [(false, eval e X.env)] := by rfl) (hs : ∀ x, foldedSetIterable (.Call (.Name "enumerate" p) [e] [] pos') X.env x = pure x := by intro _; rfl)
    (h1 : (assignEach [.Name x px, .Name y py] X.env).length = 2 := by rfl) (h2 : (assignEach [.Name x px, .Name y py] X.env).findIdx? (·.1) = none := by rfl)
    (h3 : (assignEach [.Name x px, .Name y py] X.env).map (·.2) = assign (.Name x px) X.env :: (assignEach [.Name y py] X.env).map (·.2) := by rfl) (h4 : (assignEach [.Name y py] X.env).map (·.2) = assign (.Name y py) X.env :: (assignEach [] X.env).map (·.2) := by rfl) :
    RS X Wx (.For (.Tuple [.Name x px, .Name y py] kk pt) (.Call (.Name "enumerate" p) [e] [] pos') body [] pos) (forE i j f g) := by
  refine PS.conv (ps_for hp hc (pi_enum hg hm (ra_cons he ra_nil hs1) hs1) (pg_tup hc (pgs_cons (pg_name hN hi hx fx) (pgs_cons (pg_name hN hj hy fy) pgs_nil h4) h3) h1 h2) hb hs) fun E σ H ⟨W, env, st, R, Ev, h⟩ => ⟨W, env, st, R, Ev, ?_⟩
  have sp := out_split (A := fun d s => (match d with
    | .r n => match lsq s (.r n) with
      | some ds => forEI i j g (.r n) ds.length 0 env s
      | none => .bad
    | _ => .bad).Holds X.K Wx E W H) (show ((f env st).out env fun d s => match d with
    | .r n => match lsq s (.r n) with
      | some ds => forEI i j g (.r n) ds.length 0 env s
      | none => .bad
    | _ => .bad).Holds X.K Wx E W H from h) Ev R fun d s hh => hh
  show ((f env st).bind fun d st1 => (argsM [] env st1).bind fun ds st2 => .ok (d :: ds) st2).Holds _ _
  cases q : f env st with
  | bad => rw [q] at sp; exact sp
  | exc C' fs s => rw [q] at sp; exact sp
  | ok d s =>
    rw [q] at sp
    cases d with
    | t => exact sp.elim
    | x => exact sp.elim
    | r n =>
      intro W1 H1 vs E1 R1 r1
      obtain ⟨v, u, rfl, rv, ru⟩ := r1
      cases ru
      obtain ⟨a, en, rfl⟩ := rv
      have sp : (match lsq s (.r n) with
        | some ds => forEI i j g (.r n) ds.length 0 env s
        | none => .bad).Holds X.K Wx E W H := sp
      cases q2 : lsq s (.r n) with
      | none => rw [q2] at sp; exact sp.elim
      | some ds0 =>
        rw [q2] at sp
        obtain ⟨a', ws, ee, sq, _⟩ := lsq_rel R1 q2 ⟨a, en, rfl⟩
        cases ee
        refine ⟨a, ws, rfl, sq, ?_⟩
        refine ⟨fun k m σ H2 => ∃ W2 env2 st2, Ext W1 H1 W2 H2 ∧ Rl X.K W2 st2 H2 ∧ EnvR X.K W2 H2 env2 σ ∧ (forEI i j g (.r n) m k env2 st2).Holds X.K Wx E W2 H2, ⟨ds0.length, W1, env, s, .refl, R1, Ev.mono E1 R, Out.Holds.mono sp E1⟩, ?_⟩
        rintro k m σ2 H2 ⟨W2, env2, st2, E2, R2, Ev2, h2⟩
        have en2 : W2.ρ[n]? = some a := pre_get E2.pre en
        have get : ∀ ds, items st2 (.r n) = some ds → ∃ vs, SqL X.K H2 a vs ∧ RelDs X.K W2 H2 ds vs := fun ds e1 => by
          obtain ⟨a', vs, e3, s, rr⟩ := lsq_rel R2 (show lsq st2 (.r n) = some ds from e1) ⟨a, en2, rfl⟩
          cases e3
          exact ⟨vs, s, rr⟩
        have stop : nthE (.r n) st2 k = some none → (forEI i j g (.r n) m k env2 st2) = .nx env2 st2 := fun q => by
          cases m with
          | zero => unfold forEI; rw [q]
          | succ m => unfold forEI; rw [q]
        cases q3 : items st2 (.r n) with
        | none =>
          exfalso
          have qn : nthE (.r n) st2 k = none := by unfold nthE; rw [q3]; rfl
          cases m with
          | zero => unfold forEI at h2; rw [qn] at h2; exact h2
          | succ m => unfold forEI at h2; rw [qn] at h2; exact h2
        | some ds =>
          obtain ⟨vs, sq2, rr⟩ := get ds q3
          cases q4 : ds[k]? with
          | none =>
            have qn : nthE (.r n) st2 k = some none := by unfold nthE; rw [q3]; show some ds[k]? = _; rw [q4]
            rw [stop qn] at h2
            refine .inl ⟨⟨vs, sq2, ?_⟩, h2 W2 σ2 H2 .refl R2 Ev2⟩
            rw [relDs_len rr]
            exact List.getElem?_eq_none_iff.mp q4
          | some x0 =>
            have qn : nthE (.r n) st2 k = some (some x0) := by unfold nthE; rw [q3]; show some ds[k]? = _; rw [q4]
            cases m with
            | zero => exfalso; unfold forEI at h2; rw [qn] at h2; exact h2
            | succ m =>
              obtain ⟨v0, e0, rv0⟩ := relDs_get rr q4
              refine .inr ⟨⟨vs, v0, sq2, e0⟩, fun σ' H' => ∃ W2 env2 st2, Ext W1 H1 W2 H' ∧ Rl X.K W2 st2 H' ∧ EnvR X.K W2 H' env2 σ' ∧ (forEI i j g (.r n) m (k + 1) env2 st2).Holds X.K Wx E W2 H', fun σ' H' h => ⟨m, Nat.lt_succ_self m, h⟩, fun z H3 hy3 => ?_⟩
              obtain ⟨T, w, rfl, hT, rfl, hw⟩ := hy3
              have e4 : w = v0 := Option.some.inj ((hw vs sq2).symm.trans e0)
              subst e4
              have E3 : Ext W2 H2 W2 (upd H2 T (.tup [.int (k : Nat), w])) := R2.more hT
              have R3 : Rl X.K W2 st2 (upd H2 T (.tup [.int (k : Nat), w])) := R2.rest hT
              refine ⟨T, [.int (k : Nat), w], rfl, .inl (.inl upd_same), rfl, .int (k : Nat), [w], rfl, w, [], rfl, rfl, ?_⟩
              unfold forEI at h2
              simp only [qn] at h2
              have Ev3 : EnvR X.K W2 (upd H2 T (.tup [.int (k : Nat), w])) ((env2.set i (some (.t (.int (k : Nat))))).set j (some x0)) ((σ2.set i (some (.int (k : Nat)))).set j (some w)) := ((Ev2.mono E3 R2).set i (show RelD X.K W2 (upd H2 T (.tup [.int (k : Nat), w])) (.t (.int (k : Nat))) (.int (k : Nat)) from rfl)).set j (E3.relD R2 rv0)
              refine ⟨W2, (env2.set i (some (.t (.int (k : Nat))))).set j (some x0), st2, R3, Ev3, ?_⟩
              cases q5 : g ((env2.set i (some (.t (.int (k : Nat))))).set j (some x0)) st2 with
              | nx e s => rw [q5] at h2; exact fun W' σ' H' E' R' V' => ⟨W', e, s, E2.trans (E3.trans E'), R', V', Out.Holds.mono h2 (E3.trans E')⟩
              | ct e s => rw [q5] at h2; exact fun W' σ' H' E' R' V' => ⟨W', e, s, E2.trans (E3.trans E'), R', V', Out.Holds.mono h2 (E3.trans E')⟩
              | bk e s => rw [q5] at h2; exact Out.Holds.mono (o := .nx e s) h2 E3
              | rt d s => rw [q5] at h2; exact Out.Holds.mono (o := .rt d s) h2 E3
              | exc C fs e s => rw [q5] at h2; exact Out.Holds.mono (o := .exc C fs e s) h2 E3
              | bad => rw [q5] at h2; exact h2.elim
end
end Mi
/-! K03 -/
namespace K03
open L2 RZ Mi PySem PySem.Spec PyProof.Rows
noncomputable section
def topS (i : Nat) : Stmt := PySem.Challenge.pw_interruptruns_k03_error_classes.main.body.getD i (.Pass ⟨0, 0, 0, 0⟩)
abbrev s_law_made : Stmt := topS 17
theorem sc_law_made : FnScope ["_law_x", "_law_first"] ["_law_x"] (defScope s_law_made) := ⟨rfl, rfl, rfl, by decide +kernel, rfl, by decide +kernel, by decide +kernel⟩
abbrev s_law_named : Stmt := topS 18
theorem sc_law_named : FnScope ["_law_x", "_law_first"] ["_law_x"] (defScope s_law_named) := ⟨rfl, rfl, rfl, by decide +kernel, rfl, by decide +kernel, by decide +kernel⟩
abbrev s_law_signs : Stmt := topS 19
theorem sc_law_signs : FnScope ["_law_e", "_law_signs_here"] ["_law_e"] (defScope s_law_signs) := ⟨rfl, rfl, rfl, by decide +kernel, rfl, by decide +kernel, by decide +kernel⟩
abbrev s_law : Stmt := topS 20
theorem sc_law : FnScope ["_law_script", "_law_x", "_law_some", "_law_fields", "_law_at", "_law_e", "_law_place"] ["_law_script"] (defScope s_law) := ⟨rfl, rfl, rfl, by decide +kernel, rfl, by decide +kernel, by decide +kernel⟩
structure XC where
  InvalidName : Addr
  InvalidNumber : Addr
  InvalidBody : Addr
  InvalidProgram : Addr
  InvalidState : Addr
  InvalidChoice : Addr
  InvalidEvent : Addr
  InvalidLimits : Addr
  InvalidLog : Addr
  InvalidCommand : Addr
  ParseError : Addr
  TooMany : Addr
  NothingToUndo : Addr
  NothingToRedo : Addr
  RunError : Addr
abbrev s_init_InvalidBody : Stmt := (clsB (topS 4)).getD 0 (.Pass ⟨0, 0, 0, 0⟩)
theorem sc_init_InvalidBody : FnScope ["self", "value"] ["self", "value"] (defScope s_init_InvalidBody) := ⟨rfl, rfl, rfl, by decide +kernel, rfl, by decide +kernel, by decide +kernel⟩
abbrev s_init_InvalidChoice : Stmt := (clsB (topS 7)).getD 0 (.Pass ⟨0, 0, 0, 0⟩)
theorem sc_init_InvalidChoice : FnScope ["self", "value"] ["self", "value"] (defScope s_init_InvalidChoice) := ⟨rfl, rfl, rfl, by decide +kernel, rfl, by decide +kernel, by decide +kernel⟩
abbrev s_init_InvalidCommand : Stmt := (clsB (topS 11)).getD 0 (.Pass ⟨0, 0, 0, 0⟩)
theorem sc_init_InvalidCommand : FnScope ["self", "value"] ["self", "value"] (defScope s_init_InvalidCommand) := ⟨rfl, rfl, rfl, by decide +kernel, rfl, by decide +kernel, by decide +kernel⟩
abbrev s_init_InvalidEvent : Stmt := (clsB (topS 8)).getD 0 (.Pass ⟨0, 0, 0, 0⟩)
theorem sc_init_InvalidEvent : FnScope ["self", "value"] ["self", "value"] (defScope s_init_InvalidEvent) := ⟨rfl, rfl, rfl, by decide +kernel, rfl, by decide +kernel, by decide +kernel⟩
abbrev s_init_InvalidLimits : Stmt := (clsB (topS 9)).getD 0 (.Pass ⟨0, 0, 0, 0⟩)
theorem sc_init_InvalidLimits : FnScope ["self", "value"] ["self", "value"] (defScope s_init_InvalidLimits) := ⟨rfl, rfl, rfl, by decide +kernel, rfl, by decide +kernel, by decide +kernel⟩
abbrev s_init_InvalidLog : Stmt := (clsB (topS 10)).getD 0 (.Pass ⟨0, 0, 0, 0⟩)
theorem sc_init_InvalidLog : FnScope ["self", "value"] ["self", "value"] (defScope s_init_InvalidLog) := ⟨rfl, rfl, rfl, by decide +kernel, rfl, by decide +kernel, by decide +kernel⟩
abbrev s_init_InvalidName : Stmt := (clsB (topS 2)).getD 0 (.Pass ⟨0, 0, 0, 0⟩)
theorem sc_init_InvalidName : FnScope ["self", "value"] ["self", "value"] (defScope s_init_InvalidName) := ⟨rfl, rfl, rfl, by decide +kernel, rfl, by decide +kernel, by decide +kernel⟩
abbrev s_init_InvalidNumber : Stmt := (clsB (topS 3)).getD 0 (.Pass ⟨0, 0, 0, 0⟩)
theorem sc_init_InvalidNumber : FnScope ["self", "value"] ["self", "value"] (defScope s_init_InvalidNumber) := ⟨rfl, rfl, rfl, by decide +kernel, rfl, by decide +kernel, by decide +kernel⟩
abbrev s_init_InvalidProgram : Stmt := (clsB (topS 5)).getD 0 (.Pass ⟨0, 0, 0, 0⟩)
theorem sc_init_InvalidProgram : FnScope ["self", "value"] ["self", "value"] (defScope s_init_InvalidProgram) := ⟨rfl, rfl, rfl, by decide +kernel, rfl, by decide +kernel, by decide +kernel⟩
abbrev s_init_InvalidState : Stmt := (clsB (topS 6)).getD 0 (.Pass ⟨0, 0, 0, 0⟩)
theorem sc_init_InvalidState : FnScope ["self", "value"] ["self", "value"] (defScope s_init_InvalidState) := ⟨rfl, rfl, rfl, by decide +kernel, rfl, by decide +kernel, by decide +kernel⟩
abbrev s_init_ParseError : Stmt := (clsB (topS 12)).getD 0 (.Pass ⟨0, 0, 0, 0⟩)
theorem sc_init_ParseError : FnScope ["self", "line"] ["self", "line"] (defScope s_init_ParseError) := ⟨rfl, rfl, rfl, by decide +kernel, rfl, by decide +kernel, by decide +kernel⟩
abbrev s_init_TooMany : Stmt := (clsB (topS 13)).getD 0 (.Pass ⟨0, 0, 0, 0⟩)
theorem sc_init_TooMany : FnScope ["self", "limit"] ["self", "limit"] (defScope s_init_TooMany) := ⟨rfl, rfl, rfl, by decide +kernel, rfl, by decide +kernel, by decide +kernel⟩
def b_law_made (xc : XC) : Mi.Env → Sto → Out :=
  seqM (setM 1 (newM [exM xc.InvalidName "value" [eVar 0], exM xc.InvalidNumber "value" [eVar 0], exM xc.InvalidBody "value" [eVar 0], exM xc.InvalidProgram "value" [eVar 0], exM xc.InvalidState "value" [eVar 0]]))
    (seqM (setM 1 (binN addN (eVar 1) (newM [exM xc.InvalidChoice "value" [eVar 0], exM xc.InvalidEvent "value" [eVar 0], exM xc.InvalidLimits "value" [eVar 0], exM xc.InvalidLog "value" [eVar 0]])))
    (retM (binN addN (eVar 1) (newM [exM xc.InvalidCommand "value" [eVar 0], exM xc.ParseError "line" [eVar 0], exM xc.TooMany "limit" [eVar 0], ex0M xc.NothingToUndo, ex0M xc.NothingToRedo]))))
def m_law_made (xc : XC) : List D → Sto → Res D := defG 2 (b_law_made xc)
def b_law_named (xc : XC) : Mi.Env → Sto → Out :=
  seqM (setM 1 (newM [exM xc.InvalidName "value" [eVar 0], exM xc.InvalidNumber "value" [eVar 0], exM xc.InvalidBody "value" [eVar 0]]))
    (seqM (dropM (methM "list" appG (eVar 1) [exM xc.InvalidProgram "value" [eVar 0]]))
    (seqM (setM 1 (binN addN (eVar 1) (newM [exM xc.InvalidState "value" [eVar 0], exM xc.InvalidChoice "value" [eVar 0], exM xc.InvalidEvent "value" [eVar 0]])))
    (seqM (setM 1 (binN addN (eVar 1) (newM [exM xc.InvalidLimits "value" [eVar 0], exM xc.InvalidLog "value" [eVar 0], exM xc.InvalidCommand "value" [eVar 0]])))
    (retM (binN addN (eVar 1) (newM [exM xc.ParseError "line" [eVar 0], exM xc.TooMany "limit" [eVar 0], ex0M xc.NothingToUndo, ex0M xc.NothingToRedo]))))))
def m_law_named (xc : XC) : List D → Sto → Res D := defG 2 (b_law_named xc)
def b_law_signs (xc : XC) : Mi.Env → Sto → Out :=
  seqM (setM 1 (newM [callB (isXE xc.InvalidName [(xc.InvalidName, true), (xc.InvalidNumber, false), (xc.InvalidBody, false), (xc.InvalidProgram, false), (xc.InvalidState, false), (xc.InvalidChoice, false), (xc.InvalidEvent, false), (xc.InvalidLimits, false), (xc.InvalidLog, false), (xc.InvalidCommand, false), (xc.ParseError, false), (xc.TooMany, false), (xc.NothingToUndo, false), (xc.NothingToRedo, false)]) [eVar 0, eC (.glb xc.InvalidName)], callB (isXE xc.InvalidNumber [(xc.InvalidName, false), (xc.InvalidNumber, true), (xc.InvalidBody, false), (xc.InvalidProgram, false), (xc.InvalidState, false), (xc.InvalidChoice, false), (xc.InvalidEvent, false), (xc.InvalidLimits, false), (xc.InvalidLog, false), (xc.InvalidCommand, false), (xc.ParseError, false), (xc.TooMany, false), (xc.NothingToUndo, false), (xc.NothingToRedo, false)]) [eVar 0, eC (.glb xc.InvalidNumber)], callB (isXE xc.InvalidBody [(xc.InvalidName, false), (xc.InvalidNumber, false), (xc.InvalidBody, true), (xc.InvalidProgram, false), (xc.InvalidState, false), (xc.InvalidChoice, false), (xc.InvalidEvent, false), (xc.InvalidLimits, false), (xc.InvalidLog, false), (xc.InvalidCommand, false), (xc.ParseError, false), (xc.TooMany, false), (xc.NothingToUndo, false), (xc.NothingToRedo, false)]) [eVar 0, eC (.glb xc.InvalidBody)]]))
    (seqM (setM 1 (binN addN (eVar 1) (newM [callB (isXE xc.InvalidProgram [(xc.InvalidName, false), (xc.InvalidNumber, false), (xc.InvalidBody, false), (xc.InvalidProgram, true), (xc.InvalidState, false), (xc.InvalidChoice, false), (xc.InvalidEvent, false), (xc.InvalidLimits, false), (xc.InvalidLog, false), (xc.InvalidCommand, false), (xc.ParseError, false), (xc.TooMany, false), (xc.NothingToUndo, false), (xc.NothingToRedo, false)]) [eVar 0, eC (.glb xc.InvalidProgram)], callB (isXE xc.InvalidState [(xc.InvalidName, false), (xc.InvalidNumber, false), (xc.InvalidBody, false), (xc.InvalidProgram, false), (xc.InvalidState, true), (xc.InvalidChoice, false), (xc.InvalidEvent, false), (xc.InvalidLimits, false), (xc.InvalidLog, false), (xc.InvalidCommand, false), (xc.ParseError, false), (xc.TooMany, false), (xc.NothingToUndo, false), (xc.NothingToRedo, false)]) [eVar 0, eC (.glb xc.InvalidState)], callB (isXE xc.InvalidChoice [(xc.InvalidName, false), (xc.InvalidNumber, false), (xc.InvalidBody, false), (xc.InvalidProgram, false), (xc.InvalidState, false), (xc.InvalidChoice, true), (xc.InvalidEvent, false), (xc.InvalidLimits, false), (xc.InvalidLog, false), (xc.InvalidCommand, false), (xc.ParseError, false), (xc.TooMany, false), (xc.NothingToUndo, false), (xc.NothingToRedo, false)]) [eVar 0, eC (.glb xc.InvalidChoice)]])))
    (seqM (setM 1 (binN addN (eVar 1) (newM [callB (isXE xc.InvalidEvent [(xc.InvalidName, false), (xc.InvalidNumber, false), (xc.InvalidBody, false), (xc.InvalidProgram, false), (xc.InvalidState, false), (xc.InvalidChoice, false), (xc.InvalidEvent, true), (xc.InvalidLimits, false), (xc.InvalidLog, false), (xc.InvalidCommand, false), (xc.ParseError, false), (xc.TooMany, false), (xc.NothingToUndo, false), (xc.NothingToRedo, false)]) [eVar 0, eC (.glb xc.InvalidEvent)], callB (isXE xc.InvalidLimits [(xc.InvalidName, false), (xc.InvalidNumber, false), (xc.InvalidBody, false), (xc.InvalidProgram, false), (xc.InvalidState, false), (xc.InvalidChoice, false), (xc.InvalidEvent, false), (xc.InvalidLimits, true), (xc.InvalidLog, false), (xc.InvalidCommand, false), (xc.ParseError, false), (xc.TooMany, false), (xc.NothingToUndo, false), (xc.NothingToRedo, false)]) [eVar 0, eC (.glb xc.InvalidLimits)], callB (isXE xc.InvalidLog [(xc.InvalidName, false), (xc.InvalidNumber, false), (xc.InvalidBody, false), (xc.InvalidProgram, false), (xc.InvalidState, false), (xc.InvalidChoice, false), (xc.InvalidEvent, false), (xc.InvalidLimits, false), (xc.InvalidLog, true), (xc.InvalidCommand, false), (xc.ParseError, false), (xc.TooMany, false), (xc.NothingToUndo, false), (xc.NothingToRedo, false)]) [eVar 0, eC (.glb xc.InvalidLog)]])))
    (seqM (setM 1 (binN addN (eVar 1) (newM [callB (isXE xc.InvalidCommand [(xc.InvalidName, false), (xc.InvalidNumber, false), (xc.InvalidBody, false), (xc.InvalidProgram, false), (xc.InvalidState, false), (xc.InvalidChoice, false), (xc.InvalidEvent, false), (xc.InvalidLimits, false), (xc.InvalidLog, false), (xc.InvalidCommand, true), (xc.ParseError, false), (xc.TooMany, false), (xc.NothingToUndo, false), (xc.NothingToRedo, false)]) [eVar 0, eC (.glb xc.InvalidCommand)], callB (isXE xc.ParseError [(xc.InvalidName, false), (xc.InvalidNumber, false), (xc.InvalidBody, false), (xc.InvalidProgram, false), (xc.InvalidState, false), (xc.InvalidChoice, false), (xc.InvalidEvent, false), (xc.InvalidLimits, false), (xc.InvalidLog, false), (xc.InvalidCommand, false), (xc.ParseError, true), (xc.TooMany, false), (xc.NothingToUndo, false), (xc.NothingToRedo, false)]) [eVar 0, eC (.glb xc.ParseError)], callB (isXE xc.TooMany [(xc.InvalidName, false), (xc.InvalidNumber, false), (xc.InvalidBody, false), (xc.InvalidProgram, false), (xc.InvalidState, false), (xc.InvalidChoice, false), (xc.InvalidEvent, false), (xc.InvalidLimits, false), (xc.InvalidLog, false), (xc.InvalidCommand, false), (xc.ParseError, false), (xc.TooMany, true), (xc.NothingToUndo, false), (xc.NothingToRedo, false)]) [eVar 0, eC (.glb xc.TooMany)]])))
    (retM (binN addN (eVar 1) (newM [callB (isXE xc.NothingToUndo [(xc.InvalidName, false), (xc.InvalidNumber, false), (xc.InvalidBody, false), (xc.InvalidProgram, false), (xc.InvalidState, false), (xc.InvalidChoice, false), (xc.InvalidEvent, false), (xc.InvalidLimits, false), (xc.InvalidLog, false), (xc.InvalidCommand, false), (xc.ParseError, false), (xc.TooMany, false), (xc.NothingToUndo, true), (xc.NothingToRedo, false)]) [eVar 0, eC (.glb xc.NothingToUndo)], callB (isXE xc.NothingToRedo [(xc.InvalidName, false), (xc.InvalidNumber, false), (xc.InvalidBody, false), (xc.InvalidProgram, false), (xc.InvalidState, false), (xc.InvalidChoice, false), (xc.InvalidEvent, false), (xc.InvalidLimits, false), (xc.InvalidLog, false), (xc.InvalidCommand, false), (xc.ParseError, false), (xc.TooMany, false), (xc.NothingToUndo, false), (xc.NothingToRedo, true)]) [eVar 0, eC (.glb xc.NothingToRedo)]]))))))
def m_law_signs (xc : XC) : List D → Sto → Res D := defG 2 (b_law_signs xc)
def c_law_1 (xc : XC) : Mi.Env → Sto → Res D :=
  lcM [6] (rng1 [eC (.int 14)]) (gN 6) (yesM) (bin eqM (eVar 6) (eVar 4))
def l_law_2 (xc : XC) : Mi.Env → Sto → Out :=
  forE 4 5 (eVar 2)
    (seqM (ifM (fun env st => blOf (bin neXM (callG (m_law_signs xc) [eVar 5]) (c_law_1 xc) env st)) (retM (eC (.bl false))) (nxM))
    (seqM (ifM (orM (fun env st => blOf (bin neM (callB (isXE xc.RunError [(xc.InvalidName, true), (xc.InvalidNumber, true), (xc.InvalidBody, true), (xc.InvalidProgram, true), (xc.InvalidState, true), (xc.InvalidChoice, true), (xc.InvalidEvent, true), (xc.InvalidLimits, true), (xc.InvalidLog, true), (xc.InvalidCommand, true), (xc.ParseError, true), (xc.TooMany, false), (xc.NothingToUndo, false), (xc.NothingToRedo, false)]) [eVar 5, eC (.glb xc.RunError)]) (bin ltM (eVar 4) (eC (.int 11))) env st)) (fun env st => blOf (bin neM (callB (isXT "ValueError" [(xc.InvalidName, true), (xc.InvalidNumber, true), (xc.InvalidBody, true), (xc.InvalidProgram, true), (xc.InvalidState, true), (xc.InvalidChoice, true), (xc.InvalidEvent, true), (xc.InvalidLimits, true), (xc.InvalidLog, true), (xc.InvalidCommand, true), (xc.ParseError, true), (xc.TooMany, false), (xc.NothingToUndo, false), (xc.NothingToRedo, false)]) [eVar 5, eC (.ty "ValueError")]) (bin ltM (eVar 4) (eC (.int 11))) env st))) (retM (eC (.bl false))) (nxM))
    (ifM (orM (fun env st => blOf (bin neM (callB (isXT "OverflowError" [(xc.InvalidName, false), (xc.InvalidNumber, false), (xc.InvalidBody, false), (xc.InvalidProgram, false), (xc.InvalidState, false), (xc.InvalidChoice, false), (xc.InvalidEvent, false), (xc.InvalidLimits, false), (xc.InvalidLog, false), (xc.InvalidCommand, false), (xc.ParseError, false), (xc.TooMany, true), (xc.NothingToUndo, false), (xc.NothingToRedo, false)]) [eVar 5, eC (.ty "OverflowError")]) (bin eqM (eVar 4) (eC (.int 11))) env st)) (fun env st => blOf (bin neM (callB (isXT "LookupError" [(xc.InvalidName, false), (xc.InvalidNumber, false), (xc.InvalidBody, false), (xc.InvalidProgram, false), (xc.InvalidState, false), (xc.InvalidChoice, false), (xc.InvalidEvent, false), (xc.InvalidLimits, false), (xc.InvalidLog, false), (xc.InvalidCommand, false), (xc.ParseError, false), (xc.TooMany, false), (xc.NothingToUndo, true), (xc.NothingToRedo, true)]) [eVar 5, eC (.ty "LookupError")]) (bin gtM (eVar 4) (eC (.int 11))) env st))) (retM (eC (.bl false))) (nxM))))
def c_law_3 (xc : XC) : Mi.Env → Sto → Res D :=
  lcN [5] (anyOf (sliceN (eVar 2) (oNone) (oSome (eC (.int 10))))) (gN 5) (yesM) (xgM (csL [xc.InvalidName, xc.InvalidNumber, xc.InvalidBody, xc.InvalidProgram, xc.InvalidState, xc.InvalidChoice, xc.InvalidEvent, xc.InvalidLimits, xc.InvalidLog, xc.InvalidCommand]) "value" (eVar 5))
def l_law_4 (xc : XC) : Mi.Env → Sto → Out :=
  forM' (anyOf (newM [callG (m_law_made xc) [eVar 1], callG (m_law_named xc) [eVar 1]])) (gN 2)
    (seqM (l_law_2 xc)
    (seqM (setM 3 (binN addN (c_law_3 xc) (newM [xgM (csL [xc.ParseError]) "line" (bin ixM (eVar 2) (eC (.int 10))), xgM (csL [xc.TooMany]) "limit" (bin ixM (eVar 2) (eC (.int 11)))])))
    (seqM (ifM (truM (callB isiB [eVar 1, eC (.ty "list")])) (dropM (methM "list" appG (eVar 1) [callB lenB [eVar 1]])) (nxM))
    (ifM (fun env st => blOf (bin neXM (eVar 3) (binN mulN (newM [eVar 1]) (eC (.int 12))) env st)) (retM (eC (.bl false))) (nxM)))))
def l_law_5 (xc : XC) : Mi.Env → Sto → Out :=
  forM' (anyOf (newM [eC .non, eC (.int 5), eC (.str "text"), newM [eC (.str "list")], tupM [eC (.str "a"), eC (.int 1)], eC (.bl true)])) (gN 1)
    (l_law_4 xc)
def b_law (xc : XC) : Mi.Env → Sto → Out :=
  seqM (l_law_5 xc)
    (retM (eC (.bl true)))
def m_law (xc : XC) : List D → Sto → Res D := defG 7 (b_law xc)
structure FA (w : World) (K : PySem.W.Frag) (mg : Str → Option Value) where
  f_law_made : Addr
  d_law_made : FuncData
  F_law_made : Fun K "_law_made" "_law_made" s_law_made f_law_made d_law_made
  a_law_made : mg "_law_made" = some (.ref f_law_made)
  h_law_made : PySem.W.keepIn K (.ref f_law_made) = true
  b_law_made : Binds K d_law_made ["_law_x"] []
  f_law_named : Addr
  d_law_named : FuncData
  F_law_named : Fun K "_law_named" "_law_named" s_law_named f_law_named d_law_named
  a_law_named : mg "_law_named" = some (.ref f_law_named)
  h_law_named : PySem.W.keepIn K (.ref f_law_named) = true
  b_law_named : Binds K d_law_named ["_law_x"] []
  f_law_signs : Addr
  d_law_signs : FuncData
  F_law_signs : Fun K "_law_signs" "_law_signs" s_law_signs f_law_signs d_law_signs
  a_law_signs : mg "_law_signs" = some (.ref f_law_signs)
  h_law_signs : PySem.W.keepIn K (.ref f_law_signs) = true
  b_law_signs : Binds K d_law_signs ["_law_e"] []
  f_law : Addr
  d_law : FuncData
  F_law : Fun K "law" "law" s_law f_law d_law
  a_law : mg "law" = some (.ref f_law)
  h_law : PySem.W.keepIn K (.ref f_law) = true
  b_law : Binds K d_law ["_law_script"] []
  xc : XC
  xa_InvalidName : mg "InvalidName" = some (.ref xc.InvalidName)
  xa_InvalidNumber : mg "InvalidNumber" = some (.ref xc.InvalidNumber)
  xa_InvalidBody : mg "InvalidBody" = some (.ref xc.InvalidBody)
  xa_InvalidProgram : mg "InvalidProgram" = some (.ref xc.InvalidProgram)
  xa_InvalidState : mg "InvalidState" = some (.ref xc.InvalidState)
  xa_InvalidChoice : mg "InvalidChoice" = some (.ref xc.InvalidChoice)
  xa_InvalidEvent : mg "InvalidEvent" = some (.ref xc.InvalidEvent)
  xa_InvalidLimits : mg "InvalidLimits" = some (.ref xc.InvalidLimits)
  xa_InvalidLog : mg "InvalidLog" = some (.ref xc.InvalidLog)
  xa_InvalidCommand : mg "InvalidCommand" = some (.ref xc.InvalidCommand)
  xa_ParseError : mg "ParseError" = some (.ref xc.ParseError)
  xa_TooMany : mg "TooMany" = some (.ref xc.TooMany)
  xa_NothingToUndo : mg "NothingToUndo" = some (.ref xc.NothingToUndo)
  xa_NothingToRedo : mg "NothingToRedo" = some (.ref xc.NothingToRedo)
  xa_RunError : mg "RunError" = some (.ref xc.RunError)
  kx_InvalidBody : KexC K xc.InvalidBody
  no_InvalidBody : PySem.W.findIn K (.ref xc.InvalidBody) "value" = some none
  kx_InvalidChoice : KexC K xc.InvalidChoice
  no_InvalidChoice : PySem.W.findIn K (.ref xc.InvalidChoice) "value" = some none
  kx_InvalidCommand : KexC K xc.InvalidCommand
  no_InvalidCommand : PySem.W.findIn K (.ref xc.InvalidCommand) "value" = some none
  kx_InvalidEvent : KexC K xc.InvalidEvent
  no_InvalidEvent : PySem.W.findIn K (.ref xc.InvalidEvent) "value" = some none
  kx_InvalidLimits : KexC K xc.InvalidLimits
  no_InvalidLimits : PySem.W.findIn K (.ref xc.InvalidLimits) "value" = some none
  kx_InvalidLog : KexC K xc.InvalidLog
  no_InvalidLog : PySem.W.findIn K (.ref xc.InvalidLog) "value" = some none
  kx_InvalidName : KexC K xc.InvalidName
  no_InvalidName : PySem.W.findIn K (.ref xc.InvalidName) "value" = some none
  kx_InvalidNumber : KexC K xc.InvalidNumber
  no_InvalidNumber : PySem.W.findIn K (.ref xc.InvalidNumber) "value" = some none
  kx_InvalidProgram : KexC K xc.InvalidProgram
  no_InvalidProgram : PySem.W.findIn K (.ref xc.InvalidProgram) "value" = some none
  kx_InvalidState : KexC K xc.InvalidState
  no_InvalidState : PySem.W.findIn K (.ref xc.InvalidState) "value" = some none
  kx_ParseError : KexC K xc.ParseError
  no_ParseError : PySem.W.findIn K (.ref xc.ParseError) "line" = some none
  kx_TooMany : KexC K xc.TooMany
  no_TooMany : PySem.W.findIn K (.ref xc.TooMany) "limit" = some none
  k0_NothingToRedo : Kex0 K xc.NothingToRedo
  k0_NothingToUndo : Kex0 K xc.NothingToUndo
  xis_InvalidName : XIs K xc.InvalidName
  xis_InvalidNumber : XIs K xc.InvalidNumber
  xis_InvalidBody : XIs K xc.InvalidBody
  xis_InvalidProgram : XIs K xc.InvalidProgram
  xis_InvalidState : XIs K xc.InvalidState
  xis_InvalidChoice : XIs K xc.InvalidChoice
  xis_InvalidEvent : XIs K xc.InvalidEvent
  xis_InvalidLimits : XIs K xc.InvalidLimits
  xis_InvalidLog : XIs K xc.InvalidLog
  xis_InvalidCommand : XIs K xc.InvalidCommand
  xis_ParseError : XIs K xc.ParseError
  xis_TooMany : XIs K xc.TooMany
  xis_NothingToUndo : XIs K xc.NothingToUndo
  xis_NothingToRedo : XIs K xc.NothingToRedo
  xk_InvalidBody_InvalidBody : PySem.W.kitOne K (.ref xc.InvalidBody) (.ref xc.InvalidBody) = some true
  xk_InvalidBody_InvalidChoice : PySem.W.kitOne K (.ref xc.InvalidBody) (.ref xc.InvalidChoice) = some false
  xk_InvalidBody_InvalidCommand : PySem.W.kitOne K (.ref xc.InvalidBody) (.ref xc.InvalidCommand) = some false
  xk_InvalidBody_InvalidEvent : PySem.W.kitOne K (.ref xc.InvalidBody) (.ref xc.InvalidEvent) = some false
  xk_InvalidBody_InvalidLimits : PySem.W.kitOne K (.ref xc.InvalidBody) (.ref xc.InvalidLimits) = some false
  xk_InvalidBody_InvalidLog : PySem.W.kitOne K (.ref xc.InvalidBody) (.ref xc.InvalidLog) = some false
  xk_InvalidBody_InvalidName : PySem.W.kitOne K (.ref xc.InvalidBody) (.ref xc.InvalidName) = some false
  xk_InvalidBody_InvalidNumber : PySem.W.kitOne K (.ref xc.InvalidBody) (.ref xc.InvalidNumber) = some false
  xk_InvalidBody_InvalidProgram : PySem.W.kitOne K (.ref xc.InvalidBody) (.ref xc.InvalidProgram) = some false
  xk_InvalidBody_InvalidState : PySem.W.kitOne K (.ref xc.InvalidBody) (.ref xc.InvalidState) = some false
  xk_InvalidBody_LookupError : PySem.W.kitOne K (.ref xc.InvalidBody) (.type "LookupError") = some false
  xk_InvalidBody_NothingToRedo : PySem.W.kitOne K (.ref xc.InvalidBody) (.ref xc.NothingToRedo) = some false
  xk_InvalidBody_NothingToUndo : PySem.W.kitOne K (.ref xc.InvalidBody) (.ref xc.NothingToUndo) = some false
  xk_InvalidBody_OverflowError : PySem.W.kitOne K (.ref xc.InvalidBody) (.type "OverflowError") = some false
  xk_InvalidBody_ParseError : PySem.W.kitOne K (.ref xc.InvalidBody) (.ref xc.ParseError) = some false
  xk_InvalidBody_RunError : PySem.W.kitOne K (.ref xc.InvalidBody) (.ref xc.RunError) = some true
  xk_InvalidBody_TooMany : PySem.W.kitOne K (.ref xc.InvalidBody) (.ref xc.TooMany) = some false
  xk_InvalidBody_ValueError : PySem.W.kitOne K (.ref xc.InvalidBody) (.type "ValueError") = some true
  xk_InvalidChoice_InvalidBody : PySem.W.kitOne K (.ref xc.InvalidChoice) (.ref xc.InvalidBody) = some false
  xk_InvalidChoice_InvalidChoice : PySem.W.kitOne K (.ref xc.InvalidChoice) (.ref xc.InvalidChoice) = some true
  xk_InvalidChoice_InvalidCommand : PySem.W.kitOne K (.ref xc.InvalidChoice) (.ref xc.InvalidCommand) = some false
  xk_InvalidChoice_InvalidEvent : PySem.W.kitOne K (.ref xc.InvalidChoice) (.ref xc.InvalidEvent) = some false
  xk_InvalidChoice_InvalidLimits : PySem.W.kitOne K (.ref xc.InvalidChoice) (.ref xc.InvalidLimits) = some false
  xk_InvalidChoice_InvalidLog : PySem.W.kitOne K (.ref xc.InvalidChoice) (.ref xc.InvalidLog) = some false
  xk_InvalidChoice_InvalidName : PySem.W.kitOne K (.ref xc.InvalidChoice) (.ref xc.InvalidName) = some false
  xk_InvalidChoice_InvalidNumber : PySem.W.kitOne K (.ref xc.InvalidChoice) (.ref xc.InvalidNumber) = some false
  xk_InvalidChoice_InvalidProgram : PySem.W.kitOne K (.ref xc.InvalidChoice) (.ref xc.InvalidProgram) = some false
  xk_InvalidChoice_InvalidState : PySem.W.kitOne K (.ref xc.InvalidChoice) (.ref xc.InvalidState) = some false
  xk_InvalidChoice_LookupError : PySem.W.kitOne K (.ref xc.InvalidChoice) (.type "LookupError") = some false
  xk_InvalidChoice_NothingToRedo : PySem.W.kitOne K (.ref xc.InvalidChoice) (.ref xc.NothingToRedo) = some false
  xk_InvalidChoice_NothingToUndo : PySem.W.kitOne K (.ref xc.InvalidChoice) (.ref xc.NothingToUndo) = some false
  xk_InvalidChoice_OverflowError : PySem.W.kitOne K (.ref xc.InvalidChoice) (.type "OverflowError") = some false
  xk_InvalidChoice_ParseError : PySem.W.kitOne K (.ref xc.InvalidChoice) (.ref xc.ParseError) = some false
  xk_InvalidChoice_RunError : PySem.W.kitOne K (.ref xc.InvalidChoice) (.ref xc.RunError) = some true
  xk_InvalidChoice_TooMany : PySem.W.kitOne K (.ref xc.InvalidChoice) (.ref xc.TooMany) = some false
  xk_InvalidChoice_ValueError : PySem.W.kitOne K (.ref xc.InvalidChoice) (.type "ValueError") = some true
  xk_InvalidCommand_InvalidBody : PySem.W.kitOne K (.ref xc.InvalidCommand) (.ref xc.InvalidBody) = some false
  xk_InvalidCommand_InvalidChoice : PySem.W.kitOne K (.ref xc.InvalidCommand) (.ref xc.InvalidChoice) = some false
  xk_InvalidCommand_InvalidCommand : PySem.W.kitOne K (.ref xc.InvalidCommand) (.ref xc.InvalidCommand) = some true
  xk_InvalidCommand_InvalidEvent : PySem.W.kitOne K (.ref xc.InvalidCommand) (.ref xc.InvalidEvent) = some false
  xk_InvalidCommand_InvalidLimits : PySem.W.kitOne K (.ref xc.InvalidCommand) (.ref xc.InvalidLimits) = some false
  xk_InvalidCommand_InvalidLog : PySem.W.kitOne K (.ref xc.InvalidCommand) (.ref xc.InvalidLog) = some false
  xk_InvalidCommand_InvalidName : PySem.W.kitOne K (.ref xc.InvalidCommand) (.ref xc.InvalidName) = some false
  xk_InvalidCommand_InvalidNumber : PySem.W.kitOne K (.ref xc.InvalidCommand) (.ref xc.InvalidNumber) = some false
  xk_InvalidCommand_InvalidProgram : PySem.W.kitOne K (.ref xc.InvalidCommand) (.ref xc.InvalidProgram) = some false
  xk_InvalidCommand_InvalidState : PySem.W.kitOne K (.ref xc.InvalidCommand) (.ref xc.InvalidState) = some false
  xk_InvalidCommand_LookupError : PySem.W.kitOne K (.ref xc.InvalidCommand) (.type "LookupError") = some false
  xk_InvalidCommand_NothingToRedo : PySem.W.kitOne K (.ref xc.InvalidCommand) (.ref xc.NothingToRedo) = some false
  xk_InvalidCommand_NothingToUndo : PySem.W.kitOne K (.ref xc.InvalidCommand) (.ref xc.NothingToUndo) = some false
  xk_InvalidCommand_OverflowError : PySem.W.kitOne K (.ref xc.InvalidCommand) (.type "OverflowError") = some false
  xk_InvalidCommand_ParseError : PySem.W.kitOne K (.ref xc.InvalidCommand) (.ref xc.ParseError) = some false
  xk_InvalidCommand_RunError : PySem.W.kitOne K (.ref xc.InvalidCommand) (.ref xc.RunError) = some true
  xk_InvalidCommand_TooMany : PySem.W.kitOne K (.ref xc.InvalidCommand) (.ref xc.TooMany) = some false
  xk_InvalidCommand_ValueError : PySem.W.kitOne K (.ref xc.InvalidCommand) (.type "ValueError") = some true
  xk_InvalidEvent_InvalidBody : PySem.W.kitOne K (.ref xc.InvalidEvent) (.ref xc.InvalidBody) = some false
  xk_InvalidEvent_InvalidChoice : PySem.W.kitOne K (.ref xc.InvalidEvent) (.ref xc.InvalidChoice) = some false
  xk_InvalidEvent_InvalidCommand : PySem.W.kitOne K (.ref xc.InvalidEvent) (.ref xc.InvalidCommand) = some false
  xk_InvalidEvent_InvalidEvent : PySem.W.kitOne K (.ref xc.InvalidEvent) (.ref xc.InvalidEvent) = some true
  xk_InvalidEvent_InvalidLimits : PySem.W.kitOne K (.ref xc.InvalidEvent) (.ref xc.InvalidLimits) = some false
  xk_InvalidEvent_InvalidLog : PySem.W.kitOne K (.ref xc.InvalidEvent) (.ref xc.InvalidLog) = some false
  xk_InvalidEvent_InvalidName : PySem.W.kitOne K (.ref xc.InvalidEvent) (.ref xc.InvalidName) = some false
  xk_InvalidEvent_InvalidNumber : PySem.W.kitOne K (.ref xc.InvalidEvent) (.ref xc.InvalidNumber) = some false
  xk_InvalidEvent_InvalidProgram : PySem.W.kitOne K (.ref xc.InvalidEvent) (.ref xc.InvalidProgram) = some false
  xk_InvalidEvent_InvalidState : PySem.W.kitOne K (.ref xc.InvalidEvent) (.ref xc.InvalidState) = some false
  xk_InvalidEvent_LookupError : PySem.W.kitOne K (.ref xc.InvalidEvent) (.type "LookupError") = some false
  xk_InvalidEvent_NothingToRedo : PySem.W.kitOne K (.ref xc.InvalidEvent) (.ref xc.NothingToRedo) = some false
  xk_InvalidEvent_NothingToUndo : PySem.W.kitOne K (.ref xc.InvalidEvent) (.ref xc.NothingToUndo) = some false
  xk_InvalidEvent_OverflowError : PySem.W.kitOne K (.ref xc.InvalidEvent) (.type "OverflowError") = some false
  xk_InvalidEvent_ParseError : PySem.W.kitOne K (.ref xc.InvalidEvent) (.ref xc.ParseError) = some false
  xk_InvalidEvent_RunError : PySem.W.kitOne K (.ref xc.InvalidEvent) (.ref xc.RunError) = some true
  xk_InvalidEvent_TooMany : PySem.W.kitOne K (.ref xc.InvalidEvent) (.ref xc.TooMany) = some false
  xk_InvalidEvent_ValueError : PySem.W.kitOne K (.ref xc.InvalidEvent) (.type "ValueError") = some true
  xk_InvalidLimits_InvalidBody : PySem.W.kitOne K (.ref xc.InvalidLimits) (.ref xc.InvalidBody) = some false
  xk_InvalidLimits_InvalidChoice : PySem.W.kitOne K (.ref xc.InvalidLimits) (.ref xc.InvalidChoice) = some false
  xk_InvalidLimits_InvalidCommand : PySem.W.kitOne K (.ref xc.InvalidLimits) (.ref xc.InvalidCommand) = some false
  xk_InvalidLimits_InvalidEvent : PySem.W.kitOne K (.ref xc.InvalidLimits) (.ref xc.InvalidEvent) = some false
  xk_InvalidLimits_InvalidLimits : PySem.W.kitOne K (.ref xc.InvalidLimits) (.ref xc.InvalidLimits) = some true
  xk_InvalidLimits_InvalidLog : PySem.W.kitOne K (.ref xc.InvalidLimits) (.ref xc.InvalidLog) = some false
  xk_InvalidLimits_InvalidName : PySem.W.kitOne K (.ref xc.InvalidLimits) (.ref xc.InvalidName) = some false
  xk_InvalidLimits_InvalidNumber : PySem.W.kitOne K (.ref xc.InvalidLimits) (.ref xc.InvalidNumber) = some false
  xk_InvalidLimits_InvalidProgram : PySem.W.kitOne K (.ref xc.InvalidLimits) (.ref xc.InvalidProgram) = some false
  xk_InvalidLimits_InvalidState : PySem.W.kitOne K (.ref xc.InvalidLimits) (.ref xc.InvalidState) = some false
  xk_InvalidLimits_LookupError : PySem.W.kitOne K (.ref xc.InvalidLimits) (.type "LookupError") = some false
  xk_InvalidLimits_NothingToRedo : PySem.W.kitOne K (.ref xc.InvalidLimits) (.ref xc.NothingToRedo) = some false
  xk_InvalidLimits_NothingToUndo : PySem.W.kitOne K (.ref xc.InvalidLimits) (.ref xc.NothingToUndo) = some false
  xk_InvalidLimits_OverflowError : PySem.W.kitOne K (.ref xc.InvalidLimits) (.type "OverflowError") = some false
  xk_InvalidLimits_ParseError : PySem.W.kitOne K (.ref xc.InvalidLimits) (.ref xc.ParseError) = some false
  xk_InvalidLimits_RunError : PySem.W.kitOne K (.ref xc.InvalidLimits) (.ref xc.RunError) = some true
  xk_InvalidLimits_TooMany : PySem.W.kitOne K (.ref xc.InvalidLimits) (.ref xc.TooMany) = some false
  xk_InvalidLimits_ValueError : PySem.W.kitOne K (.ref xc.InvalidLimits) (.type "ValueError") = some true
  xk_InvalidLog_InvalidBody : PySem.W.kitOne K (.ref xc.InvalidLog) (.ref xc.InvalidBody) = some false
  xk_InvalidLog_InvalidChoice : PySem.W.kitOne K (.ref xc.InvalidLog) (.ref xc.InvalidChoice) = some false
  xk_InvalidLog_InvalidCommand : PySem.W.kitOne K (.ref xc.InvalidLog) (.ref xc.InvalidCommand) = some false
  xk_InvalidLog_InvalidEvent : PySem.W.kitOne K (.ref xc.InvalidLog) (.ref xc.InvalidEvent) = some false
  xk_InvalidLog_InvalidLimits : PySem.W.kitOne K (.ref xc.InvalidLog) (.ref xc.InvalidLimits) = some false
  xk_InvalidLog_InvalidLog : PySem.W.kitOne K (.ref xc.InvalidLog) (.ref xc.InvalidLog) = some true
  xk_InvalidLog_InvalidName : PySem.W.kitOne K (.ref xc.InvalidLog) (.ref xc.InvalidName) = some false
  xk_InvalidLog_InvalidNumber : PySem.W.kitOne K (.ref xc.InvalidLog) (.ref xc.InvalidNumber) = some false
  xk_InvalidLog_InvalidProgram : PySem.W.kitOne K (.ref xc.InvalidLog) (.ref xc.InvalidProgram) = some false
  xk_InvalidLog_InvalidState : PySem.W.kitOne K (.ref xc.InvalidLog) (.ref xc.InvalidState) = some false
  xk_InvalidLog_LookupError : PySem.W.kitOne K (.ref xc.InvalidLog) (.type "LookupError") = some false
  xk_InvalidLog_NothingToRedo : PySem.W.kitOne K (.ref xc.InvalidLog) (.ref xc.NothingToRedo) = some false
  xk_InvalidLog_NothingToUndo : PySem.W.kitOne K (.ref xc.InvalidLog) (.ref xc.NothingToUndo) = some false
  xk_InvalidLog_OverflowError : PySem.W.kitOne K (.ref xc.InvalidLog) (.type "OverflowError") = some false
  xk_InvalidLog_ParseError : PySem.W.kitOne K (.ref xc.InvalidLog) (.ref xc.ParseError) = some false
  xk_InvalidLog_RunError : PySem.W.kitOne K (.ref xc.InvalidLog) (.ref xc.RunError) = some true
  xk_InvalidLog_TooMany : PySem.W.kitOne K (.ref xc.InvalidLog) (.ref xc.TooMany) = some false
  xk_InvalidLog_ValueError : PySem.W.kitOne K (.ref xc.InvalidLog) (.type "ValueError") = some true
  xk_InvalidName_InvalidBody : PySem.W.kitOne K (.ref xc.InvalidName) (.ref xc.InvalidBody) = some false
  xk_InvalidName_InvalidChoice : PySem.W.kitOne K (.ref xc.InvalidName) (.ref xc.InvalidChoice) = some false
  xk_InvalidName_InvalidCommand : PySem.W.kitOne K (.ref xc.InvalidName) (.ref xc.InvalidCommand) = some false
  xk_InvalidName_InvalidEvent : PySem.W.kitOne K (.ref xc.InvalidName) (.ref xc.InvalidEvent) = some false
  xk_InvalidName_InvalidLimits : PySem.W.kitOne K (.ref xc.InvalidName) (.ref xc.InvalidLimits) = some false
  xk_InvalidName_InvalidLog : PySem.W.kitOne K (.ref xc.InvalidName) (.ref xc.InvalidLog) = some false
  xk_InvalidName_InvalidName : PySem.W.kitOne K (.ref xc.InvalidName) (.ref xc.InvalidName) = some true
  xk_InvalidName_InvalidNumber : PySem.W.kitOne K (.ref xc.InvalidName) (.ref xc.InvalidNumber) = some false
  xk_InvalidName_InvalidProgram : PySem.W.kitOne K (.ref xc.InvalidName) (.ref xc.InvalidProgram) = some false
  xk_InvalidName_InvalidState : PySem.W.kitOne K (.ref xc.InvalidName) (.ref xc.InvalidState) = some false
  xk_InvalidName_LookupError : PySem.W.kitOne K (.ref xc.InvalidName) (.type "LookupError") = some false
  xk_InvalidName_NothingToRedo : PySem.W.kitOne K (.ref xc.InvalidName) (.ref xc.NothingToRedo) = some false
  xk_InvalidName_NothingToUndo : PySem.W.kitOne K (.ref xc.InvalidName) (.ref xc.NothingToUndo) = some false
  xk_InvalidName_OverflowError : PySem.W.kitOne K (.ref xc.InvalidName) (.type "OverflowError") = some false
  xk_InvalidName_ParseError : PySem.W.kitOne K (.ref xc.InvalidName) (.ref xc.ParseError) = some false
  xk_InvalidName_RunError : PySem.W.kitOne K (.ref xc.InvalidName) (.ref xc.RunError) = some true
  xk_InvalidName_TooMany : PySem.W.kitOne K (.ref xc.InvalidName) (.ref xc.TooMany) = some false
  xk_InvalidName_ValueError : PySem.W.kitOne K (.ref xc.InvalidName) (.type "ValueError") = some true
  xk_InvalidNumber_InvalidBody : PySem.W.kitOne K (.ref xc.InvalidNumber) (.ref xc.InvalidBody) = some false
  xk_InvalidNumber_InvalidChoice : PySem.W.kitOne K (.ref xc.InvalidNumber) (.ref xc.InvalidChoice) = some false
  xk_InvalidNumber_InvalidCommand : PySem.W.kitOne K (.ref xc.InvalidNumber) (.ref xc.InvalidCommand) = some false
  xk_InvalidNumber_InvalidEvent : PySem.W.kitOne K (.ref xc.InvalidNumber) (.ref xc.InvalidEvent) = some false
  xk_InvalidNumber_InvalidLimits : PySem.W.kitOne K (.ref xc.InvalidNumber) (.ref xc.InvalidLimits) = some false
  xk_InvalidNumber_InvalidLog : PySem.W.kitOne K (.ref xc.InvalidNumber) (.ref xc.InvalidLog) = some false
  xk_InvalidNumber_InvalidName : PySem.W.kitOne K (.ref xc.InvalidNumber) (.ref xc.InvalidName) = some false
  xk_InvalidNumber_InvalidNumber : PySem.W.kitOne K (.ref xc.InvalidNumber) (.ref xc.InvalidNumber) = some true
  xk_InvalidNumber_InvalidProgram : PySem.W.kitOne K (.ref xc.InvalidNumber) (.ref xc.InvalidProgram) = some false
  xk_InvalidNumber_InvalidState : PySem.W.kitOne K (.ref xc.InvalidNumber) (.ref xc.InvalidState) = some false
  xk_InvalidNumber_LookupError : PySem.W.kitOne K (.ref xc.InvalidNumber) (.type "LookupError") = some false
  xk_InvalidNumber_NothingToRedo : PySem.W.kitOne K (.ref xc.InvalidNumber) (.ref xc.NothingToRedo) = some false
  xk_InvalidNumber_NothingToUndo : PySem.W.kitOne K (.ref xc.InvalidNumber) (.ref xc.NothingToUndo) = some false
  xk_InvalidNumber_OverflowError : PySem.W.kitOne K (.ref xc.InvalidNumber) (.type "OverflowError") = some false
  xk_InvalidNumber_ParseError : PySem.W.kitOne K (.ref xc.InvalidNumber) (.ref xc.ParseError) = some false
  xk_InvalidNumber_RunError : PySem.W.kitOne K (.ref xc.InvalidNumber) (.ref xc.RunError) = some true
  xk_InvalidNumber_TooMany : PySem.W.kitOne K (.ref xc.InvalidNumber) (.ref xc.TooMany) = some false
  xk_InvalidNumber_ValueError : PySem.W.kitOne K (.ref xc.InvalidNumber) (.type "ValueError") = some true
  xk_InvalidProgram_InvalidBody : PySem.W.kitOne K (.ref xc.InvalidProgram) (.ref xc.InvalidBody) = some false
  xk_InvalidProgram_InvalidChoice : PySem.W.kitOne K (.ref xc.InvalidProgram) (.ref xc.InvalidChoice) = some false
  xk_InvalidProgram_InvalidCommand : PySem.W.kitOne K (.ref xc.InvalidProgram) (.ref xc.InvalidCommand) = some false
  xk_InvalidProgram_InvalidEvent : PySem.W.kitOne K (.ref xc.InvalidProgram) (.ref xc.InvalidEvent) = some false
  xk_InvalidProgram_InvalidLimits : PySem.W.kitOne K (.ref xc.InvalidProgram) (.ref xc.InvalidLimits) = some false
  xk_InvalidProgram_InvalidLog : PySem.W.kitOne K (.ref xc.InvalidProgram) (.ref xc.InvalidLog) = some false
  xk_InvalidProgram_InvalidName : PySem.W.kitOne K (.ref xc.InvalidProgram) (.ref xc.InvalidName) = some false
  xk_InvalidProgram_InvalidNumber : PySem.W.kitOne K (.ref xc.InvalidProgram) (.ref xc.InvalidNumber) = some false
  xk_InvalidProgram_InvalidProgram : PySem.W.kitOne K (.ref xc.InvalidProgram) (.ref xc.InvalidProgram) = some true
  xk_InvalidProgram_InvalidState : PySem.W.kitOne K (.ref xc.InvalidProgram) (.ref xc.InvalidState) = some false
  xk_InvalidProgram_LookupError : PySem.W.kitOne K (.ref xc.InvalidProgram) (.type "LookupError") = some false
  xk_InvalidProgram_NothingToRedo : PySem.W.kitOne K (.ref xc.InvalidProgram) (.ref xc.NothingToRedo) = some false
  xk_InvalidProgram_NothingToUndo : PySem.W.kitOne K (.ref xc.InvalidProgram) (.ref xc.NothingToUndo) = some false
  xk_InvalidProgram_OverflowError : PySem.W.kitOne K (.ref xc.InvalidProgram) (.type "OverflowError") = some false
  xk_InvalidProgram_ParseError : PySem.W.kitOne K (.ref xc.InvalidProgram) (.ref xc.ParseError) = some false
  xk_InvalidProgram_RunError : PySem.W.kitOne K (.ref xc.InvalidProgram) (.ref xc.RunError) = some true
  xk_InvalidProgram_TooMany : PySem.W.kitOne K (.ref xc.InvalidProgram) (.ref xc.TooMany) = some false
  xk_InvalidProgram_ValueError : PySem.W.kitOne K (.ref xc.InvalidProgram) (.type "ValueError") = some true
  xk_InvalidState_InvalidBody : PySem.W.kitOne K (.ref xc.InvalidState) (.ref xc.InvalidBody) = some false
  xk_InvalidState_InvalidChoice : PySem.W.kitOne K (.ref xc.InvalidState) (.ref xc.InvalidChoice) = some false
  xk_InvalidState_InvalidCommand : PySem.W.kitOne K (.ref xc.InvalidState) (.ref xc.InvalidCommand) = some false
  xk_InvalidState_InvalidEvent : PySem.W.kitOne K (.ref xc.InvalidState) (.ref xc.InvalidEvent) = some false
  xk_InvalidState_InvalidLimits : PySem.W.kitOne K (.ref xc.InvalidState) (.ref xc.InvalidLimits) = some false
  xk_InvalidState_InvalidLog : PySem.W.kitOne K (.ref xc.InvalidState) (.ref xc.InvalidLog) = some false
  xk_InvalidState_InvalidName : PySem.W.kitOne K (.ref xc.InvalidState) (.ref xc.InvalidName) = some false
  xk_InvalidState_InvalidNumber : PySem.W.kitOne K (.ref xc.InvalidState) (.ref xc.InvalidNumber) = some false
  xk_InvalidState_InvalidProgram : PySem.W.kitOne K (.ref xc.InvalidState) (.ref xc.InvalidProgram) = some false
  xk_InvalidState_InvalidState : PySem.W.kitOne K (.ref xc.InvalidState) (.ref xc.InvalidState) = some true
  xk_InvalidState_LookupError : PySem.W.kitOne K (.ref xc.InvalidState) (.type "LookupError") = some false
  xk_InvalidState_NothingToRedo : PySem.W.kitOne K (.ref xc.InvalidState) (.ref xc.NothingToRedo) = some false
  xk_InvalidState_NothingToUndo : PySem.W.kitOne K (.ref xc.InvalidState) (.ref xc.NothingToUndo) = some false
  xk_InvalidState_OverflowError : PySem.W.kitOne K (.ref xc.InvalidState) (.type "OverflowError") = some false
  xk_InvalidState_ParseError : PySem.W.kitOne K (.ref xc.InvalidState) (.ref xc.ParseError) = some false
  xk_InvalidState_RunError : PySem.W.kitOne K (.ref xc.InvalidState) (.ref xc.RunError) = some true
  xk_InvalidState_TooMany : PySem.W.kitOne K (.ref xc.InvalidState) (.ref xc.TooMany) = some false
  xk_InvalidState_ValueError : PySem.W.kitOne K (.ref xc.InvalidState) (.type "ValueError") = some true
  xk_NothingToRedo_InvalidBody : PySem.W.kitOne K (.ref xc.NothingToRedo) (.ref xc.InvalidBody) = some false
  xk_NothingToRedo_InvalidChoice : PySem.W.kitOne K (.ref xc.NothingToRedo) (.ref xc.InvalidChoice) = some false
  xk_NothingToRedo_InvalidCommand : PySem.W.kitOne K (.ref xc.NothingToRedo) (.ref xc.InvalidCommand) = some false
  xk_NothingToRedo_InvalidEvent : PySem.W.kitOne K (.ref xc.NothingToRedo) (.ref xc.InvalidEvent) = some false
  xk_NothingToRedo_InvalidLimits : PySem.W.kitOne K (.ref xc.NothingToRedo) (.ref xc.InvalidLimits) = some false
  xk_NothingToRedo_InvalidLog : PySem.W.kitOne K (.ref xc.NothingToRedo) (.ref xc.InvalidLog) = some false
  xk_NothingToRedo_InvalidName : PySem.W.kitOne K (.ref xc.NothingToRedo) (.ref xc.InvalidName) = some false
  xk_NothingToRedo_InvalidNumber : PySem.W.kitOne K (.ref xc.NothingToRedo) (.ref xc.InvalidNumber) = some false
  xk_NothingToRedo_InvalidProgram : PySem.W.kitOne K (.ref xc.NothingToRedo) (.ref xc.InvalidProgram) = some false
  xk_NothingToRedo_InvalidState : PySem.W.kitOne K (.ref xc.NothingToRedo) (.ref xc.InvalidState) = some false
  xk_NothingToRedo_LookupError : PySem.W.kitOne K (.ref xc.NothingToRedo) (.type "LookupError") = some true
  xk_NothingToRedo_NothingToRedo : PySem.W.kitOne K (.ref xc.NothingToRedo) (.ref xc.NothingToRedo) = some true
  xk_NothingToRedo_NothingToUndo : PySem.W.kitOne K (.ref xc.NothingToRedo) (.ref xc.NothingToUndo) = some false
  xk_NothingToRedo_OverflowError : PySem.W.kitOne K (.ref xc.NothingToRedo) (.type "OverflowError") = some false
  xk_NothingToRedo_ParseError : PySem.W.kitOne K (.ref xc.NothingToRedo) (.ref xc.ParseError) = some false
  xk_NothingToRedo_RunError : PySem.W.kitOne K (.ref xc.NothingToRedo) (.ref xc.RunError) = some false
  xk_NothingToRedo_TooMany : PySem.W.kitOne K (.ref xc.NothingToRedo) (.ref xc.TooMany) = some false
  xk_NothingToRedo_ValueError : PySem.W.kitOne K (.ref xc.NothingToRedo) (.type "ValueError") = some false
  xk_NothingToUndo_InvalidBody : PySem.W.kitOne K (.ref xc.NothingToUndo) (.ref xc.InvalidBody) = some false
  xk_NothingToUndo_InvalidChoice : PySem.W.kitOne K (.ref xc.NothingToUndo) (.ref xc.InvalidChoice) = some false
  xk_NothingToUndo_InvalidCommand : PySem.W.kitOne K (.ref xc.NothingToUndo) (.ref xc.InvalidCommand) = some false
  xk_NothingToUndo_InvalidEvent : PySem.W.kitOne K (.ref xc.NothingToUndo) (.ref xc.InvalidEvent) = some false
  xk_NothingToUndo_InvalidLimits : PySem.W.kitOne K (.ref xc.NothingToUndo) (.ref xc.InvalidLimits) = some false
  xk_NothingToUndo_InvalidLog : PySem.W.kitOne K (.ref xc.NothingToUndo) (.ref xc.InvalidLog) = some false
  xk_NothingToUndo_InvalidName : PySem.W.kitOne K (.ref xc.NothingToUndo) (.ref xc.InvalidName) = some false
  xk_NothingToUndo_InvalidNumber : PySem.W.kitOne K (.ref xc.NothingToUndo) (.ref xc.InvalidNumber) = some false
  xk_NothingToUndo_InvalidProgram : PySem.W.kitOne K (.ref xc.NothingToUndo) (.ref xc.InvalidProgram) = some false
  xk_NothingToUndo_InvalidState : PySem.W.kitOne K (.ref xc.NothingToUndo) (.ref xc.InvalidState) = some false
  xk_NothingToUndo_LookupError : PySem.W.kitOne K (.ref xc.NothingToUndo) (.type "LookupError") = some true
  xk_NothingToUndo_NothingToRedo : PySem.W.kitOne K (.ref xc.NothingToUndo) (.ref xc.NothingToRedo) = some false
  xk_NothingToUndo_NothingToUndo : PySem.W.kitOne K (.ref xc.NothingToUndo) (.ref xc.NothingToUndo) = some true
  xk_NothingToUndo_OverflowError : PySem.W.kitOne K (.ref xc.NothingToUndo) (.type "OverflowError") = some false
  xk_NothingToUndo_ParseError : PySem.W.kitOne K (.ref xc.NothingToUndo) (.ref xc.ParseError) = some false
  xk_NothingToUndo_RunError : PySem.W.kitOne K (.ref xc.NothingToUndo) (.ref xc.RunError) = some false
  xk_NothingToUndo_TooMany : PySem.W.kitOne K (.ref xc.NothingToUndo) (.ref xc.TooMany) = some false
  xk_NothingToUndo_ValueError : PySem.W.kitOne K (.ref xc.NothingToUndo) (.type "ValueError") = some false
  xk_ParseError_InvalidBody : PySem.W.kitOne K (.ref xc.ParseError) (.ref xc.InvalidBody) = some false
  xk_ParseError_InvalidChoice : PySem.W.kitOne K (.ref xc.ParseError) (.ref xc.InvalidChoice) = some false
  xk_ParseError_InvalidCommand : PySem.W.kitOne K (.ref xc.ParseError) (.ref xc.InvalidCommand) = some false
  xk_ParseError_InvalidEvent : PySem.W.kitOne K (.ref xc.ParseError) (.ref xc.InvalidEvent) = some false
  xk_ParseError_InvalidLimits : PySem.W.kitOne K (.ref xc.ParseError) (.ref xc.InvalidLimits) = some false
  xk_ParseError_InvalidLog : PySem.W.kitOne K (.ref xc.ParseError) (.ref xc.InvalidLog) = some false
  xk_ParseError_InvalidName : PySem.W.kitOne K (.ref xc.ParseError) (.ref xc.InvalidName) = some false
  xk_ParseError_InvalidNumber : PySem.W.kitOne K (.ref xc.ParseError) (.ref xc.InvalidNumber) = some false
  xk_ParseError_InvalidProgram : PySem.W.kitOne K (.ref xc.ParseError) (.ref xc.InvalidProgram) = some false
  xk_ParseError_InvalidState : PySem.W.kitOne K (.ref xc.ParseError) (.ref xc.InvalidState) = some false
  xk_ParseError_LookupError : PySem.W.kitOne K (.ref xc.ParseError) (.type "LookupError") = some false
  xk_ParseError_NothingToRedo : PySem.W.kitOne K (.ref xc.ParseError) (.ref xc.NothingToRedo) = some false
  xk_ParseError_NothingToUndo : PySem.W.kitOne K (.ref xc.ParseError) (.ref xc.NothingToUndo) = some false
  xk_ParseError_OverflowError : PySem.W.kitOne K (.ref xc.ParseError) (.type "OverflowError") = some false
  xk_ParseError_ParseError : PySem.W.kitOne K (.ref xc.ParseError) (.ref xc.ParseError) = some true
  xk_ParseError_RunError : PySem.W.kitOne K (.ref xc.ParseError) (.ref xc.RunError) = some true
  xk_ParseError_TooMany : PySem.W.kitOne K (.ref xc.ParseError) (.ref xc.TooMany) = some false
  xk_ParseError_ValueError : PySem.W.kitOne K (.ref xc.ParseError) (.type "ValueError") = some true
  xk_TooMany_InvalidBody : PySem.W.kitOne K (.ref xc.TooMany) (.ref xc.InvalidBody) = some false
  xk_TooMany_InvalidChoice : PySem.W.kitOne K (.ref xc.TooMany) (.ref xc.InvalidChoice) = some false
  xk_TooMany_InvalidCommand : PySem.W.kitOne K (.ref xc.TooMany) (.ref xc.InvalidCommand) = some false
  xk_TooMany_InvalidEvent : PySem.W.kitOne K (.ref xc.TooMany) (.ref xc.InvalidEvent) = some false
  xk_TooMany_InvalidLimits : PySem.W.kitOne K (.ref xc.TooMany) (.ref xc.InvalidLimits) = some false
  xk_TooMany_InvalidLog : PySem.W.kitOne K (.ref xc.TooMany) (.ref xc.InvalidLog) = some false
  xk_TooMany_InvalidName : PySem.W.kitOne K (.ref xc.TooMany) (.ref xc.InvalidName) = some false
  xk_TooMany_InvalidNumber : PySem.W.kitOne K (.ref xc.TooMany) (.ref xc.InvalidNumber) = some false
  xk_TooMany_InvalidProgram : PySem.W.kitOne K (.ref xc.TooMany) (.ref xc.InvalidProgram) = some false
  xk_TooMany_InvalidState : PySem.W.kitOne K (.ref xc.TooMany) (.ref xc.InvalidState) = some false
  xk_TooMany_LookupError : PySem.W.kitOne K (.ref xc.TooMany) (.type "LookupError") = some false
  xk_TooMany_NothingToRedo : PySem.W.kitOne K (.ref xc.TooMany) (.ref xc.NothingToRedo) = some false
  xk_TooMany_NothingToUndo : PySem.W.kitOne K (.ref xc.TooMany) (.ref xc.NothingToUndo) = some false
  xk_TooMany_OverflowError : PySem.W.kitOne K (.ref xc.TooMany) (.type "OverflowError") = some true
  xk_TooMany_ParseError : PySem.W.kitOne K (.ref xc.TooMany) (.ref xc.ParseError) = some false
  xk_TooMany_RunError : PySem.W.kitOne K (.ref xc.TooMany) (.ref xc.RunError) = some false
  xk_TooMany_TooMany : PySem.W.kitOne K (.ref xc.TooMany) (.ref xc.TooMany) = some true
  xk_TooMany_ValueError : PySem.W.kitOne K (.ref xc.TooMany) (.type "ValueError") = some false
  xg_limit : ∀ C, csL [xc.TooMany] C = true → XfC K C ∧ PySem.W.findIn K (.ref C) "limit" = some none
  xg_line : ∀ C, csL [xc.ParseError] C = true → XfC K C ∧ PySem.W.findIn K (.ref C) "line" = some none
  xg_value : ∀ C, csL [xc.InvalidName, xc.InvalidNumber, xc.InvalidBody, xc.InvalidProgram, xc.InvalidState, xc.InvalidChoice, xc.InvalidEvent, xc.InvalidLimits, xc.InvalidLog, xc.InvalidCommand] C = true → XfC K C ∧ PySem.W.findIn K (.ref C) "value" = some none
  fi_InvalidBody : Addr
  di_InvalidBody : FuncData
  Fi_InvalidBody : Fun K "__init__" "InvalidBody.__init__" s_init_InvalidBody fi_InvalidBody di_InvalidBody
  xi_InvalidBody : PySem.W.findIn K (.ref xc.InvalidBody) "__init__" = some (some (.ref fi_InvalidBody))
  xt_InvalidBody : PySem.W.typeIn K (.ref fi_InvalidBody) = some (.type "function")
  xb_InvalidBody : Binds K di_InvalidBody ["self", "value"] []
  fi_InvalidChoice : Addr
  di_InvalidChoice : FuncData
  Fi_InvalidChoice : Fun K "__init__" "InvalidChoice.__init__" s_init_InvalidChoice fi_InvalidChoice di_InvalidChoice
  xi_InvalidChoice : PySem.W.findIn K (.ref xc.InvalidChoice) "__init__" = some (some (.ref fi_InvalidChoice))
  xt_InvalidChoice : PySem.W.typeIn K (.ref fi_InvalidChoice) = some (.type "function")
  xb_InvalidChoice : Binds K di_InvalidChoice ["self", "value"] []
  fi_InvalidCommand : Addr
  di_InvalidCommand : FuncData
  Fi_InvalidCommand : Fun K "__init__" "InvalidCommand.__init__" s_init_InvalidCommand fi_InvalidCommand di_InvalidCommand
  xi_InvalidCommand : PySem.W.findIn K (.ref xc.InvalidCommand) "__init__" = some (some (.ref fi_InvalidCommand))
  xt_InvalidCommand : PySem.W.typeIn K (.ref fi_InvalidCommand) = some (.type "function")
  xb_InvalidCommand : Binds K di_InvalidCommand ["self", "value"] []
  fi_InvalidEvent : Addr
  di_InvalidEvent : FuncData
  Fi_InvalidEvent : Fun K "__init__" "InvalidEvent.__init__" s_init_InvalidEvent fi_InvalidEvent di_InvalidEvent
  xi_InvalidEvent : PySem.W.findIn K (.ref xc.InvalidEvent) "__init__" = some (some (.ref fi_InvalidEvent))
  xt_InvalidEvent : PySem.W.typeIn K (.ref fi_InvalidEvent) = some (.type "function")
  xb_InvalidEvent : Binds K di_InvalidEvent ["self", "value"] []
  fi_InvalidLimits : Addr
  di_InvalidLimits : FuncData
  Fi_InvalidLimits : Fun K "__init__" "InvalidLimits.__init__" s_init_InvalidLimits fi_InvalidLimits di_InvalidLimits
  xi_InvalidLimits : PySem.W.findIn K (.ref xc.InvalidLimits) "__init__" = some (some (.ref fi_InvalidLimits))
  xt_InvalidLimits : PySem.W.typeIn K (.ref fi_InvalidLimits) = some (.type "function")
  xb_InvalidLimits : Binds K di_InvalidLimits ["self", "value"] []
  fi_InvalidLog : Addr
  di_InvalidLog : FuncData
  Fi_InvalidLog : Fun K "__init__" "InvalidLog.__init__" s_init_InvalidLog fi_InvalidLog di_InvalidLog
  xi_InvalidLog : PySem.W.findIn K (.ref xc.InvalidLog) "__init__" = some (some (.ref fi_InvalidLog))
  xt_InvalidLog : PySem.W.typeIn K (.ref fi_InvalidLog) = some (.type "function")
  xb_InvalidLog : Binds K di_InvalidLog ["self", "value"] []
  fi_InvalidName : Addr
  di_InvalidName : FuncData
  Fi_InvalidName : Fun K "__init__" "InvalidName.__init__" s_init_InvalidName fi_InvalidName di_InvalidName
  xi_InvalidName : PySem.W.findIn K (.ref xc.InvalidName) "__init__" = some (some (.ref fi_InvalidName))
  xt_InvalidName : PySem.W.typeIn K (.ref fi_InvalidName) = some (.type "function")
  xb_InvalidName : Binds K di_InvalidName ["self", "value"] []
  fi_InvalidNumber : Addr
  di_InvalidNumber : FuncData
  Fi_InvalidNumber : Fun K "__init__" "InvalidNumber.__init__" s_init_InvalidNumber fi_InvalidNumber di_InvalidNumber
  xi_InvalidNumber : PySem.W.findIn K (.ref xc.InvalidNumber) "__init__" = some (some (.ref fi_InvalidNumber))
  xt_InvalidNumber : PySem.W.typeIn K (.ref fi_InvalidNumber) = some (.type "function")
  xb_InvalidNumber : Binds K di_InvalidNumber ["self", "value"] []
  fi_InvalidProgram : Addr
  di_InvalidProgram : FuncData
  Fi_InvalidProgram : Fun K "__init__" "InvalidProgram.__init__" s_init_InvalidProgram fi_InvalidProgram di_InvalidProgram
  xi_InvalidProgram : PySem.W.findIn K (.ref xc.InvalidProgram) "__init__" = some (some (.ref fi_InvalidProgram))
  xt_InvalidProgram : PySem.W.typeIn K (.ref fi_InvalidProgram) = some (.type "function")
  xb_InvalidProgram : Binds K di_InvalidProgram ["self", "value"] []
  fi_InvalidState : Addr
  di_InvalidState : FuncData
  Fi_InvalidState : Fun K "__init__" "InvalidState.__init__" s_init_InvalidState fi_InvalidState di_InvalidState
  xi_InvalidState : PySem.W.findIn K (.ref xc.InvalidState) "__init__" = some (some (.ref fi_InvalidState))
  xt_InvalidState : PySem.W.typeIn K (.ref fi_InvalidState) = some (.type "function")
  xb_InvalidState : Binds K di_InvalidState ["self", "value"] []
  fi_ParseError : Addr
  di_ParseError : FuncData
  Fi_ParseError : Fun K "__init__" "ParseError.__init__" s_init_ParseError fi_ParseError di_ParseError
  xi_ParseError : PySem.W.findIn K (.ref xc.ParseError) "__init__" = some (some (.ref fi_ParseError))
  xt_ParseError : PySem.W.typeIn K (.ref fi_ParseError) = some (.type "function")
  xb_ParseError : Binds K di_ParseError ["self", "line"] []
  fi_TooMany : Addr
  di_TooMany : FuncData
  Fi_TooMany : Fun K "__init__" "TooMany.__init__" s_init_TooMany fi_TooMany di_TooMany
  xi_TooMany : PySem.W.findIn K (.ref xc.TooMany) "__init__" = some (some (.ref fi_TooMany))
  xt_TooMany : PySem.W.typeIn K (.ref fi_TooMany) = some (.type "function")
  xb_TooMany : Binds K di_TooMany ["self", "limit"] []
  kbx_InvalidBody : KBn K di_InvalidBody ["self", "value"] 1 ["value"] (fun us ws => us ++ ws) (fun vs zs => vs ++ zs)
  kbx_InvalidChoice : KBn K di_InvalidChoice ["self", "value"] 1 ["value"] (fun us ws => us ++ ws) (fun vs zs => vs ++ zs)
  kbx_InvalidCommand : KBn K di_InvalidCommand ["self", "value"] 1 ["value"] (fun us ws => us ++ ws) (fun vs zs => vs ++ zs)
  kbx_InvalidEvent : KBn K di_InvalidEvent ["self", "value"] 1 ["value"] (fun us ws => us ++ ws) (fun vs zs => vs ++ zs)
  kbx_InvalidLimits : KBn K di_InvalidLimits ["self", "value"] 1 ["value"] (fun us ws => us ++ ws) (fun vs zs => vs ++ zs)
  kbx_InvalidLog : KBn K di_InvalidLog ["self", "value"] 1 ["value"] (fun us ws => us ++ ws) (fun vs zs => vs ++ zs)
  kbx_InvalidName : KBn K di_InvalidName ["self", "value"] 1 ["value"] (fun us ws => us ++ ws) (fun vs zs => vs ++ zs)
  kbx_InvalidNumber : KBn K di_InvalidNumber ["self", "value"] 1 ["value"] (fun us ws => us ++ ws) (fun vs zs => vs ++ zs)
  kbx_InvalidProgram : KBn K di_InvalidProgram ["self", "value"] 1 ["value"] (fun us ws => us ++ ws) (fun vs zs => vs ++ zs)
  kbx_InvalidState : KBn K di_InvalidState ["self", "value"] 1 ["value"] (fun us ws => us ++ ws) (fun vs zs => vs ++ zs)
  kbx_ParseError : KBn K di_ParseError ["self", "line"] 1 ["line"] (fun us ws => us ++ ws) (fun vs zs => vs ++ zs)
  kbx_TooMany : KBn K di_TooMany ["self", "limit"] 1 ["limit"] (fun us ws => us ++ ws) (fun vs zs => vs ++ zs)
  n_isinstance : mg "isinstance" = none
  n_enumerate : mg "enumerate" = none
  n_range : mg "range" = none
  n_ValueError : mg "ValueError" = none
  n_OverflowError : mg "OverflowError" = none
  n_LookupError : mg "LookupError" = none
  n_list : mg "list" = none
  n_len : mg "len" = none
theorem un1 {k : Nat} {A : Around} (room : Room k A) : A.units + 1 < cLine := by have := room.un; omega
theorem un65 {k : Nat} {A : Around} (room : Room k A) : A.units + 65 < cLine := by have := room.un; omega
theorem uns {k : Nat} {A : Around} (room : Room k A) : A.units + 64 < cLine := room.units
section
variable {P : Program} {w : World}  {K : PySem.W.Frag}  {mg : Str → Option Value}  {base : Heap}
theorem okx_init_InvalidBody (A : FA w K mg) : FnOk P w K mg base CX0 1 A.fi_InvalidBody A.di_InvalidBody ["self", "value"] (spX "value" A.xc.InvalidBody) :=
  initX_ok A.Fi_InvalidBody sc_init_InvalidBody A.kx_InvalidBody A.no_InvalidBody rfl rfl rfl (by decide) (by decide) (by decide) (by decide) fun _ => rfl
theorem okx_init_InvalidChoice (A : FA w K mg) : FnOk P w K mg base CX0 1 A.fi_InvalidChoice A.di_InvalidChoice ["self", "value"] (spX "value" A.xc.InvalidChoice) :=
  initX_ok A.Fi_InvalidChoice sc_init_InvalidChoice A.kx_InvalidChoice A.no_InvalidChoice rfl rfl rfl (by decide) (by decide) (by decide) (by decide) fun _ => rfl
theorem okx_init_InvalidCommand (A : FA w K mg) : FnOk P w K mg base CX0 1 A.fi_InvalidCommand A.di_InvalidCommand ["self", "value"] (spX "value" A.xc.InvalidCommand) :=
  initX_ok A.Fi_InvalidCommand sc_init_InvalidCommand A.kx_InvalidCommand A.no_InvalidCommand rfl rfl rfl (by decide) (by decide) (by decide) (by decide) fun _ => rfl
theorem okx_init_InvalidEvent (A : FA w K mg) : FnOk P w K mg base CX0 1 A.fi_InvalidEvent A.di_InvalidEvent ["self", "value"] (spX "value" A.xc.InvalidEvent) :=
  initX_ok A.Fi_InvalidEvent sc_init_InvalidEvent A.kx_InvalidEvent A.no_InvalidEvent rfl rfl rfl (by decide) (by decide) (by decide) (by decide) fun _ => rfl
theorem okx_init_InvalidLimits (A : FA w K mg) : FnOk P w K mg base CX0 1 A.fi_InvalidLimits A.di_InvalidLimits ["self", "value"] (spX "value" A.xc.InvalidLimits) :=
  initX_ok A.Fi_InvalidLimits sc_init_InvalidLimits A.kx_InvalidLimits A.no_InvalidLimits rfl rfl rfl (by decide) (by decide) (by decide) (by decide) fun _ => rfl
theorem okx_init_InvalidLog (A : FA w K mg) : FnOk P w K mg base CX0 1 A.fi_InvalidLog A.di_InvalidLog ["self", "value"] (spX "value" A.xc.InvalidLog) :=
  initX_ok A.Fi_InvalidLog sc_init_InvalidLog A.kx_InvalidLog A.no_InvalidLog rfl rfl rfl (by decide) (by decide) (by decide) (by decide) fun _ => rfl
theorem okx_init_InvalidName (A : FA w K mg) : FnOk P w K mg base CX0 1 A.fi_InvalidName A.di_InvalidName ["self", "value"] (spX "value" A.xc.InvalidName) :=
  initX_ok A.Fi_InvalidName sc_init_InvalidName A.kx_InvalidName A.no_InvalidName rfl rfl rfl (by decide) (by decide) (by decide) (by decide) fun _ => rfl
theorem okx_init_InvalidNumber (A : FA w K mg) : FnOk P w K mg base CX0 1 A.fi_InvalidNumber A.di_InvalidNumber ["self", "value"] (spX "value" A.xc.InvalidNumber) :=
  initX_ok A.Fi_InvalidNumber sc_init_InvalidNumber A.kx_InvalidNumber A.no_InvalidNumber rfl rfl rfl (by decide) (by decide) (by decide) (by decide) fun _ => rfl
theorem okx_init_InvalidProgram (A : FA w K mg) : FnOk P w K mg base CX0 1 A.fi_InvalidProgram A.di_InvalidProgram ["self", "value"] (spX "value" A.xc.InvalidProgram) :=
  initX_ok A.Fi_InvalidProgram sc_init_InvalidProgram A.kx_InvalidProgram A.no_InvalidProgram rfl rfl rfl (by decide) (by decide) (by decide) (by decide) fun _ => rfl
theorem okx_init_InvalidState (A : FA w K mg) : FnOk P w K mg base CX0 1 A.fi_InvalidState A.di_InvalidState ["self", "value"] (spX "value" A.xc.InvalidState) :=
  initX_ok A.Fi_InvalidState sc_init_InvalidState A.kx_InvalidState A.no_InvalidState rfl rfl rfl (by decide) (by decide) (by decide) (by decide) fun _ => rfl
theorem okx_init_ParseError (A : FA w K mg) : FnOk P w K mg base CX0 1 A.fi_ParseError A.di_ParseError ["self", "line"] (spX "line" A.xc.ParseError) :=
  initX_ok A.Fi_ParseError sc_init_ParseError A.kx_ParseError A.no_ParseError rfl rfl rfl (by decide) (by decide) (by decide) (by decide) fun _ => rfl
theorem okx_init_TooMany (A : FA w K mg) : FnOk P w K mg base CX0 1 A.fi_TooMany A.di_TooMany ["self", "limit"] (spX "limit" A.xc.TooMany) :=
  initX_ok A.Fi_TooMany sc_init_TooMany A.kx_TooMany A.no_TooMany rfl rfl rfl (by decide) (by decide) (by decide) (by decide) fun _ => rfl
theorem ok_law_made (A : FA w K mg) : FnG P w K mg base 5 A.f_law_made A.d_law_made ["_law_x"] (spG K 1 (m_law_made A.xc)) :=
  okG (k := 4) A.F_law_made sc_law_made rfl rfl fun cd B outer s H E room gd => (rss_cons (rs_set (i := 1) sc_law_made.nd rfl (.inl rfl) (re_new (ra_cons (re_ex A.kx_InvalidName A.xi_InvalidName A.xt_InvalidName (okx_init_InvalidName A) (room.mono (by omega)) A.xb_InvalidName (by rfl) A.xa_InvalidName (ra_cons (re_var 0) ra_nil)) (ra_cons (re_ex A.kx_InvalidNumber A.xi_InvalidNumber A.xt_InvalidNumber (okx_init_InvalidNumber A) (room.mono (by omega)) A.xb_InvalidNumber (by rfl) A.xa_InvalidNumber (ra_cons (re_var 0) ra_nil)) (ra_cons (re_ex A.kx_InvalidBody A.xi_InvalidBody A.xt_InvalidBody (okx_init_InvalidBody A) (room.mono (by omega)) A.xb_InvalidBody (by rfl) A.xa_InvalidBody (ra_cons (re_var 0) ra_nil)) (ra_cons (re_ex A.kx_InvalidProgram A.xi_InvalidProgram A.xt_InvalidProgram (okx_init_InvalidProgram A) (room.mono (by omega)) A.xb_InvalidProgram (by rfl) A.xa_InvalidProgram (ra_cons (re_var 0) ra_nil)) (ra_cons (re_ex A.kx_InvalidState A.xi_InvalidState A.xt_InvalidState (okx_init_InvalidState A) (room.mono (by omega)) A.xb_InvalidState (by rfl) A.xa_InvalidState (ra_cons (re_var 0) ra_nil)) ra_nil))))) (by exact Nat.le_of_ble_eq_true rfl)))
    (rss_cons (rs_set (i := 1) sc_law_made.nd rfl (.inl rfl) (re_addN (re_var 1) (re_new (ra_cons (re_ex A.kx_InvalidChoice A.xi_InvalidChoice A.xt_InvalidChoice (okx_init_InvalidChoice A) (room.mono (by omega)) A.xb_InvalidChoice (by rfl) A.xa_InvalidChoice (ra_cons (re_var 0) ra_nil)) (ra_cons (re_ex A.kx_InvalidEvent A.xi_InvalidEvent A.xt_InvalidEvent (okx_init_InvalidEvent A) (room.mono (by omega)) A.xb_InvalidEvent (by rfl) A.xa_InvalidEvent (ra_cons (re_var 0) ra_nil)) (ra_cons (re_ex A.kx_InvalidLimits A.xi_InvalidLimits A.xt_InvalidLimits (okx_init_InvalidLimits A) (room.mono (by omega)) A.xb_InvalidLimits (by rfl) A.xa_InvalidLimits (ra_cons (re_var 0) ra_nil)) (ra_cons (re_ex A.kx_InvalidLog A.xi_InvalidLog A.xt_InvalidLog (okx_init_InvalidLog A) (room.mono (by omega)) A.xb_InvalidLog (by rfl) A.xa_InvalidLog (ra_cons (re_var 0) ra_nil)) ra_nil)))) (by exact Nat.le_of_ble_eq_true rfl))))
    (rss_one (rs_ret (re_addN (re_var 1) (re_new (ra_cons (re_ex A.kx_InvalidCommand A.xi_InvalidCommand A.xt_InvalidCommand (okx_init_InvalidCommand A) (room.mono (by omega)) A.xb_InvalidCommand (by rfl) A.xa_InvalidCommand (ra_cons (re_var 0) ra_nil)) (ra_cons (re_ex A.kx_ParseError A.xi_ParseError A.xt_ParseError (okx_init_ParseError A) (room.mono (by omega)) A.xb_ParseError (by rfl) A.xa_ParseError (ra_cons (re_var 0) ra_nil)) (ra_cons (re_ex A.kx_TooMany A.xi_TooMany A.xt_TooMany (okx_init_TooMany A) (room.mono (by omega)) A.xb_TooMany (by rfl) A.xa_TooMany (ra_cons (re_var 0) ra_nil)) (ra_cons (re_ex0 A.k0_NothingToUndo (by rfl) A.xa_NothingToUndo) (ra_cons (re_ex0 A.k0_NothingToRedo (by rfl) A.xa_NothingToRedo) ra_nil))))) (by exact Nat.le_of_ble_eq_true rfl)))))))
theorem ok_law_named (A : FA w K mg) : FnG P w K mg base 5 A.f_law_named A.d_law_named ["_law_x"] (spG K 1 (m_law_named A.xc)) :=
  okG (k := 4) A.F_law_named sc_law_named rfl rfl fun cd B outer s H E room gd => (rss_cons (rs_set (i := 1) sc_law_named.nd rfl (.inl rfl) (re_new (ra_cons (re_exK A.kx_InvalidName A.xi_InvalidName A.xt_InvalidName (okx_init_InvalidName A) (room.mono (by omega)) A.kbx_InvalidName rfl (by rfl) A.xa_InvalidName (rk_cons (re_var 0) rk_nil)) (ra_cons (re_exK A.kx_InvalidNumber A.xi_InvalidNumber A.xt_InvalidNumber (okx_init_InvalidNumber A) (room.mono (by omega)) A.kbx_InvalidNumber rfl (by rfl) A.xa_InvalidNumber (rk_cons (re_var 0) rk_nil)) (ra_cons (re_exK A.kx_InvalidBody A.xi_InvalidBody A.xt_InvalidBody (okx_init_InvalidBody A) (room.mono (by omega)) A.kbx_InvalidBody rfl (by rfl) A.xa_InvalidBody (rk_cons (re_var 0) rk_nil)) ra_nil))) (by exact Nat.le_of_ble_eq_true rfl)))
    (rss_cons (rs_expr (re_bm PySem.F.plainAttrs_list PySem.F.slot_list_append PySem.F.type_list_append m_append (re_var 1) (ra_cons (re_exK A.kx_InvalidProgram A.xi_InvalidProgram A.xt_InvalidProgram (okx_init_InvalidProgram A) (room.mono (by omega)) A.kbx_InvalidProgram rfl (by rfl) A.xa_InvalidProgram (rk_cons (re_var 0) rk_nil)) ra_nil)))
    (rss_cons (rs_set (i := 1) sc_law_named.nd rfl (.inl rfl) (re_addN (re_var 1) (re_new (ra_cons (re_exK A.kx_InvalidState A.xi_InvalidState A.xt_InvalidState (okx_init_InvalidState A) (room.mono (by omega)) A.kbx_InvalidState rfl (by rfl) A.xa_InvalidState (rk_cons (re_var 0) rk_nil)) (ra_cons (re_exK A.kx_InvalidChoice A.xi_InvalidChoice A.xt_InvalidChoice (okx_init_InvalidChoice A) (room.mono (by omega)) A.kbx_InvalidChoice rfl (by rfl) A.xa_InvalidChoice (rk_cons (re_var 0) rk_nil)) (ra_cons (re_exK A.kx_InvalidEvent A.xi_InvalidEvent A.xt_InvalidEvent (okx_init_InvalidEvent A) (room.mono (by omega)) A.kbx_InvalidEvent rfl (by rfl) A.xa_InvalidEvent (rk_cons (re_var 0) rk_nil)) ra_nil))) (by exact Nat.le_of_ble_eq_true rfl))))
    (rss_cons (rs_set (i := 1) sc_law_named.nd rfl (.inl rfl) (re_addN (re_var 1) (re_new (ra_cons (re_exK A.kx_InvalidLimits A.xi_InvalidLimits A.xt_InvalidLimits (okx_init_InvalidLimits A) (room.mono (by omega)) A.kbx_InvalidLimits rfl (by rfl) A.xa_InvalidLimits (rk_cons (re_var 0) rk_nil)) (ra_cons (re_exK A.kx_InvalidLog A.xi_InvalidLog A.xt_InvalidLog (okx_init_InvalidLog A) (room.mono (by omega)) A.kbx_InvalidLog rfl (by rfl) A.xa_InvalidLog (rk_cons (re_var 0) rk_nil)) (ra_cons (re_exK A.kx_InvalidCommand A.xi_InvalidCommand A.xt_InvalidCommand (okx_init_InvalidCommand A) (room.mono (by omega)) A.kbx_InvalidCommand rfl (by rfl) A.xa_InvalidCommand (rk_cons (re_var 0) rk_nil)) ra_nil))) (by exact Nat.le_of_ble_eq_true rfl))))
    (rss_one (rs_ret (re_addN (re_var 1) (re_new (ra_cons (re_exK A.kx_ParseError A.xi_ParseError A.xt_ParseError (okx_init_ParseError A) (room.mono (by omega)) A.kbx_ParseError rfl (by rfl) A.xa_ParseError (rk_cons (re_var 0) rk_nil)) (ra_cons (re_exK A.kx_TooMany A.xi_TooMany A.xt_TooMany (okx_init_TooMany A) (room.mono (by omega)) A.kbx_TooMany rfl (by rfl) A.xa_TooMany (rk_cons (re_var 0) rk_nil)) (ra_cons (re_ex0 A.k0_NothingToUndo (by rfl) A.xa_NothingToUndo) (ra_cons (re_ex0 A.k0_NothingToRedo (by rfl) A.xa_NothingToRedo) ra_nil)))) (by exact Nat.le_of_ble_eq_true rfl)))))))))
theorem ok_law_signs (A : FA w K mg) : FnG P w K mg base 5 A.f_law_signs A.d_law_signs ["_law_e"] (spG K 1 (m_law_signs A.xc)) :=
  okG (k := 4) A.F_law_signs sc_law_signs rfl rfl fun cd B outer s H E room gd => (rss_cons (rs_set (i := 1) sc_law_signs.nd rfl (.inl rfl) (re_new (ra_cons (re_callB (c_isXE (B := A.xc.InvalidName) (l := [(A.xc.InvalidName, true), (A.xc.InvalidNumber, false), (A.xc.InvalidBody, false), (A.xc.InvalidProgram, false), (A.xc.InvalidState, false), (A.xc.InvalidChoice, false), (A.xc.InvalidEvent, false), (A.xc.InvalidLimits, false), (A.xc.InvalidLog, false), (A.xc.InvalidCommand, false), (A.xc.ParseError, false), (A.xc.TooMany, false), (A.xc.NothingToUndo, false), (A.xc.NothingToRedo, false)]) ⟨⟨A.xis_InvalidName, A.xk_InvalidName_InvalidName⟩, ⟨A.xis_InvalidNumber, A.xk_InvalidNumber_InvalidName⟩, ⟨A.xis_InvalidBody, A.xk_InvalidBody_InvalidName⟩, ⟨A.xis_InvalidProgram, A.xk_InvalidProgram_InvalidName⟩, ⟨A.xis_InvalidState, A.xk_InvalidState_InvalidName⟩, ⟨A.xis_InvalidChoice, A.xk_InvalidChoice_InvalidName⟩, ⟨A.xis_InvalidEvent, A.xk_InvalidEvent_InvalidName⟩, ⟨A.xis_InvalidLimits, A.xk_InvalidLimits_InvalidName⟩, ⟨A.xis_InvalidLog, A.xk_InvalidLog_InvalidName⟩, ⟨A.xis_InvalidCommand, A.xk_InvalidCommand_InvalidName⟩, ⟨A.xis_ParseError, A.xk_ParseError_InvalidName⟩, ⟨A.xis_TooMany, A.xk_TooMany_InvalidName⟩, ⟨A.xis_NothingToUndo, A.xk_NothingToUndo_InvalidName⟩, ⟨A.xis_NothingToRedo, A.xk_NothingToRedo_InvalidName⟩, trivial⟩) (by rfl) A.n_isinstance rfl (ra_cons (re_var 0) (ra_cons (re_cls (by rfl) A.xa_InvalidName) ra_nil))) (ra_cons (re_callB (c_isXE (B := A.xc.InvalidNumber) (l := [(A.xc.InvalidName, false), (A.xc.InvalidNumber, true), (A.xc.InvalidBody, false), (A.xc.InvalidProgram, false), (A.xc.InvalidState, false), (A.xc.InvalidChoice, false), (A.xc.InvalidEvent, false), (A.xc.InvalidLimits, false), (A.xc.InvalidLog, false), (A.xc.InvalidCommand, false), (A.xc.ParseError, false), (A.xc.TooMany, false), (A.xc.NothingToUndo, false), (A.xc.NothingToRedo, false)]) ⟨⟨A.xis_InvalidName, A.xk_InvalidName_InvalidNumber⟩, ⟨A.xis_InvalidNumber, A.xk_InvalidNumber_InvalidNumber⟩, ⟨A.xis_InvalidBody, A.xk_InvalidBody_InvalidNumber⟩, ⟨A.xis_InvalidProgram, A.xk_InvalidProgram_InvalidNumber⟩, ⟨A.xis_InvalidState, A.xk_InvalidState_InvalidNumber⟩, ⟨A.xis_InvalidChoice, A.xk_InvalidChoice_InvalidNumber⟩, ⟨A.xis_InvalidEvent, A.xk_InvalidEvent_InvalidNumber⟩, ⟨A.xis_InvalidLimits, A.xk_InvalidLimits_InvalidNumber⟩, ⟨A.xis_InvalidLog, A.xk_InvalidLog_InvalidNumber⟩, ⟨A.xis_InvalidCommand, A.xk_InvalidCommand_InvalidNumber⟩, ⟨A.xis_ParseError, A.xk_ParseError_InvalidNumber⟩, ⟨A.xis_TooMany, A.xk_TooMany_InvalidNumber⟩, ⟨A.xis_NothingToUndo, A.xk_NothingToUndo_InvalidNumber⟩, ⟨A.xis_NothingToRedo, A.xk_NothingToRedo_InvalidNumber⟩, trivial⟩) (by rfl) A.n_isinstance rfl (ra_cons (re_var 0) (ra_cons (re_cls (by rfl) A.xa_InvalidNumber) ra_nil))) (ra_cons (re_callB (c_isXE (B := A.xc.InvalidBody) (l := [(A.xc.InvalidName, false), (A.xc.InvalidNumber, false), (A.xc.InvalidBody, true), (A.xc.InvalidProgram, false), (A.xc.InvalidState, false), (A.xc.InvalidChoice, false), (A.xc.InvalidEvent, false), (A.xc.InvalidLimits, false), (A.xc.InvalidLog, false), (A.xc.InvalidCommand, false), (A.xc.ParseError, false), (A.xc.TooMany, false), (A.xc.NothingToUndo, false), (A.xc.NothingToRedo, false)]) ⟨⟨A.xis_InvalidName, A.xk_InvalidName_InvalidBody⟩, ⟨A.xis_InvalidNumber, A.xk_InvalidNumber_InvalidBody⟩, ⟨A.xis_InvalidBody, A.xk_InvalidBody_InvalidBody⟩, ⟨A.xis_InvalidProgram, A.xk_InvalidProgram_InvalidBody⟩, ⟨A.xis_InvalidState, A.xk_InvalidState_InvalidBody⟩, ⟨A.xis_InvalidChoice, A.xk_InvalidChoice_InvalidBody⟩, ⟨A.xis_InvalidEvent, A.xk_InvalidEvent_InvalidBody⟩, ⟨A.xis_InvalidLimits, A.xk_InvalidLimits_InvalidBody⟩, ⟨A.xis_InvalidLog, A.xk_InvalidLog_InvalidBody⟩, ⟨A.xis_InvalidCommand, A.xk_InvalidCommand_InvalidBody⟩, ⟨A.xis_ParseError, A.xk_ParseError_InvalidBody⟩, ⟨A.xis_TooMany, A.xk_TooMany_InvalidBody⟩, ⟨A.xis_NothingToUndo, A.xk_NothingToUndo_InvalidBody⟩, ⟨A.xis_NothingToRedo, A.xk_NothingToRedo_InvalidBody⟩, trivial⟩) (by rfl) A.n_isinstance rfl (ra_cons (re_var 0) (ra_cons (re_cls (by rfl) A.xa_InvalidBody) ra_nil))) ra_nil))) (by exact Nat.le_of_ble_eq_true rfl)))
    (rss_cons (rs_set (i := 1) sc_law_signs.nd rfl (.inl rfl) (re_addN (re_var 1) (re_new (ra_cons (re_callB (c_isXE (B := A.xc.InvalidProgram) (l := [(A.xc.InvalidName, false), (A.xc.InvalidNumber, false), (A.xc.InvalidBody, false), (A.xc.InvalidProgram, true), (A.xc.InvalidState, false), (A.xc.InvalidChoice, false), (A.xc.InvalidEvent, false), (A.xc.InvalidLimits, false), (A.xc.InvalidLog, false), (A.xc.InvalidCommand, false), (A.xc.ParseError, false), (A.xc.TooMany, false), (A.xc.NothingToUndo, false), (A.xc.NothingToRedo, false)]) ⟨⟨A.xis_InvalidName, A.xk_InvalidName_InvalidProgram⟩, ⟨A.xis_InvalidNumber, A.xk_InvalidNumber_InvalidProgram⟩, ⟨A.xis_InvalidBody, A.xk_InvalidBody_InvalidProgram⟩, ⟨A.xis_InvalidProgram, A.xk_InvalidProgram_InvalidProgram⟩, ⟨A.xis_InvalidState, A.xk_InvalidState_InvalidProgram⟩, ⟨A.xis_InvalidChoice, A.xk_InvalidChoice_InvalidProgram⟩, ⟨A.xis_InvalidEvent, A.xk_InvalidEvent_InvalidProgram⟩, ⟨A.xis_InvalidLimits, A.xk_InvalidLimits_InvalidProgram⟩, ⟨A.xis_InvalidLog, A.xk_InvalidLog_InvalidProgram⟩, ⟨A.xis_InvalidCommand, A.xk_InvalidCommand_InvalidProgram⟩, ⟨A.xis_ParseError, A.xk_ParseError_InvalidProgram⟩, ⟨A.xis_TooMany, A.xk_TooMany_InvalidProgram⟩, ⟨A.xis_NothingToUndo, A.xk_NothingToUndo_InvalidProgram⟩, ⟨A.xis_NothingToRedo, A.xk_NothingToRedo_InvalidProgram⟩, trivial⟩) (by rfl) A.n_isinstance rfl (ra_cons (re_var 0) (ra_cons (re_cls (by rfl) A.xa_InvalidProgram) ra_nil))) (ra_cons (re_callB (c_isXE (B := A.xc.InvalidState) (l := [(A.xc.InvalidName, false), (A.xc.InvalidNumber, false), (A.xc.InvalidBody, false), (A.xc.InvalidProgram, false), (A.xc.InvalidState, true), (A.xc.InvalidChoice, false), (A.xc.InvalidEvent, false), (A.xc.InvalidLimits, false), (A.xc.InvalidLog, false), (A.xc.InvalidCommand, false), (A.xc.ParseError, false), (A.xc.TooMany, false), (A.xc.NothingToUndo, false), (A.xc.NothingToRedo, false)]) ⟨⟨A.xis_InvalidName, A.xk_InvalidName_InvalidState⟩, ⟨A.xis_InvalidNumber, A.xk_InvalidNumber_InvalidState⟩, ⟨A.xis_InvalidBody, A.xk_InvalidBody_InvalidState⟩, ⟨A.xis_InvalidProgram, A.xk_InvalidProgram_InvalidState⟩, ⟨A.xis_InvalidState, A.xk_InvalidState_InvalidState⟩, ⟨A.xis_InvalidChoice, A.xk_InvalidChoice_InvalidState⟩, ⟨A.xis_InvalidEvent, A.xk_InvalidEvent_InvalidState⟩, ⟨A.xis_InvalidLimits, A.xk_InvalidLimits_InvalidState⟩, ⟨A.xis_InvalidLog, A.xk_InvalidLog_InvalidState⟩, ⟨A.xis_InvalidCommand, A.xk_InvalidCommand_InvalidState⟩, ⟨A.xis_ParseError, A.xk_ParseError_InvalidState⟩, ⟨A.xis_TooMany, A.xk_TooMany_InvalidState⟩, ⟨A.xis_NothingToUndo, A.xk_NothingToUndo_InvalidState⟩, ⟨A.xis_NothingToRedo, A.xk_NothingToRedo_InvalidState⟩, trivial⟩) (by rfl) A.n_isinstance rfl (ra_cons (re_var 0) (ra_cons (re_cls (by rfl) A.xa_InvalidState) ra_nil))) (ra_cons (re_callB (c_isXE (B := A.xc.InvalidChoice) (l := [(A.xc.InvalidName, false), (A.xc.InvalidNumber, false), (A.xc.InvalidBody, false), (A.xc.InvalidProgram, false), (A.xc.InvalidState, false), (A.xc.InvalidChoice, true), (A.xc.InvalidEvent, false), (A.xc.InvalidLimits, false), (A.xc.InvalidLog, false), (A.xc.InvalidCommand, false), (A.xc.ParseError, false), (A.xc.TooMany, false), (A.xc.NothingToUndo, false), (A.xc.NothingToRedo, false)]) ⟨⟨A.xis_InvalidName, A.xk_InvalidName_InvalidChoice⟩, ⟨A.xis_InvalidNumber, A.xk_InvalidNumber_InvalidChoice⟩, ⟨A.xis_InvalidBody, A.xk_InvalidBody_InvalidChoice⟩, ⟨A.xis_InvalidProgram, A.xk_InvalidProgram_InvalidChoice⟩, ⟨A.xis_InvalidState, A.xk_InvalidState_InvalidChoice⟩, ⟨A.xis_InvalidChoice, A.xk_InvalidChoice_InvalidChoice⟩, ⟨A.xis_InvalidEvent, A.xk_InvalidEvent_InvalidChoice⟩, ⟨A.xis_InvalidLimits, A.xk_InvalidLimits_InvalidChoice⟩, ⟨A.xis_InvalidLog, A.xk_InvalidLog_InvalidChoice⟩, ⟨A.xis_InvalidCommand, A.xk_InvalidCommand_InvalidChoice⟩, ⟨A.xis_ParseError, A.xk_ParseError_InvalidChoice⟩, ⟨A.xis_TooMany, A.xk_TooMany_InvalidChoice⟩, ⟨A.xis_NothingToUndo, A.xk_NothingToUndo_InvalidChoice⟩, ⟨A.xis_NothingToRedo, A.xk_NothingToRedo_InvalidChoice⟩, trivial⟩) (by rfl) A.n_isinstance rfl (ra_cons (re_var 0) (ra_cons (re_cls (by rfl) A.xa_InvalidChoice) ra_nil))) ra_nil))) (by exact Nat.le_of_ble_eq_true rfl))))
    (rss_cons (rs_set (i := 1) sc_law_signs.nd rfl (.inl rfl) (re_addN (re_var 1) (re_new (ra_cons (re_callB (c_isXE (B := A.xc.InvalidEvent) (l := [(A.xc.InvalidName, false), (A.xc.InvalidNumber, false), (A.xc.InvalidBody, false), (A.xc.InvalidProgram, false), (A.xc.InvalidState, false), (A.xc.InvalidChoice, false), (A.xc.InvalidEvent, true), (A.xc.InvalidLimits, false), (A.xc.InvalidLog, false), (A.xc.InvalidCommand, false), (A.xc.ParseError, false), (A.xc.TooMany, false), (A.xc.NothingToUndo, false), (A.xc.NothingToRedo, false)]) ⟨⟨A.xis_InvalidName, A.xk_InvalidName_InvalidEvent⟩, ⟨A.xis_InvalidNumber, A.xk_InvalidNumber_InvalidEvent⟩, ⟨A.xis_InvalidBody, A.xk_InvalidBody_InvalidEvent⟩, ⟨A.xis_InvalidProgram, A.xk_InvalidProgram_InvalidEvent⟩, ⟨A.xis_InvalidState, A.xk_InvalidState_InvalidEvent⟩, ⟨A.xis_InvalidChoice, A.xk_InvalidChoice_InvalidEvent⟩, ⟨A.xis_InvalidEvent, A.xk_InvalidEvent_InvalidEvent⟩, ⟨A.xis_InvalidLimits, A.xk_InvalidLimits_InvalidEvent⟩, ⟨A.xis_InvalidLog, A.xk_InvalidLog_InvalidEvent⟩, ⟨A.xis_InvalidCommand, A.xk_InvalidCommand_InvalidEvent⟩, ⟨A.xis_ParseError, A.xk_ParseError_InvalidEvent⟩, ⟨A.xis_TooMany, A.xk_TooMany_InvalidEvent⟩, ⟨A.xis_NothingToUndo, A.xk_NothingToUndo_InvalidEvent⟩, ⟨A.xis_NothingToRedo, A.xk_NothingToRedo_InvalidEvent⟩, trivial⟩) (by rfl) A.n_isinstance rfl (ra_cons (re_var 0) (ra_cons (re_cls (by rfl) A.xa_InvalidEvent) ra_nil))) (ra_cons (re_callB (c_isXE (B := A.xc.InvalidLimits) (l := [(A.xc.InvalidName, false), (A.xc.InvalidNumber, false), (A.xc.InvalidBody, false), (A.xc.InvalidProgram, false), (A.xc.InvalidState, false), (A.xc.InvalidChoice, false), (A.xc.InvalidEvent, false), (A.xc.InvalidLimits, true), (A.xc.InvalidLog, false), (A.xc.InvalidCommand, false), (A.xc.ParseError, false), (A.xc.TooMany, false), (A.xc.NothingToUndo, false), (A.xc.NothingToRedo, false)]) ⟨⟨A.xis_InvalidName, A.xk_InvalidName_InvalidLimits⟩, ⟨A.xis_InvalidNumber, A.xk_InvalidNumber_InvalidLimits⟩, ⟨A.xis_InvalidBody, A.xk_InvalidBody_InvalidLimits⟩, ⟨A.xis_InvalidProgram, A.xk_InvalidProgram_InvalidLimits⟩, ⟨A.xis_InvalidState, A.xk_InvalidState_InvalidLimits⟩, ⟨A.xis_InvalidChoice, A.xk_InvalidChoice_InvalidLimits⟩, ⟨A.xis_InvalidEvent, A.xk_InvalidEvent_InvalidLimits⟩, ⟨A.xis_InvalidLimits, A.xk_InvalidLimits_InvalidLimits⟩, ⟨A.xis_InvalidLog, A.xk_InvalidLog_InvalidLimits⟩, ⟨A.xis_InvalidCommand, A.xk_InvalidCommand_InvalidLimits⟩, ⟨A.xis_ParseError, A.xk_ParseError_InvalidLimits⟩, ⟨A.xis_TooMany, A.xk_TooMany_InvalidLimits⟩, ⟨A.xis_NothingToUndo, A.xk_NothingToUndo_InvalidLimits⟩, ⟨A.xis_NothingToRedo, A.xk_NothingToRedo_InvalidLimits⟩, trivial⟩) (by rfl) A.n_isinstance rfl (ra_cons (re_var 0) (ra_cons (re_cls (by rfl) A.xa_InvalidLimits) ra_nil))) (ra_cons (re_callB (c_isXE (B := A.xc.InvalidLog) (l := [(A.xc.InvalidName, false), (A.xc.InvalidNumber, false), (A.xc.InvalidBody, false), (A.xc.InvalidProgram, false), (A.xc.InvalidState, false), (A.xc.InvalidChoice, false), (A.xc.InvalidEvent, false), (A.xc.InvalidLimits, false), (A.xc.InvalidLog, true), (A.xc.InvalidCommand, false), (A.xc.ParseError, false), (A.xc.TooMany, false), (A.xc.NothingToUndo, false), (A.xc.NothingToRedo, false)]) ⟨⟨A.xis_InvalidName, A.xk_InvalidName_InvalidLog⟩, ⟨A.xis_InvalidNumber, A.xk_InvalidNumber_InvalidLog⟩, ⟨A.xis_InvalidBody, A.xk_InvalidBody_InvalidLog⟩, ⟨A.xis_InvalidProgram, A.xk_InvalidProgram_InvalidLog⟩, ⟨A.xis_InvalidState, A.xk_InvalidState_InvalidLog⟩, ⟨A.xis_InvalidChoice, A.xk_InvalidChoice_InvalidLog⟩, ⟨A.xis_InvalidEvent, A.xk_InvalidEvent_InvalidLog⟩, ⟨A.xis_InvalidLimits, A.xk_InvalidLimits_InvalidLog⟩, ⟨A.xis_InvalidLog, A.xk_InvalidLog_InvalidLog⟩, ⟨A.xis_InvalidCommand, A.xk_InvalidCommand_InvalidLog⟩, ⟨A.xis_ParseError, A.xk_ParseError_InvalidLog⟩, ⟨A.xis_TooMany, A.xk_TooMany_InvalidLog⟩, ⟨A.xis_NothingToUndo, A.xk_NothingToUndo_InvalidLog⟩, ⟨A.xis_NothingToRedo, A.xk_NothingToRedo_InvalidLog⟩, trivial⟩) (by rfl) A.n_isinstance rfl (ra_cons (re_var 0) (ra_cons (re_cls (by rfl) A.xa_InvalidLog) ra_nil))) ra_nil))) (by exact Nat.le_of_ble_eq_true rfl))))
    (rss_cons (rs_set (i := 1) sc_law_signs.nd rfl (.inl rfl) (re_addN (re_var 1) (re_new (ra_cons (re_callB (c_isXE (B := A.xc.InvalidCommand) (l := [(A.xc.InvalidName, false), (A.xc.InvalidNumber, false), (A.xc.InvalidBody, false), (A.xc.InvalidProgram, false), (A.xc.InvalidState, false), (A.xc.InvalidChoice, false), (A.xc.InvalidEvent, false), (A.xc.InvalidLimits, false), (A.xc.InvalidLog, false), (A.xc.InvalidCommand, true), (A.xc.ParseError, false), (A.xc.TooMany, false), (A.xc.NothingToUndo, false), (A.xc.NothingToRedo, false)]) ⟨⟨A.xis_InvalidName, A.xk_InvalidName_InvalidCommand⟩, ⟨A.xis_InvalidNumber, A.xk_InvalidNumber_InvalidCommand⟩, ⟨A.xis_InvalidBody, A.xk_InvalidBody_InvalidCommand⟩, ⟨A.xis_InvalidProgram, A.xk_InvalidProgram_InvalidCommand⟩, ⟨A.xis_InvalidState, A.xk_InvalidState_InvalidCommand⟩, ⟨A.xis_InvalidChoice, A.xk_InvalidChoice_InvalidCommand⟩, ⟨A.xis_InvalidEvent, A.xk_InvalidEvent_InvalidCommand⟩, ⟨A.xis_InvalidLimits, A.xk_InvalidLimits_InvalidCommand⟩, ⟨A.xis_InvalidLog, A.xk_InvalidLog_InvalidCommand⟩, ⟨A.xis_InvalidCommand, A.xk_InvalidCommand_InvalidCommand⟩, ⟨A.xis_ParseError, A.xk_ParseError_InvalidCommand⟩, ⟨A.xis_TooMany, A.xk_TooMany_InvalidCommand⟩, ⟨A.xis_NothingToUndo, A.xk_NothingToUndo_InvalidCommand⟩, ⟨A.xis_NothingToRedo, A.xk_NothingToRedo_InvalidCommand⟩, trivial⟩) (by rfl) A.n_isinstance rfl (ra_cons (re_var 0) (ra_cons (re_cls (by rfl) A.xa_InvalidCommand) ra_nil))) (ra_cons (re_callB (c_isXE (B := A.xc.ParseError) (l := [(A.xc.InvalidName, false), (A.xc.InvalidNumber, false), (A.xc.InvalidBody, false), (A.xc.InvalidProgram, false), (A.xc.InvalidState, false), (A.xc.InvalidChoice, false), (A.xc.InvalidEvent, false), (A.xc.InvalidLimits, false), (A.xc.InvalidLog, false), (A.xc.InvalidCommand, false), (A.xc.ParseError, true), (A.xc.TooMany, false), (A.xc.NothingToUndo, false), (A.xc.NothingToRedo, false)]) ⟨⟨A.xis_InvalidName, A.xk_InvalidName_ParseError⟩, ⟨A.xis_InvalidNumber, A.xk_InvalidNumber_ParseError⟩, ⟨A.xis_InvalidBody, A.xk_InvalidBody_ParseError⟩, ⟨A.xis_InvalidProgram, A.xk_InvalidProgram_ParseError⟩, ⟨A.xis_InvalidState, A.xk_InvalidState_ParseError⟩, ⟨A.xis_InvalidChoice, A.xk_InvalidChoice_ParseError⟩, ⟨A.xis_InvalidEvent, A.xk_InvalidEvent_ParseError⟩, ⟨A.xis_InvalidLimits, A.xk_InvalidLimits_ParseError⟩, ⟨A.xis_InvalidLog, A.xk_InvalidLog_ParseError⟩, ⟨A.xis_InvalidCommand, A.xk_InvalidCommand_ParseError⟩, ⟨A.xis_ParseError, A.xk_ParseError_ParseError⟩, ⟨A.xis_TooMany, A.xk_TooMany_ParseError⟩, ⟨A.xis_NothingToUndo, A.xk_NothingToUndo_ParseError⟩, ⟨A.xis_NothingToRedo, A.xk_NothingToRedo_ParseError⟩, trivial⟩) (by rfl) A.n_isinstance rfl (ra_cons (re_var 0) (ra_cons (re_cls (by rfl) A.xa_ParseError) ra_nil))) (ra_cons (re_callB (c_isXE (B := A.xc.TooMany) (l := [(A.xc.InvalidName, false), (A.xc.InvalidNumber, false), (A.xc.InvalidBody, false), (A.xc.InvalidProgram, false), (A.xc.InvalidState, false), (A.xc.InvalidChoice, false), (A.xc.InvalidEvent, false), (A.xc.InvalidLimits, false), (A.xc.InvalidLog, false), (A.xc.InvalidCommand, false), (A.xc.ParseError, false), (A.xc.TooMany, true), (A.xc.NothingToUndo, false), (A.xc.NothingToRedo, false)]) ⟨⟨A.xis_InvalidName, A.xk_InvalidName_TooMany⟩, ⟨A.xis_InvalidNumber, A.xk_InvalidNumber_TooMany⟩, ⟨A.xis_InvalidBody, A.xk_InvalidBody_TooMany⟩, ⟨A.xis_InvalidProgram, A.xk_InvalidProgram_TooMany⟩, ⟨A.xis_InvalidState, A.xk_InvalidState_TooMany⟩, ⟨A.xis_InvalidChoice, A.xk_InvalidChoice_TooMany⟩, ⟨A.xis_InvalidEvent, A.xk_InvalidEvent_TooMany⟩, ⟨A.xis_InvalidLimits, A.xk_InvalidLimits_TooMany⟩, ⟨A.xis_InvalidLog, A.xk_InvalidLog_TooMany⟩, ⟨A.xis_InvalidCommand, A.xk_InvalidCommand_TooMany⟩, ⟨A.xis_ParseError, A.xk_ParseError_TooMany⟩, ⟨A.xis_TooMany, A.xk_TooMany_TooMany⟩, ⟨A.xis_NothingToUndo, A.xk_NothingToUndo_TooMany⟩, ⟨A.xis_NothingToRedo, A.xk_NothingToRedo_TooMany⟩, trivial⟩) (by rfl) A.n_isinstance rfl (ra_cons (re_var 0) (ra_cons (re_cls (by rfl) A.xa_TooMany) ra_nil))) ra_nil))) (by exact Nat.le_of_ble_eq_true rfl))))
    (rss_one (rs_ret (re_addN (re_var 1) (re_new (ra_cons (re_callB (c_isXE (B := A.xc.NothingToUndo) (l := [(A.xc.InvalidName, false), (A.xc.InvalidNumber, false), (A.xc.InvalidBody, false), (A.xc.InvalidProgram, false), (A.xc.InvalidState, false), (A.xc.InvalidChoice, false), (A.xc.InvalidEvent, false), (A.xc.InvalidLimits, false), (A.xc.InvalidLog, false), (A.xc.InvalidCommand, false), (A.xc.ParseError, false), (A.xc.TooMany, false), (A.xc.NothingToUndo, true), (A.xc.NothingToRedo, false)]) ⟨⟨A.xis_InvalidName, A.xk_InvalidName_NothingToUndo⟩, ⟨A.xis_InvalidNumber, A.xk_InvalidNumber_NothingToUndo⟩, ⟨A.xis_InvalidBody, A.xk_InvalidBody_NothingToUndo⟩, ⟨A.xis_InvalidProgram, A.xk_InvalidProgram_NothingToUndo⟩, ⟨A.xis_InvalidState, A.xk_InvalidState_NothingToUndo⟩, ⟨A.xis_InvalidChoice, A.xk_InvalidChoice_NothingToUndo⟩, ⟨A.xis_InvalidEvent, A.xk_InvalidEvent_NothingToUndo⟩, ⟨A.xis_InvalidLimits, A.xk_InvalidLimits_NothingToUndo⟩, ⟨A.xis_InvalidLog, A.xk_InvalidLog_NothingToUndo⟩, ⟨A.xis_InvalidCommand, A.xk_InvalidCommand_NothingToUndo⟩, ⟨A.xis_ParseError, A.xk_ParseError_NothingToUndo⟩, ⟨A.xis_TooMany, A.xk_TooMany_NothingToUndo⟩, ⟨A.xis_NothingToUndo, A.xk_NothingToUndo_NothingToUndo⟩, ⟨A.xis_NothingToRedo, A.xk_NothingToRedo_NothingToUndo⟩, trivial⟩) (by rfl) A.n_isinstance rfl (ra_cons (re_var 0) (ra_cons (re_cls (by rfl) A.xa_NothingToUndo) ra_nil))) (ra_cons (re_callB (c_isXE (B := A.xc.NothingToRedo) (l := [(A.xc.InvalidName, false), (A.xc.InvalidNumber, false), (A.xc.InvalidBody, false), (A.xc.InvalidProgram, false), (A.xc.InvalidState, false), (A.xc.InvalidChoice, false), (A.xc.InvalidEvent, false), (A.xc.InvalidLimits, false), (A.xc.InvalidLog, false), (A.xc.InvalidCommand, false), (A.xc.ParseError, false), (A.xc.TooMany, false), (A.xc.NothingToUndo, false), (A.xc.NothingToRedo, true)]) ⟨⟨A.xis_InvalidName, A.xk_InvalidName_NothingToRedo⟩, ⟨A.xis_InvalidNumber, A.xk_InvalidNumber_NothingToRedo⟩, ⟨A.xis_InvalidBody, A.xk_InvalidBody_NothingToRedo⟩, ⟨A.xis_InvalidProgram, A.xk_InvalidProgram_NothingToRedo⟩, ⟨A.xis_InvalidState, A.xk_InvalidState_NothingToRedo⟩, ⟨A.xis_InvalidChoice, A.xk_InvalidChoice_NothingToRedo⟩, ⟨A.xis_InvalidEvent, A.xk_InvalidEvent_NothingToRedo⟩, ⟨A.xis_InvalidLimits, A.xk_InvalidLimits_NothingToRedo⟩, ⟨A.xis_InvalidLog, A.xk_InvalidLog_NothingToRedo⟩, ⟨A.xis_InvalidCommand, A.xk_InvalidCommand_NothingToRedo⟩, ⟨A.xis_ParseError, A.xk_ParseError_NothingToRedo⟩, ⟨A.xis_TooMany, A.xk_TooMany_NothingToRedo⟩, ⟨A.xis_NothingToUndo, A.xk_NothingToUndo_NothingToRedo⟩, ⟨A.xis_NothingToRedo, A.xk_NothingToRedo_NothingToRedo⟩, trivial⟩) (by rfl) A.n_isinstance rfl (ra_cons (re_var 0) (ra_cons (re_cls (by rfl) A.xa_NothingToRedo) ra_nil))) ra_nil)) (by exact Nat.le_of_ble_eq_true rfl)))))))))
theorem ok_law (A : FA w K mg) : FnG P w K mg base 6 A.f_law A.d_law ["_law_script"] (spG K 1 (m_law A.xc)) :=
  okG (k := 5) A.F_law sc_law rfl rfl fun cd B outer s H E room gd => (rss_cons (rs_for (us := [1]) own_def rfl (ri_any (re_new (ra_cons re_non (ra_cons re_int (ra_cons re_str (ra_cons (re_new (ra_cons re_str ra_nil) (by exact Nat.le_of_ble_eq_true rfl)) (ra_cons (re_tup (ra_cons re_str (ra_cons re_int ra_nil)) (by exact Nat.le_of_ble_eq_true rfl)) (ra_cons re_bl ra_nil)))))) (by exact Nat.le_of_ble_eq_true rfl))) (rg_name (i := 1) sc_law.nd rfl (by first | exact .inl rfl | exact .inr rfl))
    (rss_one (rs_for (us := [2]) own_def rfl (ri_any (re_new (ra_cons (re_callG (ok_law_made A) (room.mono (by omega)) gd takes_def (by rfl) A.a_law_made A.h_law_made A.b_law_made (ra_cons (re_var 1) ra_nil)) (ra_cons (re_callG (ok_law_named A) (room.mono (by omega)) gd takes_def (by rfl) A.a_law_named A.h_law_named A.b_law_named (ra_cons (re_var 1) ra_nil)) ra_nil)) (by exact Nat.le_of_ble_eq_true rfl))) (rg_name (i := 2) sc_law.nd rfl (by first | exact .inl rfl | exact .inr rfl))
    (rss_cons (rs_forE (i := 4) (j := 5) own_def rfl (by rfl) A.n_enumerate (re_var 2) sc_law.nd rfl rfl (.inr rfl) (.inl rfl)
    (rss_cons (rs_if (rt_cmp (o_neX (uns room)) (re_callG (ok_law_signs A) (room.mono (by omega)) gd takes_def (by rfl) A.a_law_signs A.h_law_signs A.b_law_signs (ra_cons (re_var 5) ra_nil)) (re_lc (own := [("_law_place", 6)]) rfl sc_law.nd (ri_range1 (by rfl) A.n_range (ra_cons re_int ra_nil)) (by exact blkOk_by (N := ["_law_script", "_law_x", "_law_some", "_law_fields", "_law_at", "_law_e", "_law_place"]) (sc := defScope s_law) (by decide +kernel)) (fun _ _ _ _ _ => (rg_name (i := 6) sc_law.nd rfl (by first | exact .inl rfl | exact .inr rfl))) (fun _ _ _ _ _ => rts_nil) (fun _ _ _ _ _ => (re_cmp (o_eq (uns room)) (re_var 6) (re_var 4) rfl))) rfl) (rss_one (rs_ret re_bl)) rss_nil)
    (rss_cons (rs_if (PW.pt (rw_or (rt_cmp (o_ne (uns room)) (re_callB (c_isXE (B := A.xc.RunError) (l := [(A.xc.InvalidName, true), (A.xc.InvalidNumber, true), (A.xc.InvalidBody, true), (A.xc.InvalidProgram, true), (A.xc.InvalidState, true), (A.xc.InvalidChoice, true), (A.xc.InvalidEvent, true), (A.xc.InvalidLimits, true), (A.xc.InvalidLog, true), (A.xc.InvalidCommand, true), (A.xc.ParseError, true), (A.xc.TooMany, false), (A.xc.NothingToUndo, false), (A.xc.NothingToRedo, false)]) ⟨⟨A.xis_InvalidName, A.xk_InvalidName_RunError⟩, ⟨A.xis_InvalidNumber, A.xk_InvalidNumber_RunError⟩, ⟨A.xis_InvalidBody, A.xk_InvalidBody_RunError⟩, ⟨A.xis_InvalidProgram, A.xk_InvalidProgram_RunError⟩, ⟨A.xis_InvalidState, A.xk_InvalidState_RunError⟩, ⟨A.xis_InvalidChoice, A.xk_InvalidChoice_RunError⟩, ⟨A.xis_InvalidEvent, A.xk_InvalidEvent_RunError⟩, ⟨A.xis_InvalidLimits, A.xk_InvalidLimits_RunError⟩, ⟨A.xis_InvalidLog, A.xk_InvalidLog_RunError⟩, ⟨A.xis_InvalidCommand, A.xk_InvalidCommand_RunError⟩, ⟨A.xis_ParseError, A.xk_ParseError_RunError⟩, ⟨A.xis_TooMany, A.xk_TooMany_RunError⟩, ⟨A.xis_NothingToUndo, A.xk_NothingToUndo_RunError⟩, ⟨A.xis_NothingToRedo, A.xk_NothingToRedo_RunError⟩, trivial⟩) (by rfl) A.n_isinstance rfl (ra_cons (re_var 5) (ra_cons (re_cls (by rfl) A.xa_RunError) ra_nil))) (re_cmp o_lt (re_var 4) re_int rfl) rfl) (rw_or1 (rt_cmp (o_ne (uns room)) (re_callB (c_isXT (n := "ValueError") (l := [(A.xc.InvalidName, true), (A.xc.InvalidNumber, true), (A.xc.InvalidBody, true), (A.xc.InvalidProgram, true), (A.xc.InvalidState, true), (A.xc.InvalidChoice, true), (A.xc.InvalidEvent, true), (A.xc.InvalidLimits, true), (A.xc.InvalidLog, true), (A.xc.InvalidCommand, true), (A.xc.ParseError, true), (A.xc.TooMany, false), (A.xc.NothingToUndo, false), (A.xc.NothingToRedo, false)]) ⟨⟨A.xis_InvalidName, A.xk_InvalidName_ValueError⟩, ⟨A.xis_InvalidNumber, A.xk_InvalidNumber_ValueError⟩, ⟨A.xis_InvalidBody, A.xk_InvalidBody_ValueError⟩, ⟨A.xis_InvalidProgram, A.xk_InvalidProgram_ValueError⟩, ⟨A.xis_InvalidState, A.xk_InvalidState_ValueError⟩, ⟨A.xis_InvalidChoice, A.xk_InvalidChoice_ValueError⟩, ⟨A.xis_InvalidEvent, A.xk_InvalidEvent_ValueError⟩, ⟨A.xis_InvalidLimits, A.xk_InvalidLimits_ValueError⟩, ⟨A.xis_InvalidLog, A.xk_InvalidLog_ValueError⟩, ⟨A.xis_InvalidCommand, A.xk_InvalidCommand_ValueError⟩, ⟨A.xis_ParseError, A.xk_ParseError_ValueError⟩, ⟨A.xis_TooMany, A.xk_TooMany_ValueError⟩, ⟨A.xis_NothingToUndo, A.xk_NothingToUndo_ValueError⟩, ⟨A.xis_NothingToRedo, A.xk_NothingToRedo_ValueError⟩, trivial⟩) (by rfl) A.n_isinstance rfl (ra_cons (re_var 5) (ra_cons (re_bltn (by rfl) A.n_ValueError rfl) ra_nil))) (re_cmp o_lt (re_var 4) re_int rfl) rfl)))) (rss_one (rs_ret re_bl)) rss_nil)
    (rss_one (rs_if (PW.pt (rw_or (rt_cmp (o_ne (uns room)) (re_callB (c_isXT (n := "OverflowError") (l := [(A.xc.InvalidName, false), (A.xc.InvalidNumber, false), (A.xc.InvalidBody, false), (A.xc.InvalidProgram, false), (A.xc.InvalidState, false), (A.xc.InvalidChoice, false), (A.xc.InvalidEvent, false), (A.xc.InvalidLimits, false), (A.xc.InvalidLog, false), (A.xc.InvalidCommand, false), (A.xc.ParseError, false), (A.xc.TooMany, true), (A.xc.NothingToUndo, false), (A.xc.NothingToRedo, false)]) ⟨⟨A.xis_InvalidName, A.xk_InvalidName_OverflowError⟩, ⟨A.xis_InvalidNumber, A.xk_InvalidNumber_OverflowError⟩, ⟨A.xis_InvalidBody, A.xk_InvalidBody_OverflowError⟩, ⟨A.xis_InvalidProgram, A.xk_InvalidProgram_OverflowError⟩, ⟨A.xis_InvalidState, A.xk_InvalidState_OverflowError⟩, ⟨A.xis_InvalidChoice, A.xk_InvalidChoice_OverflowError⟩, ⟨A.xis_InvalidEvent, A.xk_InvalidEvent_OverflowError⟩, ⟨A.xis_InvalidLimits, A.xk_InvalidLimits_OverflowError⟩, ⟨A.xis_InvalidLog, A.xk_InvalidLog_OverflowError⟩, ⟨A.xis_InvalidCommand, A.xk_InvalidCommand_OverflowError⟩, ⟨A.xis_ParseError, A.xk_ParseError_OverflowError⟩, ⟨A.xis_TooMany, A.xk_TooMany_OverflowError⟩, ⟨A.xis_NothingToUndo, A.xk_NothingToUndo_OverflowError⟩, ⟨A.xis_NothingToRedo, A.xk_NothingToRedo_OverflowError⟩, trivial⟩) (by rfl) A.n_isinstance rfl (ra_cons (re_var 5) (ra_cons (re_bltn (by rfl) A.n_OverflowError rfl) ra_nil))) (re_cmp (o_eq (uns room)) (re_var 4) re_int rfl) rfl) (rw_or1 (rt_cmp (o_ne (uns room)) (re_callB (c_isXT (n := "LookupError") (l := [(A.xc.InvalidName, false), (A.xc.InvalidNumber, false), (A.xc.InvalidBody, false), (A.xc.InvalidProgram, false), (A.xc.InvalidState, false), (A.xc.InvalidChoice, false), (A.xc.InvalidEvent, false), (A.xc.InvalidLimits, false), (A.xc.InvalidLog, false), (A.xc.InvalidCommand, false), (A.xc.ParseError, false), (A.xc.TooMany, false), (A.xc.NothingToUndo, true), (A.xc.NothingToRedo, true)]) ⟨⟨A.xis_InvalidName, A.xk_InvalidName_LookupError⟩, ⟨A.xis_InvalidNumber, A.xk_InvalidNumber_LookupError⟩, ⟨A.xis_InvalidBody, A.xk_InvalidBody_LookupError⟩, ⟨A.xis_InvalidProgram, A.xk_InvalidProgram_LookupError⟩, ⟨A.xis_InvalidState, A.xk_InvalidState_LookupError⟩, ⟨A.xis_InvalidChoice, A.xk_InvalidChoice_LookupError⟩, ⟨A.xis_InvalidEvent, A.xk_InvalidEvent_LookupError⟩, ⟨A.xis_InvalidLimits, A.xk_InvalidLimits_LookupError⟩, ⟨A.xis_InvalidLog, A.xk_InvalidLog_LookupError⟩, ⟨A.xis_InvalidCommand, A.xk_InvalidCommand_LookupError⟩, ⟨A.xis_ParseError, A.xk_ParseError_LookupError⟩, ⟨A.xis_TooMany, A.xk_TooMany_LookupError⟩, ⟨A.xis_NothingToUndo, A.xk_NothingToUndo_LookupError⟩, ⟨A.xis_NothingToRedo, A.xk_NothingToRedo_LookupError⟩, trivial⟩) (by rfl) A.n_isinstance rfl (ra_cons (re_var 5) (ra_cons (re_bltn (by rfl) A.n_LookupError rfl) ra_nil))) (re_cmp o_gt (re_var 4) re_int rfl) rfl)))) (rss_one (rs_ret re_bl)) rss_nil)))))
    (rss_cons (rs_set (i := 3) sc_law.nd rfl (.inl rfl) (re_addN (re_lcN (own := [("_law_e", 5)]) rfl sc_law.nd (ri_any (re_sliceN (re_var 2) ro_none (ro_some re_int))) (by exact blkOk_by (N := ["_law_script", "_law_x", "_law_some", "_law_fields", "_law_at", "_law_e", "_law_place"]) (sc := defScope s_law) (by decide +kernel)) (fun _ _ _ _ _ => (rg_name (i := 5) sc_law.nd rfl (by first | exact .inl rfl | exact .inr rfl))) (fun _ _ _ _ _ => rts_nil) (fun _ _ _ _ _ => (re_xg (cs := csL [A.xc.InvalidName, A.xc.InvalidNumber, A.xc.InvalidBody, A.xc.InvalidProgram, A.xc.InvalidState, A.xc.InvalidChoice, A.xc.InvalidEvent, A.xc.InvalidLimits, A.xc.InvalidLog, A.xc.InvalidCommand]) A.xg_value (re_var 5)))) (re_new (ra_cons (re_xg (cs := csL [A.xc.ParseError]) A.xg_line (re_ix x_ix (re_var 2) re_int)) (ra_cons (re_xg (cs := csL [A.xc.TooMany]) A.xg_limit (re_ix x_ix (re_var 2) re_int)) ra_nil)) (by exact Nat.le_of_ble_eq_true rfl))))
    (rss_cons (rs_if (rt_val (re_callB c_isi (by rfl) A.n_isinstance rfl (ra_cons (re_var 1) (ra_cons (re_bltn (by rfl) A.n_list rfl) ra_nil)))) (rss_one (rs_expr (re_bm PySem.F.plainAttrs_list PySem.F.slot_list_append PySem.F.type_list_append m_append (re_var 1) (ra_cons (re_callB c_len (by rfl) A.n_len rfl (ra_cons (re_var 1) ra_nil)) ra_nil)))) rss_nil)
    (rss_one (rs_if (rt_cmp (o_neX (uns room)) (re_var 3) (re_mulN (re_new (ra_cons (re_var 1) ra_nil) (by exact Nat.le_of_ble_eq_true rfl)) re_int) rfl) (rss_one (rs_ret re_bl)) rss_nil))))))))
    (rss_one (rs_ret re_bl)))
end
end
end K03
/-! K03m -/
namespace K03
open Mi Md L2 PySem PySem.Spec PyProof.Rows
/-- the classes differ -/
def FaDis (xc : XC) : Prop := List.Nodup [xc.InvalidName, xc.InvalidNumber, xc.InvalidBody, xc.InvalidProgram, xc.InvalidState, xc.InvalidChoice, xc.InvalidEvent, xc.InvalidLimits, xc.InvalidLog, xc.InvalidCommand, xc.ParseError, xc.TooMany, xc.NothingToUndo, xc.NothingToRedo]
theorem kt_ne {K : PySem.W.Frag} {a c : Addr} (h : PySem.W.kitOne K (.ref a) (.ref a) = some true) (h2 : PySem.W.kitOne K (.ref c) (.ref a) = some false) : a ≠ c := fun e => by
  subst e
  rw [h] at h2
  cases h2
theorem nd_cons {a : Addr} {l : List Addr} (h : ∀ b ∈ l, a ≠ b) (n : l.Nodup) : (a :: l).Nodup := List.nodup_cons.mpr ⟨fun m => h a m rfl, n⟩
theorem fa_dis {w : World} {K : PySem.W.Frag} {mg : Str → Option Value} (A : FA w K mg) : FaDis A.xc :=
  nd_cons (List.forall_mem_cons.mpr ⟨kt_ne A.xk_InvalidName_InvalidName A.xk_InvalidNumber_InvalidName, (List.forall_mem_cons.mpr ⟨kt_ne A.xk_InvalidName_InvalidName A.xk_InvalidBody_InvalidName, (List.forall_mem_cons.mpr ⟨kt_ne A.xk_InvalidName_InvalidName A.xk_InvalidProgram_InvalidName, (List.forall_mem_cons.mpr ⟨kt_ne A.xk_InvalidName_InvalidName A.xk_InvalidState_InvalidName, (List.forall_mem_cons.mpr ⟨kt_ne A.xk_InvalidName_InvalidName A.xk_InvalidChoice_InvalidName, (List.forall_mem_cons.mpr ⟨kt_ne A.xk_InvalidName_InvalidName A.xk_InvalidEvent_InvalidName, (List.forall_mem_cons.mpr ⟨kt_ne A.xk_InvalidName_InvalidName A.xk_InvalidLimits_InvalidName, (List.forall_mem_cons.mpr ⟨kt_ne A.xk_InvalidName_InvalidName A.xk_InvalidLog_InvalidName, (List.forall_mem_cons.mpr ⟨kt_ne A.xk_InvalidName_InvalidName A.xk_InvalidCommand_InvalidName, (List.forall_mem_cons.mpr ⟨kt_ne A.xk_InvalidName_InvalidName A.xk_ParseError_InvalidName, (List.forall_mem_cons.mpr ⟨kt_ne A.xk_InvalidName_InvalidName A.xk_TooMany_InvalidName, (List.forall_mem_cons.mpr ⟨kt_ne A.xk_InvalidName_InvalidName A.xk_NothingToUndo_InvalidName, (List.forall_mem_cons.mpr ⟨kt_ne A.xk_InvalidName_InvalidName A.xk_NothingToRedo_InvalidName, (fun _ h => nomatch h)⟩)⟩)⟩)⟩)⟩)⟩)⟩)⟩)⟩)⟩)⟩)⟩)⟩) (nd_cons (List.forall_mem_cons.mpr ⟨kt_ne A.xk_InvalidNumber_InvalidNumber A.xk_InvalidBody_InvalidNumber, (List.forall_mem_cons.mpr ⟨kt_ne A.xk_InvalidNumber_InvalidNumber A.xk_InvalidProgram_InvalidNumber, (List.forall_mem_cons.mpr ⟨kt_ne A.xk_InvalidNumber_InvalidNumber A.xk_InvalidState_InvalidNumber, (List.forall_mem_cons.mpr ⟨kt_ne A.xk_InvalidNumber_InvalidNumber A.xk_InvalidChoice_InvalidNumber, (List.forall_mem_cons.mpr ⟨kt_ne A.xk_InvalidNumber_InvalidNumber A.xk_InvalidEvent_InvalidNumber, (List.forall_mem_cons.mpr ⟨kt_ne A.xk_InvalidNumber_InvalidNumber A.xk_InvalidLimits_InvalidNumber, (List.forall_mem_cons.mpr ⟨kt_ne A.xk_InvalidNumber_InvalidNumber A.xk_InvalidLog_InvalidNumber, (List.forall_mem_cons.mpr ⟨kt_ne A.xk_InvalidNumber_InvalidNumber A.xk_InvalidCommand_InvalidNumber, (List.forall_mem_cons.mpr ⟨kt_ne A.xk_InvalidNumber_InvalidNumber A.xk_ParseError_InvalidNumber, (List.forall_mem_cons.mpr ⟨kt_ne A.xk_InvalidNumber_InvalidNumber A.xk_TooMany_InvalidNumber, (List.forall_mem_cons.mpr ⟨kt_ne A.xk_InvalidNumber_InvalidNumber A.xk_NothingToUndo_InvalidNumber, (List.forall_mem_cons.mpr ⟨kt_ne A.xk_InvalidNumber_InvalidNumber A.xk_NothingToRedo_InvalidNumber, (fun _ h => nomatch h)⟩)⟩)⟩)⟩)⟩)⟩)⟩)⟩)⟩)⟩)⟩)⟩) (nd_cons (List.forall_mem_cons.mpr ⟨kt_ne A.xk_InvalidBody_InvalidBody A.xk_InvalidProgram_InvalidBody, (List.forall_mem_cons.mpr ⟨kt_ne A.xk_InvalidBody_InvalidBody A.xk_InvalidState_InvalidBody, (List.forall_mem_cons.mpr ⟨kt_ne A.xk_InvalidBody_InvalidBody A.xk_InvalidChoice_InvalidBody, (List.forall_mem_cons.mpr ⟨kt_ne A.xk_InvalidBody_InvalidBody A.xk_InvalidEvent_InvalidBody, (List.forall_mem_cons.mpr ⟨kt_ne A.xk_InvalidBody_InvalidBody A.xk_InvalidLimits_InvalidBody, (List.forall_mem_cons.mpr ⟨kt_ne A.xk_InvalidBody_InvalidBody A.xk_InvalidLog_InvalidBody, (List.forall_mem_cons.mpr ⟨kt_ne A.xk_InvalidBody_InvalidBody A.xk_InvalidCommand_InvalidBody, (List.forall_mem_cons.mpr ⟨kt_ne A.xk_InvalidBody_InvalidBody A.xk_ParseError_InvalidBody, (List.forall_mem_cons.mpr ⟨kt_ne A.xk_InvalidBody_InvalidBody A.xk_TooMany_InvalidBody, (List.forall_mem_cons.mpr ⟨kt_ne A.xk_InvalidBody_InvalidBody A.xk_NothingToUndo_InvalidBody, (List.forall_mem_cons.mpr ⟨kt_ne A.xk_InvalidBody_InvalidBody A.xk_NothingToRedo_InvalidBody, (fun _ h => nomatch h)⟩)⟩)⟩)⟩)⟩)⟩)⟩)⟩)⟩)⟩)⟩) (nd_cons (List.forall_mem_cons.mpr ⟨kt_ne A.xk_InvalidProgram_InvalidProgram A.xk_InvalidState_InvalidProgram, (List.forall_mem_cons.mpr ⟨kt_ne A.xk_InvalidProgram_InvalidProgram A.xk_InvalidChoice_InvalidProgram, (List.forall_mem_cons.mpr ⟨kt_ne A.xk_InvalidProgram_InvalidProgram A.xk_InvalidEvent_InvalidProgram, (List.forall_mem_cons.mpr ⟨kt_ne A.xk_InvalidProgram_InvalidProgram A.xk_InvalidLimits_InvalidProgram, (List.forall_mem_cons.mpr ⟨kt_ne A.xk_InvalidProgram_InvalidProgram A.xk_InvalidLog_InvalidProgram, (List.forall_mem_cons.mpr ⟨kt_ne A.xk_InvalidProgram_InvalidProgram A.xk_InvalidCommand_InvalidProgram, (List.forall_mem_cons.mpr ⟨kt_ne A.xk_InvalidProgram_InvalidProgram A.xk_ParseError_InvalidProgram, (List.forall_mem_cons.mpr ⟨kt_ne A.xk_InvalidProgram_InvalidProgram A.xk_TooMany_InvalidProgram, (List.forall_mem_cons.mpr ⟨kt_ne A.xk_InvalidProgram_InvalidProgram A.xk_NothingToUndo_InvalidProgram, (List.forall_mem_cons.mpr ⟨kt_ne A.xk_InvalidProgram_InvalidProgram A.xk_NothingToRedo_InvalidProgram, (fun _ h => nomatch h)⟩)⟩)⟩)⟩)⟩)⟩)⟩)⟩)⟩)⟩) (nd_cons (List.forall_mem_cons.mpr ⟨kt_ne A.xk_InvalidState_InvalidState A.xk_InvalidChoice_InvalidState, (List.forall_mem_cons.mpr ⟨kt_ne A.xk_InvalidState_InvalidState A.xk_InvalidEvent_InvalidState, (List.forall_mem_cons.mpr ⟨kt_ne A.xk_InvalidState_InvalidState A.xk_InvalidLimits_InvalidState, (List.forall_mem_cons.mpr ⟨kt_ne A.xk_InvalidState_InvalidState A.xk_InvalidLog_InvalidState, (List.forall_mem_cons.mpr ⟨kt_ne A.xk_InvalidState_InvalidState A.xk_InvalidCommand_InvalidState, (List.forall_mem_cons.mpr ⟨kt_ne A.xk_InvalidState_InvalidState A.xk_ParseError_InvalidState, (List.forall_mem_cons.mpr ⟨kt_ne A.xk_InvalidState_InvalidState A.xk_TooMany_InvalidState, (List.forall_mem_cons.mpr ⟨kt_ne A.xk_InvalidState_InvalidState A.xk_NothingToUndo_InvalidState, (List.forall_mem_cons.mpr ⟨kt_ne A.xk_InvalidState_InvalidState A.xk_NothingToRedo_InvalidState, (fun _ h => nomatch h)⟩)⟩)⟩)⟩)⟩)⟩)⟩)⟩)⟩) (nd_cons (List.forall_mem_cons.mpr ⟨kt_ne A.xk_InvalidChoice_InvalidChoice A.xk_InvalidEvent_InvalidChoice, (List.forall_mem_cons.mpr ⟨kt_ne A.xk_InvalidChoice_InvalidChoice A.xk_InvalidLimits_InvalidChoice, (List.forall_mem_cons.mpr ⟨kt_ne A.xk_InvalidChoice_InvalidChoice A.xk_InvalidLog_InvalidChoice, (List.forall_mem_cons.mpr ⟨kt_ne A.xk_InvalidChoice_InvalidChoice A.xk_InvalidCommand_InvalidChoice, (List.forall_mem_cons.mpr ⟨kt_ne A.xk_InvalidChoice_InvalidChoice A.xk_ParseError_InvalidChoice, (List.forall_mem_cons.mpr ⟨kt_ne A.xk_InvalidChoice_InvalidChoice A.xk_TooMany_InvalidChoice, (List.forall_mem_cons.mpr ⟨kt_ne A.xk_InvalidChoice_InvalidChoice A.xk_NothingToUndo_InvalidChoice, (List.forall_mem_cons.mpr ⟨kt_ne A.xk_InvalidChoice_InvalidChoice A.xk_NothingToRedo_InvalidChoice, (fun _ h => nomatch h)⟩)⟩)⟩)⟩)⟩)⟩)⟩)⟩) (nd_cons (List.forall_mem_cons.mpr ⟨kt_ne A.xk_InvalidEvent_InvalidEvent A.xk_InvalidLimits_InvalidEvent, (List.forall_mem_cons.mpr ⟨kt_ne A.xk_InvalidEvent_InvalidEvent A.xk_InvalidLog_InvalidEvent, (List.forall_mem_cons.mpr ⟨kt_ne A.xk_InvalidEvent_InvalidEvent A.xk_InvalidCommand_InvalidEvent, (List.forall_mem_cons.mpr ⟨kt_ne A.xk_InvalidEvent_InvalidEvent A.xk_ParseError_InvalidEvent, (List.forall_mem_cons.mpr ⟨kt_ne A.xk_InvalidEvent_InvalidEvent A.xk_TooMany_InvalidEvent, (List.forall_mem_cons.mpr ⟨kt_ne A.xk_InvalidEvent_InvalidEvent A.xk_NothingToUndo_InvalidEvent, (List.forall_mem_cons.mpr ⟨kt_ne A.xk_InvalidEvent_InvalidEvent A.xk_NothingToRedo_InvalidEvent, (fun _ h => nomatch h)⟩)⟩)⟩)⟩)⟩)⟩)⟩) (nd_cons (List.forall_mem_cons.mpr ⟨kt_ne A.xk_InvalidLimits_InvalidLimits A.xk_InvalidLog_InvalidLimits, (List.forall_mem_cons.mpr ⟨kt_ne A.xk_InvalidLimits_InvalidLimits A.xk_InvalidCommand_InvalidLimits, (List.forall_mem_cons.mpr ⟨kt_ne A.xk_InvalidLimits_InvalidLimits A.xk_ParseError_InvalidLimits, (List.forall_mem_cons.mpr ⟨kt_ne A.xk_InvalidLimits_InvalidLimits A.xk_TooMany_InvalidLimits, (List.forall_mem_cons.mpr ⟨kt_ne A.xk_InvalidLimits_InvalidLimits A.xk_NothingToUndo_InvalidLimits, (List.forall_mem_cons.mpr ⟨kt_ne A.xk_InvalidLimits_InvalidLimits A.xk_NothingToRedo_InvalidLimits, (fun _ h => nomatch h)⟩)⟩)⟩)⟩)⟩)⟩) (nd_cons (List.forall_mem_cons.mpr ⟨kt_ne A.xk_InvalidLog_InvalidLog A.xk_InvalidCommand_InvalidLog, (List.forall_mem_cons.mpr ⟨kt_ne A.xk_InvalidLog_InvalidLog A.xk_ParseError_InvalidLog, (List.forall_mem_cons.mpr ⟨kt_ne A.xk_InvalidLog_InvalidLog A.xk_TooMany_InvalidLog, (List.forall_mem_cons.mpr ⟨kt_ne A.xk_InvalidLog_InvalidLog A.xk_NothingToUndo_InvalidLog, (List.forall_mem_cons.mpr ⟨kt_ne A.xk_InvalidLog_InvalidLog A.xk_NothingToRedo_InvalidLog, (fun _ h => nomatch h)⟩)⟩)⟩)⟩)⟩) (nd_cons (List.forall_mem_cons.mpr ⟨kt_ne A.xk_InvalidCommand_InvalidCommand A.xk_ParseError_InvalidCommand, (List.forall_mem_cons.mpr ⟨kt_ne A.xk_InvalidCommand_InvalidCommand A.xk_TooMany_InvalidCommand, (List.forall_mem_cons.mpr ⟨kt_ne A.xk_InvalidCommand_InvalidCommand A.xk_NothingToUndo_InvalidCommand, (List.forall_mem_cons.mpr ⟨kt_ne A.xk_InvalidCommand_InvalidCommand A.xk_NothingToRedo_InvalidCommand, (fun _ h => nomatch h)⟩)⟩)⟩)⟩) (nd_cons (List.forall_mem_cons.mpr ⟨kt_ne A.xk_ParseError_ParseError A.xk_TooMany_ParseError, (List.forall_mem_cons.mpr ⟨kt_ne A.xk_ParseError_ParseError A.xk_NothingToUndo_ParseError, (List.forall_mem_cons.mpr ⟨kt_ne A.xk_ParseError_ParseError A.xk_NothingToRedo_ParseError, (fun _ h => nomatch h)⟩)⟩)⟩) (nd_cons (List.forall_mem_cons.mpr ⟨kt_ne A.xk_TooMany_TooMany A.xk_NothingToUndo_TooMany, (List.forall_mem_cons.mpr ⟨kt_ne A.xk_TooMany_TooMany A.xk_NothingToRedo_TooMany, (fun _ h => nomatch h)⟩)⟩) (nd_cons (List.forall_mem_cons.mpr ⟨kt_ne A.xk_NothingToUndo_NothingToUndo A.xk_NothingToRedo_NothingToUndo, (fun _ h => nomatch h)⟩) (nd_cons (fun _ h => nomatch h) (List.nodup_nil))))))))))))))
theorem all_mk {l : PySem.W.OpenLaw} {w : World} {K : PySem.W.Frag} {h : Heap} {mg : Str → Option Value} {fa cx0 cx1 cx2 cx3 cx4 cx5 cx6 cx7 cx8 cx9 cx10 cx11 cx12 cx13 cx14 f0 f1 f2 f3 fi2 fi5 fi9 fi6 fi7 fi8 fi0 fi1 fi3 fi4 fi10 fi11 : Addr} {od0 an0 od1 an1 od2 an2 od3 an3 oi2 ai2 oi5 ai5 oi9 ai9 oi6 ai6 oi7 ai7 oi8 ai8 oi0 ai0 oi1 ai1 oi3 ai3 oi4 ai4 oi10 ai10 oi11 ai11 : Option Addr} {sl0 sl1 sl2 sl3 si2 si5 si9 si6 si7 si8 si0 si1 si3 si4 si10 si11 : Array (Option Value)} {oc0 kV0 dc0 pm0 cd0 ct0 oc1 kV1 dc1 pm1 cd1 ct1 oc2 kV2 dc2 pm2 cd2 ct2 oc3 kV3 dc3 pm3 cd3 ct3 ic2 iV2 id2 ip2 ie2 it2 ic5 iV5 id5 ip5 ie5 it5 ic9 iV9 id9 ip9 ie9 it9 ic6 iV6 id6 ip6 ie6 it6 ic7 iV7 id7 ip7 ie7 it7 ic8 iV8 id8 ip8 ie8 it8 ic0 iV0 id0 ip0 ie0 it0 ic1 iV1 id1 ip1 ie1 it1 ic3 iV3 id3 ip3 ie3 it3 ic4 iV4 id4 ip4 ie4 it4 ic10 iV10 id10 ip10 ie10 it10 ic11 iV11 id11 ip11 ie11 it11 : Value} (X : K.In h) (G : h.Ns mainGlobals mg) (hfa : mg "law" = some (.ref fa))
    (xa0 : PySem.W.nsIn K mainGlobals "InvalidName" = some (some (.ref cx0)))
    (xa1 : PySem.W.nsIn K mainGlobals "InvalidNumber" = some (some (.ref cx1)))
    (xa2 : PySem.W.nsIn K mainGlobals "InvalidBody" = some (some (.ref cx2)))
    (xa3 : PySem.W.nsIn K mainGlobals "InvalidProgram" = some (some (.ref cx3)))
    (xa4 : PySem.W.nsIn K mainGlobals "InvalidState" = some (some (.ref cx4)))
    (xa5 : PySem.W.nsIn K mainGlobals "InvalidChoice" = some (some (.ref cx5)))
    (xa6 : PySem.W.nsIn K mainGlobals "InvalidEvent" = some (some (.ref cx6)))
    (xa7 : PySem.W.nsIn K mainGlobals "InvalidLimits" = some (some (.ref cx7)))
    (xa8 : PySem.W.nsIn K mainGlobals "InvalidLog" = some (some (.ref cx8)))
    (xa9 : PySem.W.nsIn K mainGlobals "InvalidCommand" = some (some (.ref cx9)))
    (xa10 : PySem.W.nsIn K mainGlobals "ParseError" = some (some (.ref cx10)))
    (xa11 : PySem.W.nsIn K mainGlobals "TooMany" = some (some (.ref cx11)))
    (xa12 : PySem.W.nsIn K mainGlobals "NothingToUndo" = some (some (.ref cx12)))
    (xa13 : PySem.W.nsIn K mainGlobals "NothingToRedo" = some (some (.ref cx13)))
    (xa14 : PySem.W.nsIn K mainGlobals "RunError" = some (some (.ref cx14)))
    (ysp : PySem.W.specialIn K (.builtin "object.__class__") "__get__" = some (some (.builtin "getset_descriptor.__get__"))) (ytk : PySem.W.takesIn K (.builtin "object.__class__") = some true)
    (a0 : PySem.W.nsIn K mainGlobals "_law_made" = some (some (.ref f0)))
    (l0 : K.lookup f0 = some ⟨oc0, od0, .func (PySem.W.fnOf "_law_made" "_law_made" (defArgs s_law_made) (defBody s_law_made) (defScope s_law_made) .none kV0 dc0 pm0 an0 cd0 ct0), sl0⟩)
    (c0 : PySem.W.codeIn K cd0 "_law_made" = true)
    (k0 : PySem.W.keepIn K (.ref f0) = true)
    (a1 : PySem.W.nsIn K mainGlobals "_law_named" = some (some (.ref f1)))
    (l1 : K.lookup f1 = some ⟨oc1, od1, .func (PySem.W.fnOf "_law_named" "_law_named" (defArgs s_law_named) (defBody s_law_named) (defScope s_law_named) .none kV1 dc1 pm1 an1 cd1 ct1), sl1⟩)
    (c1 : PySem.W.codeIn K cd1 "_law_named" = true)
    (k1 : PySem.W.keepIn K (.ref f1) = true)
    (a2 : PySem.W.nsIn K mainGlobals "_law_signs" = some (some (.ref f2)))
    (l2 : K.lookup f2 = some ⟨oc2, od2, .func (PySem.W.fnOf "_law_signs" "_law_signs" (defArgs s_law_signs) (defBody s_law_signs) (defScope s_law_signs) .none kV2 dc2 pm2 an2 cd2 ct2), sl2⟩)
    (c2 : PySem.W.codeIn K cd2 "_law_signs" = true)
    (k2 : PySem.W.keepIn K (.ref f2) = true)
    (a3 : PySem.W.nsIn K mainGlobals "law" = some (some (.ref f3)))
    (l3 : K.lookup f3 = some ⟨oc3, od3, .func (PySem.W.fnOf "law" "law" (defArgs s_law) (defBody s_law) (defScope s_law) .none kV3 dc3 pm3 an3 cd3 ct3), sl3⟩)
    (c3 : PySem.W.codeIn K cd3 "law" = true)
    (k3 : PySem.W.keepIn K (.ref f3) = true)
    (z0 : PySem.W.nsIn K mainGlobals "isinstance" = some none)
    (z1 : PySem.W.nsIn K mainGlobals "enumerate" = some none)
    (z2 : PySem.W.nsIn K mainGlobals "range" = some none)
    (z3 : PySem.W.nsIn K mainGlobals "ValueError" = some none)
    (z4 : PySem.W.nsIn K mainGlobals "OverflowError" = some none)
    (z5 : PySem.W.nsIn K mainGlobals "LookupError" = some none)
    (z6 : PySem.W.nsIn K mainGlobals "list" = some none)
    (z7 : PySem.W.nsIn K mainGlobals "len" = some none)
    (yex0 : PySem.W.subIn K (.ref cx0) (.type "BaseException") = some true)
    (ykc0 : PySem.W.keepIn K (.ref cx0) = true)
    (yga0 : PySem.W.findIn K (.ref cx0) "__getattribute__" = some (some (.builtin "BaseException.__getattribute__")))
    (ygg0 : PySem.W.findIn K (.ref cx0) "__getattr__" = some none)
    (yhd0 : PySem.W.hasDictIn K cx0 = true)
    (ycl0 : PySem.W.findIn K (.ref cx0) "__class__" = some (some (.builtin "object.__class__")))
    (ymr0 : PySem.W.mroIn K cx0 (.type "object") = some true)
    (yq0 : PySem.W.excInitIn K cx0 [.type "ValueError", .type "Exception", .type "BaseException", .type "object"] "ValueError.__new__" = true)
    (ysa0 : PySem.W.findIn K (.ref cx0) "__setattr__" = some (some (.builtin "object.__setattr__")))
    (yno0 : PySem.W.findIn K (.ref cx0) "value" = some none)
    (yv0 : PySem.W.excOver K cx0 [.type "ValueError", .type "Exception", .type "BaseException", .type "object"] = true)
    (yex1 : PySem.W.subIn K (.ref cx1) (.type "BaseException") = some true)
    (ykc1 : PySem.W.keepIn K (.ref cx1) = true)
    (yga1 : PySem.W.findIn K (.ref cx1) "__getattribute__" = some (some (.builtin "BaseException.__getattribute__")))
    (ygg1 : PySem.W.findIn K (.ref cx1) "__getattr__" = some none)
    (yhd1 : PySem.W.hasDictIn K cx1 = true)
    (ycl1 : PySem.W.findIn K (.ref cx1) "__class__" = some (some (.builtin "object.__class__")))
    (ymr1 : PySem.W.mroIn K cx1 (.type "object") = some true)
    (yq1 : PySem.W.excInitIn K cx1 [.type "ValueError", .type "Exception", .type "BaseException", .type "object"] "ValueError.__new__" = true)
    (ysa1 : PySem.W.findIn K (.ref cx1) "__setattr__" = some (some (.builtin "object.__setattr__")))
    (yno1 : PySem.W.findIn K (.ref cx1) "value" = some none)
    (yv1 : PySem.W.excOver K cx1 [.type "ValueError", .type "Exception", .type "BaseException", .type "object"] = true)
    (yex2 : PySem.W.subIn K (.ref cx2) (.type "BaseException") = some true)
    (ykc2 : PySem.W.keepIn K (.ref cx2) = true)
    (yga2 : PySem.W.findIn K (.ref cx2) "__getattribute__" = some (some (.builtin "BaseException.__getattribute__")))
    (ygg2 : PySem.W.findIn K (.ref cx2) "__getattr__" = some none)
    (yhd2 : PySem.W.hasDictIn K cx2 = true)
    (ycl2 : PySem.W.findIn K (.ref cx2) "__class__" = some (some (.builtin "object.__class__")))
    (ymr2 : PySem.W.mroIn K cx2 (.type "object") = some true)
    (yq2 : PySem.W.excInitIn K cx2 [.type "ValueError", .type "Exception", .type "BaseException", .type "object"] "ValueError.__new__" = true)
    (ysa2 : PySem.W.findIn K (.ref cx2) "__setattr__" = some (some (.builtin "object.__setattr__")))
    (yno2 : PySem.W.findIn K (.ref cx2) "value" = some none)
    (yv2 : PySem.W.excOver K cx2 [.type "ValueError", .type "Exception", .type "BaseException", .type "object"] = true)
    (yex3 : PySem.W.subIn K (.ref cx3) (.type "BaseException") = some true)
    (ykc3 : PySem.W.keepIn K (.ref cx3) = true)
    (yga3 : PySem.W.findIn K (.ref cx3) "__getattribute__" = some (some (.builtin "BaseException.__getattribute__")))
    (ygg3 : PySem.W.findIn K (.ref cx3) "__getattr__" = some none)
    (yhd3 : PySem.W.hasDictIn K cx3 = true)
    (ycl3 : PySem.W.findIn K (.ref cx3) "__class__" = some (some (.builtin "object.__class__")))
    (ymr3 : PySem.W.mroIn K cx3 (.type "object") = some true)
    (yq3 : PySem.W.excInitIn K cx3 [.type "ValueError", .type "Exception", .type "BaseException", .type "object"] "ValueError.__new__" = true)
    (ysa3 : PySem.W.findIn K (.ref cx3) "__setattr__" = some (some (.builtin "object.__setattr__")))
    (yno3 : PySem.W.findIn K (.ref cx3) "value" = some none)
    (yv3 : PySem.W.excOver K cx3 [.type "ValueError", .type "Exception", .type "BaseException", .type "object"] = true)
    (yex4 : PySem.W.subIn K (.ref cx4) (.type "BaseException") = some true)
    (ykc4 : PySem.W.keepIn K (.ref cx4) = true)
    (yga4 : PySem.W.findIn K (.ref cx4) "__getattribute__" = some (some (.builtin "BaseException.__getattribute__")))
    (ygg4 : PySem.W.findIn K (.ref cx4) "__getattr__" = some none)
    (yhd4 : PySem.W.hasDictIn K cx4 = true)
    (ycl4 : PySem.W.findIn K (.ref cx4) "__class__" = some (some (.builtin "object.__class__")))
    (ymr4 : PySem.W.mroIn K cx4 (.type "object") = some true)
    (yq4 : PySem.W.excInitIn K cx4 [.type "ValueError", .type "Exception", .type "BaseException", .type "object"] "ValueError.__new__" = true)
    (ysa4 : PySem.W.findIn K (.ref cx4) "__setattr__" = some (some (.builtin "object.__setattr__")))
    (yno4 : PySem.W.findIn K (.ref cx4) "value" = some none)
    (yv4 : PySem.W.excOver K cx4 [.type "ValueError", .type "Exception", .type "BaseException", .type "object"] = true)
    (yex5 : PySem.W.subIn K (.ref cx5) (.type "BaseException") = some true)
    (ykc5 : PySem.W.keepIn K (.ref cx5) = true)
    (yga5 : PySem.W.findIn K (.ref cx5) "__getattribute__" = some (some (.builtin "BaseException.__getattribute__")))
    (ygg5 : PySem.W.findIn K (.ref cx5) "__getattr__" = some none)
    (yhd5 : PySem.W.hasDictIn K cx5 = true)
    (ycl5 : PySem.W.findIn K (.ref cx5) "__class__" = some (some (.builtin "object.__class__")))
    (ymr5 : PySem.W.mroIn K cx5 (.type "object") = some true)
    (yq5 : PySem.W.excInitIn K cx5 [.type "ValueError", .type "Exception", .type "BaseException", .type "object"] "ValueError.__new__" = true)
    (ysa5 : PySem.W.findIn K (.ref cx5) "__setattr__" = some (some (.builtin "object.__setattr__")))
    (yno5 : PySem.W.findIn K (.ref cx5) "value" = some none)
    (yv5 : PySem.W.excOver K cx5 [.type "ValueError", .type "Exception", .type "BaseException", .type "object"] = true)
    (yex6 : PySem.W.subIn K (.ref cx6) (.type "BaseException") = some true)
    (ykc6 : PySem.W.keepIn K (.ref cx6) = true)
    (yga6 : PySem.W.findIn K (.ref cx6) "__getattribute__" = some (some (.builtin "BaseException.__getattribute__")))
    (ygg6 : PySem.W.findIn K (.ref cx6) "__getattr__" = some none)
    (yhd6 : PySem.W.hasDictIn K cx6 = true)
    (ycl6 : PySem.W.findIn K (.ref cx6) "__class__" = some (some (.builtin "object.__class__")))
    (ymr6 : PySem.W.mroIn K cx6 (.type "object") = some true)
    (yq6 : PySem.W.excInitIn K cx6 [.type "ValueError", .type "Exception", .type "BaseException", .type "object"] "ValueError.__new__" = true)
    (ysa6 : PySem.W.findIn K (.ref cx6) "__setattr__" = some (some (.builtin "object.__setattr__")))
    (yno6 : PySem.W.findIn K (.ref cx6) "value" = some none)
    (yv6 : PySem.W.excOver K cx6 [.type "ValueError", .type "Exception", .type "BaseException", .type "object"] = true)
    (yex7 : PySem.W.subIn K (.ref cx7) (.type "BaseException") = some true)
    (ykc7 : PySem.W.keepIn K (.ref cx7) = true)
    (yga7 : PySem.W.findIn K (.ref cx7) "__getattribute__" = some (some (.builtin "BaseException.__getattribute__")))
    (ygg7 : PySem.W.findIn K (.ref cx7) "__getattr__" = some none)
    (yhd7 : PySem.W.hasDictIn K cx7 = true)
    (ycl7 : PySem.W.findIn K (.ref cx7) "__class__" = some (some (.builtin "object.__class__")))
    (ymr7 : PySem.W.mroIn K cx7 (.type "object") = some true)
    (yq7 : PySem.W.excInitIn K cx7 [.type "ValueError", .type "Exception", .type "BaseException", .type "object"] "ValueError.__new__" = true)
    (ysa7 : PySem.W.findIn K (.ref cx7) "__setattr__" = some (some (.builtin "object.__setattr__")))
    (yno7 : PySem.W.findIn K (.ref cx7) "value" = some none)
    (yv7 : PySem.W.excOver K cx7 [.type "ValueError", .type "Exception", .type "BaseException", .type "object"] = true)
    (yex8 : PySem.W.subIn K (.ref cx8) (.type "BaseException") = some true)
    (ykc8 : PySem.W.keepIn K (.ref cx8) = true)
    (yga8 : PySem.W.findIn K (.ref cx8) "__getattribute__" = some (some (.builtin "BaseException.__getattribute__")))
    (ygg8 : PySem.W.findIn K (.ref cx8) "__getattr__" = some none)
    (yhd8 : PySem.W.hasDictIn K cx8 = true)
    (ycl8 : PySem.W.findIn K (.ref cx8) "__class__" = some (some (.builtin "object.__class__")))
    (ymr8 : PySem.W.mroIn K cx8 (.type "object") = some true)
    (yq8 : PySem.W.excInitIn K cx8 [.type "ValueError", .type "Exception", .type "BaseException", .type "object"] "ValueError.__new__" = true)
    (ysa8 : PySem.W.findIn K (.ref cx8) "__setattr__" = some (some (.builtin "object.__setattr__")))
    (yno8 : PySem.W.findIn K (.ref cx8) "value" = some none)
    (yv8 : PySem.W.excOver K cx8 [.type "ValueError", .type "Exception", .type "BaseException", .type "object"] = true)
    (yex9 : PySem.W.subIn K (.ref cx9) (.type "BaseException") = some true)
    (ykc9 : PySem.W.keepIn K (.ref cx9) = true)
    (yga9 : PySem.W.findIn K (.ref cx9) "__getattribute__" = some (some (.builtin "BaseException.__getattribute__")))
    (ygg9 : PySem.W.findIn K (.ref cx9) "__getattr__" = some none)
    (yhd9 : PySem.W.hasDictIn K cx9 = true)
    (ycl9 : PySem.W.findIn K (.ref cx9) "__class__" = some (some (.builtin "object.__class__")))
    (ymr9 : PySem.W.mroIn K cx9 (.type "object") = some true)
    (yq9 : PySem.W.excInitIn K cx9 [.type "ValueError", .type "Exception", .type "BaseException", .type "object"] "ValueError.__new__" = true)
    (ysa9 : PySem.W.findIn K (.ref cx9) "__setattr__" = some (some (.builtin "object.__setattr__")))
    (yno9 : PySem.W.findIn K (.ref cx9) "value" = some none)
    (yv9 : PySem.W.excOver K cx9 [.type "ValueError", .type "Exception", .type "BaseException", .type "object"] = true)
    (yex10 : PySem.W.subIn K (.ref cx10) (.type "BaseException") = some true)
    (ykc10 : PySem.W.keepIn K (.ref cx10) = true)
    (yga10 : PySem.W.findIn K (.ref cx10) "__getattribute__" = some (some (.builtin "BaseException.__getattribute__")))
    (ygg10 : PySem.W.findIn K (.ref cx10) "__getattr__" = some none)
    (yhd10 : PySem.W.hasDictIn K cx10 = true)
    (ycl10 : PySem.W.findIn K (.ref cx10) "__class__" = some (some (.builtin "object.__class__")))
    (ymr10 : PySem.W.mroIn K cx10 (.type "object") = some true)
    (yq10 : PySem.W.excInitIn K cx10 [.type "ValueError", .type "Exception", .type "BaseException", .type "object"] "ValueError.__new__" = true)
    (ysa10 : PySem.W.findIn K (.ref cx10) "__setattr__" = some (some (.builtin "object.__setattr__")))
    (yno10 : PySem.W.findIn K (.ref cx10) "line" = some none)
    (yv10 : PySem.W.excOver K cx10 [.type "ValueError", .type "Exception", .type "BaseException", .type "object"] = true)
    (yex11 : PySem.W.subIn K (.ref cx11) (.type "BaseException") = some true)
    (ykc11 : PySem.W.keepIn K (.ref cx11) = true)
    (yga11 : PySem.W.findIn K (.ref cx11) "__getattribute__" = some (some (.builtin "BaseException.__getattribute__")))
    (ygg11 : PySem.W.findIn K (.ref cx11) "__getattr__" = some none)
    (yhd11 : PySem.W.hasDictIn K cx11 = true)
    (ycl11 : PySem.W.findIn K (.ref cx11) "__class__" = some (some (.builtin "object.__class__")))
    (ymr11 : PySem.W.mroIn K cx11 (.type "object") = some true)
    (yq11 : PySem.W.excInitIn K cx11 [.type "OverflowError", .type "ArithmeticError", .type "Exception", .type "BaseException", .type "object"] "OverflowError.__new__" = true)
    (ysa11 : PySem.W.findIn K (.ref cx11) "__setattr__" = some (some (.builtin "object.__setattr__")))
    (yno11 : PySem.W.findIn K (.ref cx11) "limit" = some none)
    (yv11 : PySem.W.excOver K cx11 [.type "OverflowError", .type "ArithmeticError", .type "Exception", .type "BaseException", .type "object"] = true)
    (yex12 : PySem.W.subIn K (.ref cx12) (.type "BaseException") = some true)
    (ykc12 : PySem.W.keepIn K (.ref cx12) = true)
    (yga12 : PySem.W.findIn K (.ref cx12) "__getattribute__" = some (some (.builtin "BaseException.__getattribute__")))
    (ygg12 : PySem.W.findIn K (.ref cx12) "__getattr__" = some none)
    (yhd12 : PySem.W.hasDictIn K cx12 = true)
    (ycl12 : PySem.W.findIn K (.ref cx12) "__class__" = some (some (.builtin "object.__class__")))
    (ymr12 : PySem.W.mroIn K cx12 (.type "object") = some true)
    (yq12 : PySem.W.excInitIn K cx12 [.type "LookupError", .type "Exception", .type "BaseException", .type "object"] "LookupError.__new__" = true)
    (yi12 : PySem.W.findIn K (.ref cx12) "__init__" = some (some (.builtin "LookupError.__init__")))
    (yex13 : PySem.W.subIn K (.ref cx13) (.type "BaseException") = some true)
    (ykc13 : PySem.W.keepIn K (.ref cx13) = true)
    (yga13 : PySem.W.findIn K (.ref cx13) "__getattribute__" = some (some (.builtin "BaseException.__getattribute__")))
    (ygg13 : PySem.W.findIn K (.ref cx13) "__getattr__" = some none)
    (yhd13 : PySem.W.hasDictIn K cx13 = true)
    (ycl13 : PySem.W.findIn K (.ref cx13) "__class__" = some (some (.builtin "object.__class__")))
    (ymr13 : PySem.W.mroIn K cx13 (.type "object") = some true)
    (yq13 : PySem.W.excInitIn K cx13 [.type "LookupError", .type "Exception", .type "BaseException", .type "object"] "LookupError.__new__" = true)
    (yi13 : PySem.W.findIn K (.ref cx13) "__init__" = some (some (.builtin "LookupError.__init__")))
    (xk2_2 : PySem.W.kitOne K (.ref cx2) (.ref cx2) = some true)
    (xk2_5 : PySem.W.kitOne K (.ref cx2) (.ref cx5) = some false)
    (xk2_9 : PySem.W.kitOne K (.ref cx2) (.ref cx9) = some false)
    (xk2_6 : PySem.W.kitOne K (.ref cx2) (.ref cx6) = some false)
    (xk2_7 : PySem.W.kitOne K (.ref cx2) (.ref cx7) = some false)
    (xk2_8 : PySem.W.kitOne K (.ref cx2) (.ref cx8) = some false)
    (xk2_0 : PySem.W.kitOne K (.ref cx2) (.ref cx0) = some false)
    (xk2_1 : PySem.W.kitOne K (.ref cx2) (.ref cx1) = some false)
    (xk2_3 : PySem.W.kitOne K (.ref cx2) (.ref cx3) = some false)
    (xk2_4 : PySem.W.kitOne K (.ref cx2) (.ref cx4) = some false)
    (xk2_LookupError : PySem.W.kitOne K (.ref cx2) (.type "LookupError") = some false)
    (xk2_13 : PySem.W.kitOne K (.ref cx2) (.ref cx13) = some false)
    (xk2_12 : PySem.W.kitOne K (.ref cx2) (.ref cx12) = some false)
    (xk2_OverflowError : PySem.W.kitOne K (.ref cx2) (.type "OverflowError") = some false)
    (xk2_10 : PySem.W.kitOne K (.ref cx2) (.ref cx10) = some false)
    (xk2_14 : PySem.W.kitOne K (.ref cx2) (.ref cx14) = some true)
    (xk2_11 : PySem.W.kitOne K (.ref cx2) (.ref cx11) = some false)
    (xk2_ValueError : PySem.W.kitOne K (.ref cx2) (.type "ValueError") = some true)
    (xk5_2 : PySem.W.kitOne K (.ref cx5) (.ref cx2) = some false)
    (xk5_5 : PySem.W.kitOne K (.ref cx5) (.ref cx5) = some true)
    (xk5_9 : PySem.W.kitOne K (.ref cx5) (.ref cx9) = some false)
    (xk5_6 : PySem.W.kitOne K (.ref cx5) (.ref cx6) = some false)
    (xk5_7 : PySem.W.kitOne K (.ref cx5) (.ref cx7) = some false)
    (xk5_8 : PySem.W.kitOne K (.ref cx5) (.ref cx8) = some false)
    (xk5_0 : PySem.W.kitOne K (.ref cx5) (.ref cx0) = some false)
    (xk5_1 : PySem.W.kitOne K (.ref cx5) (.ref cx1) = some false)
    (xk5_3 : PySem.W.kitOne K (.ref cx5) (.ref cx3) = some false)
    (xk5_4 : PySem.W.kitOne K (.ref cx5) (.ref cx4) = some false)
    (xk5_LookupError : PySem.W.kitOne K (.ref cx5) (.type "LookupError") = some false)
    (xk5_13 : PySem.W.kitOne K (.ref cx5) (.ref cx13) = some false)
    (xk5_12 : PySem.W.kitOne K (.ref cx5) (.ref cx12) = some false)
    (xk5_OverflowError : PySem.W.kitOne K (.ref cx5) (.type "OverflowError") = some false)
    (xk5_10 : PySem.W.kitOne K (.ref cx5) (.ref cx10) = some false)
    (xk5_14 : PySem.W.kitOne K (.ref cx5) (.ref cx14) = some true)
    (xk5_11 : PySem.W.kitOne K (.ref cx5) (.ref cx11) = some false)
    (xk5_ValueError : PySem.W.kitOne K (.ref cx5) (.type "ValueError") = some true)
    (xk9_2 : PySem.W.kitOne K (.ref cx9) (.ref cx2) = some false)
    (xk9_5 : PySem.W.kitOne K (.ref cx9) (.ref cx5) = some false)
    (xk9_9 : PySem.W.kitOne K (.ref cx9) (.ref cx9) = some true)
    (xk9_6 : PySem.W.kitOne K (.ref cx9) (.ref cx6) = some false)
    (xk9_7 : PySem.W.kitOne K (.ref cx9) (.ref cx7) = some false)
    (xk9_8 : PySem.W.kitOne K (.ref cx9) (.ref cx8) = some false)
    (xk9_0 : PySem.W.kitOne K (.ref cx9) (.ref cx0) = some false)
    (xk9_1 : PySem.W.kitOne K (.ref cx9) (.ref cx1) = some false)
    (xk9_3 : PySem.W.kitOne K (.ref cx9) (.ref cx3) = some false)
    (xk9_4 : PySem.W.kitOne K (.ref cx9) (.ref cx4) = some false)
    (xk9_LookupError : PySem.W.kitOne K (.ref cx9) (.type "LookupError") = some false)
    (xk9_13 : PySem.W.kitOne K (.ref cx9) (.ref cx13) = some false)
    (xk9_12 : PySem.W.kitOne K (.ref cx9) (.ref cx12) = some false)
    (xk9_OverflowError : PySem.W.kitOne K (.ref cx9) (.type "OverflowError") = some false)
    (xk9_10 : PySem.W.kitOne K (.ref cx9) (.ref cx10) = some false)
    (xk9_14 : PySem.W.kitOne K (.ref cx9) (.ref cx14) = some true)
    (xk9_11 : PySem.W.kitOne K (.ref cx9) (.ref cx11) = some false)
    (xk9_ValueError : PySem.W.kitOne K (.ref cx9) (.type "ValueError") = some true)
    (xk6_2 : PySem.W.kitOne K (.ref cx6) (.ref cx2) = some false)
    (xk6_5 : PySem.W.kitOne K (.ref cx6) (.ref cx5) = some false)
    (xk6_9 : PySem.W.kitOne K (.ref cx6) (.ref cx9) = some false)
    (xk6_6 : PySem.W.kitOne K (.ref cx6) (.ref cx6) = some true)
    (xk6_7 : PySem.W.kitOne K (.ref cx6) (.ref cx7) = some false)
    (xk6_8 : PySem.W.kitOne K (.ref cx6) (.ref cx8) = some false)
    (xk6_0 : PySem.W.kitOne K (.ref cx6) (.ref cx0) = some false)
    (xk6_1 : PySem.W.kitOne K (.ref cx6) (.ref cx1) = some false)
    (xk6_3 : PySem.W.kitOne K (.ref cx6) (.ref cx3) = some false)
    (xk6_4 : PySem.W.kitOne K (.ref cx6) (.ref cx4) = some false)
    (xk6_LookupError : PySem.W.kitOne K (.ref cx6) (.type "LookupError") = some false)
    (xk6_13 : PySem.W.kitOne K (.ref cx6) (.ref cx13) = some false)
    (xk6_12 : PySem.W.kitOne K (.ref cx6) (.ref cx12) = some false)
    (xk6_OverflowError : PySem.W.kitOne K (.ref cx6) (.type "OverflowError") = some false)
    (xk6_10 : PySem.W.kitOne K (.ref cx6) (.ref cx10) = some false)
    (xk6_14 : PySem.W.kitOne K (.ref cx6) (.ref cx14) = some true)
    (xk6_11 : PySem.W.kitOne K (.ref cx6) (.ref cx11) = some false)
    (xk6_ValueError : PySem.W.kitOne K (.ref cx6) (.type "ValueError") = some true)
    (xk7_2 : PySem.W.kitOne K (.ref cx7) (.ref cx2) = some false)
    (xk7_5 : PySem.W.kitOne K (.ref cx7) (.ref cx5) = some false)
    (xk7_9 : PySem.W.kitOne K (.ref cx7) (.ref cx9) = some false)
    (xk7_6 : PySem.W.kitOne K (.ref cx7) (.ref cx6) = some false)
    (xk7_7 : PySem.W.kitOne K (.ref cx7) (.ref cx7) = some true)
    (xk7_8 : PySem.W.kitOne K (.ref cx7) (.ref cx8) = some false)
    (xk7_0 : PySem.W.kitOne K (.ref cx7) (.ref cx0) = some false)
    (xk7_1 : PySem.W.kitOne K (.ref cx7) (.ref cx1) = some false)
    (xk7_3 : PySem.W.kitOne K (.ref cx7) (.ref cx3) = some false)
    (xk7_4 : PySem.W.kitOne K (.ref cx7) (.ref cx4) = some false)
    (xk7_LookupError : PySem.W.kitOne K (.ref cx7) (.type "LookupError") = some false)
    (xk7_13 : PySem.W.kitOne K (.ref cx7) (.ref cx13) = some false)
    (xk7_12 : PySem.W.kitOne K (.ref cx7) (.ref cx12) = some false)
    (xk7_OverflowError : PySem.W.kitOne K (.ref cx7) (.type "OverflowError") = some false)
    (xk7_10 : PySem.W.kitOne K (.ref cx7) (.ref cx10) = some false)
    (xk7_14 : PySem.W.kitOne K (.ref cx7) (.ref cx14) = some true)
    (xk7_11 : PySem.W.kitOne K (.ref cx7) (.ref cx11) = some false)
    (xk7_ValueError : PySem.W.kitOne K (.ref cx7) (.type "ValueError") = some true)
    (xk8_2 : PySem.W.kitOne K (.ref cx8) (.ref cx2) = some false)
    (xk8_5 : PySem.W.kitOne K (.ref cx8) (.ref cx5) = some false)
    (xk8_9 : PySem.W.kitOne K (.ref cx8) (.ref cx9) = some false)
    (xk8_6 : PySem.W.kitOne K (.ref cx8) (.ref cx6) = some false)
    (xk8_7 : PySem.W.kitOne K (.ref cx8) (.ref cx7) = some false)
    (xk8_8 : PySem.W.kitOne K (.ref cx8) (.ref cx8) = some true)
    (xk8_0 : PySem.W.kitOne K (.ref cx8) (.ref cx0) = some false)
    (xk8_1 : PySem.W.kitOne K (.ref cx8) (.ref cx1) = some false)
    (xk8_3 : PySem.W.kitOne K (.ref cx8) (.ref cx3) = some false)
    (xk8_4 : PySem.W.kitOne K (.ref cx8) (.ref cx4) = some false)
    (xk8_LookupError : PySem.W.kitOne K (.ref cx8) (.type "LookupError") = some false)
    (xk8_13 : PySem.W.kitOne K (.ref cx8) (.ref cx13) = some false)
    (xk8_12 : PySem.W.kitOne K (.ref cx8) (.ref cx12) = some false)
    (xk8_OverflowError : PySem.W.kitOne K (.ref cx8) (.type "OverflowError") = some false)
    (xk8_10 : PySem.W.kitOne K (.ref cx8) (.ref cx10) = some false)
    (xk8_14 : PySem.W.kitOne K (.ref cx8) (.ref cx14) = some true)
    (xk8_11 : PySem.W.kitOne K (.ref cx8) (.ref cx11) = some false)
    (xk8_ValueError : PySem.W.kitOne K (.ref cx8) (.type "ValueError") = some true)
    (xk0_2 : PySem.W.kitOne K (.ref cx0) (.ref cx2) = some false)
    (xk0_5 : PySem.W.kitOne K (.ref cx0) (.ref cx5) = some false)
    (xk0_9 : PySem.W.kitOne K (.ref cx0) (.ref cx9) = some false)
    (xk0_6 : PySem.W.kitOne K (.ref cx0) (.ref cx6) = some false)
    (xk0_7 : PySem.W.kitOne K (.ref cx0) (.ref cx7) = some false)
    (xk0_8 : PySem.W.kitOne K (.ref cx0) (.ref cx8) = some false)
    (xk0_0 : PySem.W.kitOne K (.ref cx0) (.ref cx0) = some true)
    (xk0_1 : PySem.W.kitOne K (.ref cx0) (.ref cx1) = some false)
    (xk0_3 : PySem.W.kitOne K (.ref cx0) (.ref cx3) = some false)
    (xk0_4 : PySem.W.kitOne K (.ref cx0) (.ref cx4) = some false)
    (xk0_LookupError : PySem.W.kitOne K (.ref cx0) (.type "LookupError") = some false)
    (xk0_13 : PySem.W.kitOne K (.ref cx0) (.ref cx13) = some false)
    (xk0_12 : PySem.W.kitOne K (.ref cx0) (.ref cx12) = some false)
    (xk0_OverflowError : PySem.W.kitOne K (.ref cx0) (.type "OverflowError") = some false)
    (xk0_10 : PySem.W.kitOne K (.ref cx0) (.ref cx10) = some false)
    (xk0_14 : PySem.W.kitOne K (.ref cx0) (.ref cx14) = some true)
    (xk0_11 : PySem.W.kitOne K (.ref cx0) (.ref cx11) = some false)
    (xk0_ValueError : PySem.W.kitOne K (.ref cx0) (.type "ValueError") = some true)
    (xk1_2 : PySem.W.kitOne K (.ref cx1) (.ref cx2) = some false)
    (xk1_5 : PySem.W.kitOne K (.ref cx1) (.ref cx5) = some false)
    (xk1_9 : PySem.W.kitOne K (.ref cx1) (.ref cx9) = some false)
    (xk1_6 : PySem.W.kitOne K (.ref cx1) (.ref cx6) = some false)
    (xk1_7 : PySem.W.kitOne K (.ref cx1) (.ref cx7) = some false)
    (xk1_8 : PySem.W.kitOne K (.ref cx1) (.ref cx8) = some false)
    (xk1_0 : PySem.W.kitOne K (.ref cx1) (.ref cx0) = some false)
    (xk1_1 : PySem.W.kitOne K (.ref cx1) (.ref cx1) = some true)
    (xk1_3 : PySem.W.kitOne K (.ref cx1) (.ref cx3) = some false)
    (xk1_4 : PySem.W.kitOne K (.ref cx1) (.ref cx4) = some false)
    (xk1_LookupError : PySem.W.kitOne K (.ref cx1) (.type "LookupError") = some false)
    (xk1_13 : PySem.W.kitOne K (.ref cx1) (.ref cx13) = some false)
    (xk1_12 : PySem.W.kitOne K (.ref cx1) (.ref cx12) = some false)
    (xk1_OverflowError : PySem.W.kitOne K (.ref cx1) (.type "OverflowError") = some false)
    (xk1_10 : PySem.W.kitOne K (.ref cx1) (.ref cx10) = some false)
    (xk1_14 : PySem.W.kitOne K (.ref cx1) (.ref cx14) = some true)
    (xk1_11 : PySem.W.kitOne K (.ref cx1) (.ref cx11) = some false)
    (xk1_ValueError : PySem.W.kitOne K (.ref cx1) (.type "ValueError") = some true)
    (xk3_2 : PySem.W.kitOne K (.ref cx3) (.ref cx2) = some false)
    (xk3_5 : PySem.W.kitOne K (.ref cx3) (.ref cx5) = some false)
    (xk3_9 : PySem.W.kitOne K (.ref cx3) (.ref cx9) = some false)
    (xk3_6 : PySem.W.kitOne K (.ref cx3) (.ref cx6) = some false)
    (xk3_7 : PySem.W.kitOne K (.ref cx3) (.ref cx7) = some false)
    (xk3_8 : PySem.W.kitOne K (.ref cx3) (.ref cx8) = some false)
    (xk3_0 : PySem.W.kitOne K (.ref cx3) (.ref cx0) = some false)
    (xk3_1 : PySem.W.kitOne K (.ref cx3) (.ref cx1) = some false)
    (xk3_3 : PySem.W.kitOne K (.ref cx3) (.ref cx3) = some true)
    (xk3_4 : PySem.W.kitOne K (.ref cx3) (.ref cx4) = some false)
    (xk3_LookupError : PySem.W.kitOne K (.ref cx3) (.type "LookupError") = some false)
    (xk3_13 : PySem.W.kitOne K (.ref cx3) (.ref cx13) = some false)
    (xk3_12 : PySem.W.kitOne K (.ref cx3) (.ref cx12) = some false)
    (xk3_OverflowError : PySem.W.kitOne K (.ref cx3) (.type "OverflowError") = some false)
    (xk3_10 : PySem.W.kitOne K (.ref cx3) (.ref cx10) = some false)
    (xk3_14 : PySem.W.kitOne K (.ref cx3) (.ref cx14) = some true)
    (xk3_11 : PySem.W.kitOne K (.ref cx3) (.ref cx11) = some false)
    (xk3_ValueError : PySem.W.kitOne K (.ref cx3) (.type "ValueError") = some true)
    (xk4_2 : PySem.W.kitOne K (.ref cx4) (.ref cx2) = some false)
    (xk4_5 : PySem.W.kitOne K (.ref cx4) (.ref cx5) = some false)
    (xk4_9 : PySem.W.kitOne K (.ref cx4) (.ref cx9) = some false)
    (xk4_6 : PySem.W.kitOne K (.ref cx4) (.ref cx6) = some false)
    (xk4_7 : PySem.W.kitOne K (.ref cx4) (.ref cx7) = some false)
    (xk4_8 : PySem.W.kitOne K (.ref cx4) (.ref cx8) = some false)
    (xk4_0 : PySem.W.kitOne K (.ref cx4) (.ref cx0) = some false)
    (xk4_1 : PySem.W.kitOne K (.ref cx4) (.ref cx1) = some false)
    (xk4_3 : PySem.W.kitOne K (.ref cx4) (.ref cx3) = some false)
    (xk4_4 : PySem.W.kitOne K (.ref cx4) (.ref cx4) = some true)
    (xk4_LookupError : PySem.W.kitOne K (.ref cx4) (.type "LookupError") = some false)
    (xk4_13 : PySem.W.kitOne K (.ref cx4) (.ref cx13) = some false)
    (xk4_12 : PySem.W.kitOne K (.ref cx4) (.ref cx12) = some false)
    (xk4_OverflowError : PySem.W.kitOne K (.ref cx4) (.type "OverflowError") = some false)
    (xk4_10 : PySem.W.kitOne K (.ref cx4) (.ref cx10) = some false)
    (xk4_14 : PySem.W.kitOne K (.ref cx4) (.ref cx14) = some true)
    (xk4_11 : PySem.W.kitOne K (.ref cx4) (.ref cx11) = some false)
    (xk4_ValueError : PySem.W.kitOne K (.ref cx4) (.type "ValueError") = some true)
    (xk13_2 : PySem.W.kitOne K (.ref cx13) (.ref cx2) = some false)
    (xk13_5 : PySem.W.kitOne K (.ref cx13) (.ref cx5) = some false)
    (xk13_9 : PySem.W.kitOne K (.ref cx13) (.ref cx9) = some false)
    (xk13_6 : PySem.W.kitOne K (.ref cx13) (.ref cx6) = some false)
    (xk13_7 : PySem.W.kitOne K (.ref cx13) (.ref cx7) = some false)
    (xk13_8 : PySem.W.kitOne K (.ref cx13) (.ref cx8) = some false)
    (xk13_0 : PySem.W.kitOne K (.ref cx13) (.ref cx0) = some false)
    (xk13_1 : PySem.W.kitOne K (.ref cx13) (.ref cx1) = some false)
    (xk13_3 : PySem.W.kitOne K (.ref cx13) (.ref cx3) = some false)
    (xk13_4 : PySem.W.kitOne K (.ref cx13) (.ref cx4) = some false)
    (xk13_LookupError : PySem.W.kitOne K (.ref cx13) (.type "LookupError") = some true)
    (xk13_13 : PySem.W.kitOne K (.ref cx13) (.ref cx13) = some true)
    (xk13_12 : PySem.W.kitOne K (.ref cx13) (.ref cx12) = some false)
    (xk13_OverflowError : PySem.W.kitOne K (.ref cx13) (.type "OverflowError") = some false)
    (xk13_10 : PySem.W.kitOne K (.ref cx13) (.ref cx10) = some false)
    (xk13_14 : PySem.W.kitOne K (.ref cx13) (.ref cx14) = some false)
    (xk13_11 : PySem.W.kitOne K (.ref cx13) (.ref cx11) = some false)
    (xk13_ValueError : PySem.W.kitOne K (.ref cx13) (.type "ValueError") = some false)
    (xk12_2 : PySem.W.kitOne K (.ref cx12) (.ref cx2) = some false)
    (xk12_5 : PySem.W.kitOne K (.ref cx12) (.ref cx5) = some false)
    (xk12_9 : PySem.W.kitOne K (.ref cx12) (.ref cx9) = some false)
    (xk12_6 : PySem.W.kitOne K (.ref cx12) (.ref cx6) = some false)
    (xk12_7 : PySem.W.kitOne K (.ref cx12) (.ref cx7) = some false)
    (xk12_8 : PySem.W.kitOne K (.ref cx12) (.ref cx8) = some false)
    (xk12_0 : PySem.W.kitOne K (.ref cx12) (.ref cx0) = some false)
    (xk12_1 : PySem.W.kitOne K (.ref cx12) (.ref cx1) = some false)
    (xk12_3 : PySem.W.kitOne K (.ref cx12) (.ref cx3) = some false)
    (xk12_4 : PySem.W.kitOne K (.ref cx12) (.ref cx4) = some false)
    (xk12_LookupError : PySem.W.kitOne K (.ref cx12) (.type "LookupError") = some true)
    (xk12_13 : PySem.W.kitOne K (.ref cx12) (.ref cx13) = some false)
    (xk12_12 : PySem.W.kitOne K (.ref cx12) (.ref cx12) = some true)
    (xk12_OverflowError : PySem.W.kitOne K (.ref cx12) (.type "OverflowError") = some false)
    (xk12_10 : PySem.W.kitOne K (.ref cx12) (.ref cx10) = some false)
    (xk12_14 : PySem.W.kitOne K (.ref cx12) (.ref cx14) = some false)
    (xk12_11 : PySem.W.kitOne K (.ref cx12) (.ref cx11) = some false)
    (xk12_ValueError : PySem.W.kitOne K (.ref cx12) (.type "ValueError") = some false)
    (xk10_2 : PySem.W.kitOne K (.ref cx10) (.ref cx2) = some false)
    (xk10_5 : PySem.W.kitOne K (.ref cx10) (.ref cx5) = some false)
    (xk10_9 : PySem.W.kitOne K (.ref cx10) (.ref cx9) = some false)
    (xk10_6 : PySem.W.kitOne K (.ref cx10) (.ref cx6) = some false)
    (xk10_7 : PySem.W.kitOne K (.ref cx10) (.ref cx7) = some false)
    (xk10_8 : PySem.W.kitOne K (.ref cx10) (.ref cx8) = some false)
    (xk10_0 : PySem.W.kitOne K (.ref cx10) (.ref cx0) = some false)
    (xk10_1 : PySem.W.kitOne K (.ref cx10) (.ref cx1) = some false)
    (xk10_3 : PySem.W.kitOne K (.ref cx10) (.ref cx3) = some false)
    (xk10_4 : PySem.W.kitOne K (.ref cx10) (.ref cx4) = some false)
    (xk10_LookupError : PySem.W.kitOne K (.ref cx10) (.type "LookupError") = some false)
    (xk10_13 : PySem.W.kitOne K (.ref cx10) (.ref cx13) = some false)
    (xk10_12 : PySem.W.kitOne K (.ref cx10) (.ref cx12) = some false)
    (xk10_OverflowError : PySem.W.kitOne K (.ref cx10) (.type "OverflowError") = some false)
    (xk10_10 : PySem.W.kitOne K (.ref cx10) (.ref cx10) = some true)
    (xk10_14 : PySem.W.kitOne K (.ref cx10) (.ref cx14) = some true)
    (xk10_11 : PySem.W.kitOne K (.ref cx10) (.ref cx11) = some false)
    (xk10_ValueError : PySem.W.kitOne K (.ref cx10) (.type "ValueError") = some true)
    (xk11_2 : PySem.W.kitOne K (.ref cx11) (.ref cx2) = some false)
    (xk11_5 : PySem.W.kitOne K (.ref cx11) (.ref cx5) = some false)
    (xk11_9 : PySem.W.kitOne K (.ref cx11) (.ref cx9) = some false)
    (xk11_6 : PySem.W.kitOne K (.ref cx11) (.ref cx6) = some false)
    (xk11_7 : PySem.W.kitOne K (.ref cx11) (.ref cx7) = some false)
    (xk11_8 : PySem.W.kitOne K (.ref cx11) (.ref cx8) = some false)
    (xk11_0 : PySem.W.kitOne K (.ref cx11) (.ref cx0) = some false)
    (xk11_1 : PySem.W.kitOne K (.ref cx11) (.ref cx1) = some false)
    (xk11_3 : PySem.W.kitOne K (.ref cx11) (.ref cx3) = some false)
    (xk11_4 : PySem.W.kitOne K (.ref cx11) (.ref cx4) = some false)
    (xk11_LookupError : PySem.W.kitOne K (.ref cx11) (.type "LookupError") = some false)
    (xk11_13 : PySem.W.kitOne K (.ref cx11) (.ref cx13) = some false)
    (xk11_12 : PySem.W.kitOne K (.ref cx11) (.ref cx12) = some false)
    (xk11_OverflowError : PySem.W.kitOne K (.ref cx11) (.type "OverflowError") = some true)
    (xk11_10 : PySem.W.kitOne K (.ref cx11) (.ref cx10) = some false)
    (xk11_14 : PySem.W.kitOne K (.ref cx11) (.ref cx14) = some false)
    (xk11_11 : PySem.W.kitOne K (.ref cx11) (.ref cx11) = some true)
    (xk11_ValueError : PySem.W.kitOne K (.ref cx11) (.type "ValueError") = some false)
    (xi2 : PySem.W.findIn K (.ref cx2) "__init__" = some (some (.ref fi2))) (li2 : K.lookup fi2 = some ⟨ic2, oi2, .func (PySem.W.fnOf "__init__" "InvalidBody.__init__" (defArgs s_init_InvalidBody) (defBody s_init_InvalidBody) (defScope s_init_InvalidBody) .none iV2 id2 ip2 ai2 ie2 it2), si2⟩) (ci2 : PySem.W.codeIn K ie2 "InvalidBody.__init__" = true) (ki2 : PySem.W.keepIn K (.ref fi2) = true) (xt2 : PySem.W.typeIn K (.ref fi2) = some (.type "function"))
    (xi5 : PySem.W.findIn K (.ref cx5) "__init__" = some (some (.ref fi5))) (li5 : K.lookup fi5 = some ⟨ic5, oi5, .func (PySem.W.fnOf "__init__" "InvalidChoice.__init__" (defArgs s_init_InvalidChoice) (defBody s_init_InvalidChoice) (defScope s_init_InvalidChoice) .none iV5 id5 ip5 ai5 ie5 it5), si5⟩) (ci5 : PySem.W.codeIn K ie5 "InvalidChoice.__init__" = true) (ki5 : PySem.W.keepIn K (.ref fi5) = true) (xt5 : PySem.W.typeIn K (.ref fi5) = some (.type "function"))
    (xi9 : PySem.W.findIn K (.ref cx9) "__init__" = some (some (.ref fi9))) (li9 : K.lookup fi9 = some ⟨ic9, oi9, .func (PySem.W.fnOf "__init__" "InvalidCommand.__init__" (defArgs s_init_InvalidCommand) (defBody s_init_InvalidCommand) (defScope s_init_InvalidCommand) .none iV9 id9 ip9 ai9 ie9 it9), si9⟩) (ci9 : PySem.W.codeIn K ie9 "InvalidCommand.__init__" = true) (ki9 : PySem.W.keepIn K (.ref fi9) = true) (xt9 : PySem.W.typeIn K (.ref fi9) = some (.type "function"))
    (xi6 : PySem.W.findIn K (.ref cx6) "__init__" = some (some (.ref fi6))) (li6 : K.lookup fi6 = some ⟨ic6, oi6, .func (PySem.W.fnOf "__init__" "InvalidEvent.__init__" (defArgs s_init_InvalidEvent) (defBody s_init_InvalidEvent) (defScope s_init_InvalidEvent) .none iV6 id6 ip6 ai6 ie6 it6), si6⟩) (ci6 : PySem.W.codeIn K ie6 "InvalidEvent.__init__" = true) (ki6 : PySem.W.keepIn K (.ref fi6) = true) (xt6 : PySem.W.typeIn K (.ref fi6) = some (.type "function"))
    (xi7 : PySem.W.findIn K (.ref cx7) "__init__" = some (some (.ref fi7))) (li7 : K.lookup fi7 = some ⟨ic7, oi7, .func (PySem.W.fnOf "__init__" "InvalidLimits.__init__" (defArgs s_init_InvalidLimits) (defBody s_init_InvalidLimits) (defScope s_init_InvalidLimits) .none iV7 id7 ip7 ai7 ie7 it7), si7⟩) (ci7 : PySem.W.codeIn K ie7 "InvalidLimits.__init__" = true) (ki7 : PySem.W.keepIn K (.ref fi7) = true) (xt7 : PySem.W.typeIn K (.ref fi7) = some (.type "function"))
    (xi8 : PySem.W.findIn K (.ref cx8) "__init__" = some (some (.ref fi8))) (li8 : K.lookup fi8 = some ⟨ic8, oi8, .func (PySem.W.fnOf "__init__" "InvalidLog.__init__" (defArgs s_init_InvalidLog) (defBody s_init_InvalidLog) (defScope s_init_InvalidLog) .none iV8 id8 ip8 ai8 ie8 it8), si8⟩) (ci8 : PySem.W.codeIn K ie8 "InvalidLog.__init__" = true) (ki8 : PySem.W.keepIn K (.ref fi8) = true) (xt8 : PySem.W.typeIn K (.ref fi8) = some (.type "function"))
    (xi0 : PySem.W.findIn K (.ref cx0) "__init__" = some (some (.ref fi0))) (li0 : K.lookup fi0 = some ⟨ic0, oi0, .func (PySem.W.fnOf "__init__" "InvalidName.__init__" (defArgs s_init_InvalidName) (defBody s_init_InvalidName) (defScope s_init_InvalidName) .none iV0 id0 ip0 ai0 ie0 it0), si0⟩) (ci0 : PySem.W.codeIn K ie0 "InvalidName.__init__" = true) (ki0 : PySem.W.keepIn K (.ref fi0) = true) (xt0 : PySem.W.typeIn K (.ref fi0) = some (.type "function"))
    (xi1 : PySem.W.findIn K (.ref cx1) "__init__" = some (some (.ref fi1))) (li1 : K.lookup fi1 = some ⟨ic1, oi1, .func (PySem.W.fnOf "__init__" "InvalidNumber.__init__" (defArgs s_init_InvalidNumber) (defBody s_init_InvalidNumber) (defScope s_init_InvalidNumber) .none iV1 id1 ip1 ai1 ie1 it1), si1⟩) (ci1 : PySem.W.codeIn K ie1 "InvalidNumber.__init__" = true) (ki1 : PySem.W.keepIn K (.ref fi1) = true) (xt1 : PySem.W.typeIn K (.ref fi1) = some (.type "function"))
    (xi3 : PySem.W.findIn K (.ref cx3) "__init__" = some (some (.ref fi3))) (li3 : K.lookup fi3 = some ⟨ic3, oi3, .func (PySem.W.fnOf "__init__" "InvalidProgram.__init__" (defArgs s_init_InvalidProgram) (defBody s_init_InvalidProgram) (defScope s_init_InvalidProgram) .none iV3 id3 ip3 ai3 ie3 it3), si3⟩) (ci3 : PySem.W.codeIn K ie3 "InvalidProgram.__init__" = true) (ki3 : PySem.W.keepIn K (.ref fi3) = true) (xt3 : PySem.W.typeIn K (.ref fi3) = some (.type "function"))
    (xi4 : PySem.W.findIn K (.ref cx4) "__init__" = some (some (.ref fi4))) (li4 : K.lookup fi4 = some ⟨ic4, oi4, .func (PySem.W.fnOf "__init__" "InvalidState.__init__" (defArgs s_init_InvalidState) (defBody s_init_InvalidState) (defScope s_init_InvalidState) .none iV4 id4 ip4 ai4 ie4 it4), si4⟩) (ci4 : PySem.W.codeIn K ie4 "InvalidState.__init__" = true) (ki4 : PySem.W.keepIn K (.ref fi4) = true) (xt4 : PySem.W.typeIn K (.ref fi4) = some (.type "function"))
    (xi10 : PySem.W.findIn K (.ref cx10) "__init__" = some (some (.ref fi10))) (li10 : K.lookup fi10 = some ⟨ic10, oi10, .func (PySem.W.fnOf "__init__" "ParseError.__init__" (defArgs s_init_ParseError) (defBody s_init_ParseError) (defScope s_init_ParseError) .none iV10 id10 ip10 ai10 ie10 it10), si10⟩) (ci10 : PySem.W.codeIn K ie10 "ParseError.__init__" = true) (ki10 : PySem.W.keepIn K (.ref fi10) = true) (xt10 : PySem.W.typeIn K (.ref fi10) = some (.type "function"))
    (xi11 : PySem.W.findIn K (.ref cx11) "__init__" = some (some (.ref fi11))) (li11 : K.lookup fi11 = some ⟨ic11, oi11, .func (PySem.W.fnOf "__init__" "TooMany.__init__" (defArgs s_init_TooMany) (defBody s_init_TooMany) (defScope s_init_TooMany) .none iV11 id11 ip11 ai11 ie11 it11), si11⟩) (ci11 : PySem.W.codeIn K ie11 "TooMany.__init__" = true) (ki11 : PySem.W.keepIn K (.ref fi11) = true) (xt11 : PySem.W.typeIn K (.ref fi11) = some (.type "function"))
    : ∃ (xc : {xc : XC // FaDis xc}) (fd : FuncData), (∀ (s : Shared) (v : Value), BindsTo s fd ⟨[v], []⟩ [("_law_script", v)]) ∧ ∀ base : Heap, K.In base → base.Ns mainGlobals mg → FnG l.prog w K mg base 6 fa fd ["_law_script"] (spG K 1 (m_law xc.1)) := by
  have  e := hfa.symm.trans (PySem.W.mg_of X G a3)
  cases e
  have F0 := fun_mk (st := s_law_made) l0 c0 k0
  have F1 := fun_mk (st := s_law_named) l1 c1 k1
  have F2 := fun_mk (st := s_law_signs) l2 c2 k2
  have F3 := fun_mk (st := s_law) l3 c3 k3
  have Fi2 := fun_mk (st := s_init_InvalidBody) li2 ci2 ki2
  have Fi5 := fun_mk (st := s_init_InvalidChoice) li5 ci5 ki5
  have Fi9 := fun_mk (st := s_init_InvalidCommand) li9 ci9 ki9
  have Fi6 := fun_mk (st := s_init_InvalidEvent) li6 ci6 ki6
  have Fi7 := fun_mk (st := s_init_InvalidLimits) li7 ci7 ki7
  have Fi8 := fun_mk (st := s_init_InvalidLog) li8 ci8 ki8
  have Fi0 := fun_mk (st := s_init_InvalidName) li0 ci0 ki0
  have Fi1 := fun_mk (st := s_init_InvalidNumber) li1 ci1 ki1
  have Fi3 := fun_mk (st := s_init_InvalidProgram) li3 ci3 ki3
  have Fi4 := fun_mk (st := s_init_InvalidState) li4 ci4 ki4
  have Fi10 := fun_mk (st := s_init_ParseError) li10 ci10 ki10
  have Fi11 := fun_mk (st := s_init_TooMany) li11 ci11 ki11
  let A : FA w K mg := {
    f_law_made := _, d_law_made := _, F_law_made := F0, a_law_made := PySem.W.mg_of X G a0, h_law_made := k0, b_law_made := F0.binds (ps := ["_law_x"]) (fun _ _ _ _ _ _ us hl => match us, hl with | [_], _ => rfl),
    f_law_named := _, d_law_named := _, F_law_named := F1, a_law_named := PySem.W.mg_of X G a1, h_law_named := k1, b_law_named := F1.binds (ps := ["_law_x"]) (fun _ _ _ _ _ _ us hl => match us, hl with | [_], _ => rfl),
    f_law_signs := _, d_law_signs := _, F_law_signs := F2, a_law_signs := PySem.W.mg_of X G a2, h_law_signs := k2, b_law_signs := F2.binds (ps := ["_law_e"]) (fun _ _ _ _ _ _ us hl => match us, hl with | [_], _ => rfl),
    f_law := _, d_law := _, F_law := F3, a_law := PySem.W.mg_of X G a3, h_law := k3, b_law := F3.binds (ps := ["_law_script"]) (fun _ _ _ _ _ _ us hl => match us, hl with | [_], _ => rfl),
    xc := ⟨cx0, cx1, cx2, cx3, cx4, cx5, cx6, cx7, cx8, cx9, cx10, cx11, cx12, cx13, cx14⟩,
    xa_InvalidName := PySem.W.mg_of X G xa0,
    xa_InvalidNumber := PySem.W.mg_of X G xa1,
    xa_InvalidBody := PySem.W.mg_of X G xa2,
    xa_InvalidProgram := PySem.W.mg_of X G xa3,
    xa_InvalidState := PySem.W.mg_of X G xa4,
    xa_InvalidChoice := PySem.W.mg_of X G xa5,
    xa_InvalidEvent := PySem.W.mg_of X G xa6,
    xa_InvalidLimits := PySem.W.mg_of X G xa7,
    xa_InvalidLog := PySem.W.mg_of X G xa8,
    xa_InvalidCommand := PySem.W.mg_of X G xa9,
    xa_ParseError := PySem.W.mg_of X G xa10,
    xa_TooMany := PySem.W.mg_of X G xa11,
    xa_NothingToUndo := PySem.W.mg_of X G xa12,
    xa_NothingToRedo := PySem.W.mg_of X G xa13,
    xa_RunError := PySem.W.mg_of X G xa14,
    xis_InvalidName := ⟨⟨yga0, ygg0, yex0, yhd0⟩, ycl0, ysp, ytk, ymr0⟩,
    kx_InvalidName := ⟨⟨_, _, _, _, PySem.F.excBase_ValueError, PySem.F.store_ValueError, yq0, yv0⟩, yhd0, ysa0, ykc0⟩, no_InvalidName := yno0,
    xis_InvalidNumber := ⟨⟨yga1, ygg1, yex1, yhd1⟩, ycl1, ysp, ytk, ymr1⟩,
    kx_InvalidNumber := ⟨⟨_, _, _, _, PySem.F.excBase_ValueError, PySem.F.store_ValueError, yq1, yv1⟩, yhd1, ysa1, ykc1⟩, no_InvalidNumber := yno1,
    xis_InvalidBody := ⟨⟨yga2, ygg2, yex2, yhd2⟩, ycl2, ysp, ytk, ymr2⟩,
    kx_InvalidBody := ⟨⟨_, _, _, _, PySem.F.excBase_ValueError, PySem.F.store_ValueError, yq2, yv2⟩, yhd2, ysa2, ykc2⟩, no_InvalidBody := yno2,
    xis_InvalidProgram := ⟨⟨yga3, ygg3, yex3, yhd3⟩, ycl3, ysp, ytk, ymr3⟩,
    kx_InvalidProgram := ⟨⟨_, _, _, _, PySem.F.excBase_ValueError, PySem.F.store_ValueError, yq3, yv3⟩, yhd3, ysa3, ykc3⟩, no_InvalidProgram := yno3,
    xis_InvalidState := ⟨⟨yga4, ygg4, yex4, yhd4⟩, ycl4, ysp, ytk, ymr4⟩,
    kx_InvalidState := ⟨⟨_, _, _, _, PySem.F.excBase_ValueError, PySem.F.store_ValueError, yq4, yv4⟩, yhd4, ysa4, ykc4⟩, no_InvalidState := yno4,
    xis_InvalidChoice := ⟨⟨yga5, ygg5, yex5, yhd5⟩, ycl5, ysp, ytk, ymr5⟩,
    kx_InvalidChoice := ⟨⟨_, _, _, _, PySem.F.excBase_ValueError, PySem.F.store_ValueError, yq5, yv5⟩, yhd5, ysa5, ykc5⟩, no_InvalidChoice := yno5,
    xis_InvalidEvent := ⟨⟨yga6, ygg6, yex6, yhd6⟩, ycl6, ysp, ytk, ymr6⟩,
    kx_InvalidEvent := ⟨⟨_, _, _, _, PySem.F.excBase_ValueError, PySem.F.store_ValueError, yq6, yv6⟩, yhd6, ysa6, ykc6⟩, no_InvalidEvent := yno6,
    xis_InvalidLimits := ⟨⟨yga7, ygg7, yex7, yhd7⟩, ycl7, ysp, ytk, ymr7⟩,
    kx_InvalidLimits := ⟨⟨_, _, _, _, PySem.F.excBase_ValueError, PySem.F.store_ValueError, yq7, yv7⟩, yhd7, ysa7, ykc7⟩, no_InvalidLimits := yno7,
    xis_InvalidLog := ⟨⟨yga8, ygg8, yex8, yhd8⟩, ycl8, ysp, ytk, ymr8⟩,
    kx_InvalidLog := ⟨⟨_, _, _, _, PySem.F.excBase_ValueError, PySem.F.store_ValueError, yq8, yv8⟩, yhd8, ysa8, ykc8⟩, no_InvalidLog := yno8,
    xis_InvalidCommand := ⟨⟨yga9, ygg9, yex9, yhd9⟩, ycl9, ysp, ytk, ymr9⟩,
    kx_InvalidCommand := ⟨⟨_, _, _, _, PySem.F.excBase_ValueError, PySem.F.store_ValueError, yq9, yv9⟩, yhd9, ysa9, ykc9⟩, no_InvalidCommand := yno9,
    xis_ParseError := ⟨⟨yga10, ygg10, yex10, yhd10⟩, ycl10, ysp, ytk, ymr10⟩,
    kx_ParseError := ⟨⟨_, _, _, _, PySem.F.excBase_ValueError, PySem.F.store_ValueError, yq10, yv10⟩, yhd10, ysa10, ykc10⟩, no_ParseError := yno10,
    xis_TooMany := ⟨⟨yga11, ygg11, yex11, yhd11⟩, ycl11, ysp, ytk, ymr11⟩,
    kx_TooMany := ⟨⟨_, _, _, _, PySem.F.excBase_OverflowError, PySem.F.store_OverflowError, yq11, yv11⟩, yhd11, ysa11, ykc11⟩, no_TooMany := yno11,
    xis_NothingToUndo := ⟨⟨yga12, ygg12, yex12, yhd12⟩, ycl12, ysp, ytk, ymr12⟩,
    k0_NothingToUndo := ⟨⟨_, _, _, _, PySem.F.excBase_LookupError, yq12, yi12⟩, ykc12⟩,
    xis_NothingToRedo := ⟨⟨yga13, ygg13, yex13, yhd13⟩, ycl13, ysp, ytk, ymr13⟩,
    k0_NothingToRedo := ⟨⟨_, _, _, _, PySem.F.excBase_LookupError, yq13, yi13⟩, ykc13⟩,
    xg_limit := csl_cons ⟨⟨yga11, ygg11, yex11, yhd11⟩, yno11⟩ (csl_nil),
    xg_line := csl_cons ⟨⟨yga10, ygg10, yex10, yhd10⟩, yno10⟩ (csl_nil),
    xg_value := csl_cons ⟨⟨yga0, ygg0, yex0, yhd0⟩, yno0⟩ (csl_cons ⟨⟨yga1, ygg1, yex1, yhd1⟩, yno1⟩ (csl_cons ⟨⟨yga2, ygg2, yex2, yhd2⟩, yno2⟩ (csl_cons ⟨⟨yga3, ygg3, yex3, yhd3⟩, yno3⟩ (csl_cons ⟨⟨yga4, ygg4, yex4, yhd4⟩, yno4⟩ (csl_cons ⟨⟨yga5, ygg5, yex5, yhd5⟩, yno5⟩ (csl_cons ⟨⟨yga6, ygg6, yex6, yhd6⟩, yno6⟩ (csl_cons ⟨⟨yga7, ygg7, yex7, yhd7⟩, yno7⟩ (csl_cons ⟨⟨yga8, ygg8, yex8, yhd8⟩, yno8⟩ (csl_cons ⟨⟨yga9, ygg9, yex9, yhd9⟩, yno9⟩ (csl_nil)))))))))),
    xk_InvalidBody_InvalidBody := xk2_2,
    xk_InvalidBody_InvalidChoice := xk2_5,
    xk_InvalidBody_InvalidCommand := xk2_9,
    xk_InvalidBody_InvalidEvent := xk2_6,
    xk_InvalidBody_InvalidLimits := xk2_7,
    xk_InvalidBody_InvalidLog := xk2_8,
    xk_InvalidBody_InvalidName := xk2_0,
    xk_InvalidBody_InvalidNumber := xk2_1,
    xk_InvalidBody_InvalidProgram := xk2_3,
    xk_InvalidBody_InvalidState := xk2_4,
    xk_InvalidBody_LookupError := xk2_LookupError,
    xk_InvalidBody_NothingToRedo := xk2_13,
    xk_InvalidBody_NothingToUndo := xk2_12,
    xk_InvalidBody_OverflowError := xk2_OverflowError,
    xk_InvalidBody_ParseError := xk2_10,
    xk_InvalidBody_RunError := xk2_14,
    xk_InvalidBody_TooMany := xk2_11,
    xk_InvalidBody_ValueError := xk2_ValueError,
    xk_InvalidChoice_InvalidBody := xk5_2,
    xk_InvalidChoice_InvalidChoice := xk5_5,
    xk_InvalidChoice_InvalidCommand := xk5_9,
    xk_InvalidChoice_InvalidEvent := xk5_6,
    xk_InvalidChoice_InvalidLimits := xk5_7,
    xk_InvalidChoice_InvalidLog := xk5_8,
    xk_InvalidChoice_InvalidName := xk5_0,
    xk_InvalidChoice_InvalidNumber := xk5_1,
    xk_InvalidChoice_InvalidProgram := xk5_3,
    xk_InvalidChoice_InvalidState := xk5_4,
    xk_InvalidChoice_LookupError := xk5_LookupError,
    xk_InvalidChoice_NothingToRedo := xk5_13,
    xk_InvalidChoice_NothingToUndo := xk5_12,
    xk_InvalidChoice_OverflowError := xk5_OverflowError,
    xk_InvalidChoice_ParseError := xk5_10,
    xk_InvalidChoice_RunError := xk5_14,
    xk_InvalidChoice_TooMany := xk5_11,
    xk_InvalidChoice_ValueError := xk5_ValueError,
    xk_InvalidCommand_InvalidBody := xk9_2,
    xk_InvalidCommand_InvalidChoice := xk9_5,
    xk_InvalidCommand_InvalidCommand := xk9_9,
    xk_InvalidCommand_InvalidEvent := xk9_6,
    xk_InvalidCommand_InvalidLimits := xk9_7,
    xk_InvalidCommand_InvalidLog := xk9_8,
    xk_InvalidCommand_InvalidName := xk9_0,
    xk_InvalidCommand_InvalidNumber := xk9_1,
    xk_InvalidCommand_InvalidProgram := xk9_3,
    xk_InvalidCommand_InvalidState := xk9_4,
    xk_InvalidCommand_LookupError := xk9_LookupError,
    xk_InvalidCommand_NothingToRedo := xk9_13,
    xk_InvalidCommand_NothingToUndo := xk9_12,
    xk_InvalidCommand_OverflowError := xk9_OverflowError,
    xk_InvalidCommand_ParseError := xk9_10,
    xk_InvalidCommand_RunError := xk9_14,
    xk_InvalidCommand_TooMany := xk9_11,
    xk_InvalidCommand_ValueError := xk9_ValueError,
    xk_InvalidEvent_InvalidBody := xk6_2,
    xk_InvalidEvent_InvalidChoice := xk6_5,
    xk_InvalidEvent_InvalidCommand := xk6_9,
    xk_InvalidEvent_InvalidEvent := xk6_6,
    xk_InvalidEvent_InvalidLimits := xk6_7,
    xk_InvalidEvent_InvalidLog := xk6_8,
    xk_InvalidEvent_InvalidName := xk6_0,
    xk_InvalidEvent_InvalidNumber := xk6_1,
    xk_InvalidEvent_InvalidProgram := xk6_3,
    xk_InvalidEvent_InvalidState := xk6_4,
    xk_InvalidEvent_LookupError := xk6_LookupError,
    xk_InvalidEvent_NothingToRedo := xk6_13,
    xk_InvalidEvent_NothingToUndo := xk6_12,
    xk_InvalidEvent_OverflowError := xk6_OverflowError,
    xk_InvalidEvent_ParseError := xk6_10,
    xk_InvalidEvent_RunError := xk6_14,
    xk_InvalidEvent_TooMany := xk6_11,
    xk_InvalidEvent_ValueError := xk6_ValueError,
    xk_InvalidLimits_InvalidBody := xk7_2,
    xk_InvalidLimits_InvalidChoice := xk7_5,
    xk_InvalidLimits_InvalidCommand := xk7_9,
    xk_InvalidLimits_InvalidEvent := xk7_6,
    xk_InvalidLimits_InvalidLimits := xk7_7,
    xk_InvalidLimits_InvalidLog := xk7_8,
    xk_InvalidLimits_InvalidName := xk7_0,
    xk_InvalidLimits_InvalidNumber := xk7_1,
    xk_InvalidLimits_InvalidProgram := xk7_3,
    xk_InvalidLimits_InvalidState := xk7_4,
    xk_InvalidLimits_LookupError := xk7_LookupError,
    xk_InvalidLimits_NothingToRedo := xk7_13,
    xk_InvalidLimits_NothingToUndo := xk7_12,
    xk_InvalidLimits_OverflowError := xk7_OverflowError,
    xk_InvalidLimits_ParseError := xk7_10,
    xk_InvalidLimits_RunError := xk7_14,
    xk_InvalidLimits_TooMany := xk7_11,
    xk_InvalidLimits_ValueError := xk7_ValueError,
    xk_InvalidLog_InvalidBody := xk8_2,
    xk_InvalidLog_InvalidChoice := xk8_5,
    xk_InvalidLog_InvalidCommand := xk8_9,
    xk_InvalidLog_InvalidEvent := xk8_6,
    xk_InvalidLog_InvalidLimits := xk8_7,
    xk_InvalidLog_InvalidLog := xk8_8,
    xk_InvalidLog_InvalidName := xk8_0,
    xk_InvalidLog_InvalidNumber := xk8_1,
    xk_InvalidLog_InvalidProgram := xk8_3,
    xk_InvalidLog_InvalidState := xk8_4,
    xk_InvalidLog_LookupError := xk8_LookupError,
    xk_InvalidLog_NothingToRedo := xk8_13,
    xk_InvalidLog_NothingToUndo := xk8_12,
    xk_InvalidLog_OverflowError := xk8_OverflowError,
    xk_InvalidLog_ParseError := xk8_10,
    xk_InvalidLog_RunError := xk8_14,
    xk_InvalidLog_TooMany := xk8_11,
    xk_InvalidLog_ValueError := xk8_ValueError,
    xk_InvalidName_InvalidBody := xk0_2,
    xk_InvalidName_InvalidChoice := xk0_5,
    xk_InvalidName_InvalidCommand := xk0_9,
    xk_InvalidName_InvalidEvent := xk0_6,
    xk_InvalidName_InvalidLimits := xk0_7,
    xk_InvalidName_InvalidLog := xk0_8,
    xk_InvalidName_InvalidName := xk0_0,
    xk_InvalidName_InvalidNumber := xk0_1,
    xk_InvalidName_InvalidProgram := xk0_3,
    xk_InvalidName_InvalidState := xk0_4,
    xk_InvalidName_LookupError := xk0_LookupError,
    xk_InvalidName_NothingToRedo := xk0_13,
    xk_InvalidName_NothingToUndo := xk0_12,
    xk_InvalidName_OverflowError := xk0_OverflowError,
    xk_InvalidName_ParseError := xk0_10,
    xk_InvalidName_RunError := xk0_14,
    xk_InvalidName_TooMany := xk0_11,
    xk_InvalidName_ValueError := xk0_ValueError,
    xk_InvalidNumber_InvalidBody := xk1_2,
    xk_InvalidNumber_InvalidChoice := xk1_5,
    xk_InvalidNumber_InvalidCommand := xk1_9,
    xk_InvalidNumber_InvalidEvent := xk1_6,
    xk_InvalidNumber_InvalidLimits := xk1_7,
    xk_InvalidNumber_InvalidLog := xk1_8,
    xk_InvalidNumber_InvalidName := xk1_0,
    xk_InvalidNumber_InvalidNumber := xk1_1,
    xk_InvalidNumber_InvalidProgram := xk1_3,
    xk_InvalidNumber_InvalidState := xk1_4,
    xk_InvalidNumber_LookupError := xk1_LookupError,
    xk_InvalidNumber_NothingToRedo := xk1_13,
    xk_InvalidNumber_NothingToUndo := xk1_12,
    xk_InvalidNumber_OverflowError := xk1_OverflowError,
    xk_InvalidNumber_ParseError := xk1_10,
    xk_InvalidNumber_RunError := xk1_14,
    xk_InvalidNumber_TooMany := xk1_11,
    xk_InvalidNumber_ValueError := xk1_ValueError,
    xk_InvalidProgram_InvalidBody := xk3_2,
    xk_InvalidProgram_InvalidChoice := xk3_5,
    xk_InvalidProgram_InvalidCommand := xk3_9,
    xk_InvalidProgram_InvalidEvent := xk3_6,
    xk_InvalidProgram_InvalidLimits := xk3_7,
    xk_InvalidProgram_InvalidLog := xk3_8,
    xk_InvalidProgram_InvalidName := xk3_0,
    xk_InvalidProgram_InvalidNumber := xk3_1,
    xk_InvalidProgram_InvalidProgram := xk3_3,
    xk_InvalidProgram_InvalidState := xk3_4,
    xk_InvalidProgram_LookupError := xk3_LookupError,
    xk_InvalidProgram_NothingToRedo := xk3_13,
    xk_InvalidProgram_NothingToUndo := xk3_12,
    xk_InvalidProgram_OverflowError := xk3_OverflowError,
    xk_InvalidProgram_ParseError := xk3_10,
    xk_InvalidProgram_RunError := xk3_14,
    xk_InvalidProgram_TooMany := xk3_11,
    xk_InvalidProgram_ValueError := xk3_ValueError,
    xk_InvalidState_InvalidBody := xk4_2,
    xk_InvalidState_InvalidChoice := xk4_5,
    xk_InvalidState_InvalidCommand := xk4_9,
    xk_InvalidState_InvalidEvent := xk4_6,
    xk_InvalidState_InvalidLimits := xk4_7,
    xk_InvalidState_InvalidLog := xk4_8,
    xk_InvalidState_InvalidName := xk4_0,
    xk_InvalidState_InvalidNumber := xk4_1,
    xk_InvalidState_InvalidProgram := xk4_3,
    xk_InvalidState_InvalidState := xk4_4,
    xk_InvalidState_LookupError := xk4_LookupError,
    xk_InvalidState_NothingToRedo := xk4_13,
    xk_InvalidState_NothingToUndo := xk4_12,
    xk_InvalidState_OverflowError := xk4_OverflowError,
    xk_InvalidState_ParseError := xk4_10,
    xk_InvalidState_RunError := xk4_14,
    xk_InvalidState_TooMany := xk4_11,
    xk_InvalidState_ValueError := xk4_ValueError,
    xk_NothingToRedo_InvalidBody := xk13_2,
    xk_NothingToRedo_InvalidChoice := xk13_5,
    xk_NothingToRedo_InvalidCommand := xk13_9,
    xk_NothingToRedo_InvalidEvent := xk13_6,
    xk_NothingToRedo_InvalidLimits := xk13_7,
    xk_NothingToRedo_InvalidLog := xk13_8,
    xk_NothingToRedo_InvalidName := xk13_0,
    xk_NothingToRedo_InvalidNumber := xk13_1,
    xk_NothingToRedo_InvalidProgram := xk13_3,
    xk_NothingToRedo_InvalidState := xk13_4,
    xk_NothingToRedo_LookupError := xk13_LookupError,
    xk_NothingToRedo_NothingToRedo := xk13_13,
    xk_NothingToRedo_NothingToUndo := xk13_12,
    xk_NothingToRedo_OverflowError := xk13_OverflowError,
    xk_NothingToRedo_ParseError := xk13_10,
    xk_NothingToRedo_RunError := xk13_14,
    xk_NothingToRedo_TooMany := xk13_11,
    xk_NothingToRedo_ValueError := xk13_ValueError,
    xk_NothingToUndo_InvalidBody := xk12_2,
    xk_NothingToUndo_InvalidChoice := xk12_5,
    xk_NothingToUndo_InvalidCommand := xk12_9,
    xk_NothingToUndo_InvalidEvent := xk12_6,
    xk_NothingToUndo_InvalidLimits := xk12_7,
    xk_NothingToUndo_InvalidLog := xk12_8,
    xk_NothingToUndo_InvalidName := xk12_0,
    xk_NothingToUndo_InvalidNumber := xk12_1,
    xk_NothingToUndo_InvalidProgram := xk12_3,
    xk_NothingToUndo_InvalidState := xk12_4,
    xk_NothingToUndo_LookupError := xk12_LookupError,
    xk_NothingToUndo_NothingToRedo := xk12_13,
    xk_NothingToUndo_NothingToUndo := xk12_12,
    xk_NothingToUndo_OverflowError := xk12_OverflowError,
    xk_NothingToUndo_ParseError := xk12_10,
    xk_NothingToUndo_RunError := xk12_14,
    xk_NothingToUndo_TooMany := xk12_11,
    xk_NothingToUndo_ValueError := xk12_ValueError,
    xk_ParseError_InvalidBody := xk10_2,
    xk_ParseError_InvalidChoice := xk10_5,
    xk_ParseError_InvalidCommand := xk10_9,
    xk_ParseError_InvalidEvent := xk10_6,
    xk_ParseError_InvalidLimits := xk10_7,
    xk_ParseError_InvalidLog := xk10_8,
    xk_ParseError_InvalidName := xk10_0,
    xk_ParseError_InvalidNumber := xk10_1,
    xk_ParseError_InvalidProgram := xk10_3,
    xk_ParseError_InvalidState := xk10_4,
    xk_ParseError_LookupError := xk10_LookupError,
    xk_ParseError_NothingToRedo := xk10_13,
    xk_ParseError_NothingToUndo := xk10_12,
    xk_ParseError_OverflowError := xk10_OverflowError,
    xk_ParseError_ParseError := xk10_10,
    xk_ParseError_RunError := xk10_14,
    xk_ParseError_TooMany := xk10_11,
    xk_ParseError_ValueError := xk10_ValueError,
    xk_TooMany_InvalidBody := xk11_2,
    xk_TooMany_InvalidChoice := xk11_5,
    xk_TooMany_InvalidCommand := xk11_9,
    xk_TooMany_InvalidEvent := xk11_6,
    xk_TooMany_InvalidLimits := xk11_7,
    xk_TooMany_InvalidLog := xk11_8,
    xk_TooMany_InvalidName := xk11_0,
    xk_TooMany_InvalidNumber := xk11_1,
    xk_TooMany_InvalidProgram := xk11_3,
    xk_TooMany_InvalidState := xk11_4,
    xk_TooMany_LookupError := xk11_LookupError,
    xk_TooMany_NothingToRedo := xk11_13,
    xk_TooMany_NothingToUndo := xk11_12,
    xk_TooMany_OverflowError := xk11_OverflowError,
    xk_TooMany_ParseError := xk11_10,
    xk_TooMany_RunError := xk11_14,
    xk_TooMany_TooMany := xk11_11,
    xk_TooMany_ValueError := xk11_ValueError,
    fi_InvalidBody := _, di_InvalidBody := _, Fi_InvalidBody := Fi2, xi_InvalidBody := xi2, xt_InvalidBody := xt2, xb_InvalidBody := Fi2.binds (ps := ["self", "value"]) (fun _ _ _ _ _ _ us hl => match us, hl with | [_, _], _ => rfl),
    fi_InvalidChoice := _, di_InvalidChoice := _, Fi_InvalidChoice := Fi5, xi_InvalidChoice := xi5, xt_InvalidChoice := xt5, xb_InvalidChoice := Fi5.binds (ps := ["self", "value"]) (fun _ _ _ _ _ _ us hl => match us, hl with | [_, _], _ => rfl),
    fi_InvalidCommand := _, di_InvalidCommand := _, Fi_InvalidCommand := Fi9, xi_InvalidCommand := xi9, xt_InvalidCommand := xt9, xb_InvalidCommand := Fi9.binds (ps := ["self", "value"]) (fun _ _ _ _ _ _ us hl => match us, hl with | [_, _], _ => rfl),
    fi_InvalidEvent := _, di_InvalidEvent := _, Fi_InvalidEvent := Fi6, xi_InvalidEvent := xi6, xt_InvalidEvent := xt6, xb_InvalidEvent := Fi6.binds (ps := ["self", "value"]) (fun _ _ _ _ _ _ us hl => match us, hl with | [_, _], _ => rfl),
    fi_InvalidLimits := _, di_InvalidLimits := _, Fi_InvalidLimits := Fi7, xi_InvalidLimits := xi7, xt_InvalidLimits := xt7, xb_InvalidLimits := Fi7.binds (ps := ["self", "value"]) (fun _ _ _ _ _ _ us hl => match us, hl with | [_, _], _ => rfl),
    fi_InvalidLog := _, di_InvalidLog := _, Fi_InvalidLog := Fi8, xi_InvalidLog := xi8, xt_InvalidLog := xt8, xb_InvalidLog := Fi8.binds (ps := ["self", "value"]) (fun _ _ _ _ _ _ us hl => match us, hl with | [_, _], _ => rfl),
    fi_InvalidName := _, di_InvalidName := _, Fi_InvalidName := Fi0, xi_InvalidName := xi0, xt_InvalidName := xt0, xb_InvalidName := Fi0.binds (ps := ["self", "value"]) (fun _ _ _ _ _ _ us hl => match us, hl with | [_, _], _ => rfl),
    fi_InvalidNumber := _, di_InvalidNumber := _, Fi_InvalidNumber := Fi1, xi_InvalidNumber := xi1, xt_InvalidNumber := xt1, xb_InvalidNumber := Fi1.binds (ps := ["self", "value"]) (fun _ _ _ _ _ _ us hl => match us, hl with | [_, _], _ => rfl),
    fi_InvalidProgram := _, di_InvalidProgram := _, Fi_InvalidProgram := Fi3, xi_InvalidProgram := xi3, xt_InvalidProgram := xt3, xb_InvalidProgram := Fi3.binds (ps := ["self", "value"]) (fun _ _ _ _ _ _ us hl => match us, hl with | [_, _], _ => rfl),
    fi_InvalidState := _, di_InvalidState := _, Fi_InvalidState := Fi4, xi_InvalidState := xi4, xt_InvalidState := xt4, xb_InvalidState := Fi4.binds (ps := ["self", "value"]) (fun _ _ _ _ _ _ us hl => match us, hl with | [_, _], _ => rfl),
    fi_ParseError := _, di_ParseError := _, Fi_ParseError := Fi10, xi_ParseError := xi10, xt_ParseError := xt10, xb_ParseError := Fi10.binds (ps := ["self", "line"]) (fun _ _ _ _ _ _ us hl => match us, hl with | [_, _], _ => rfl),
    fi_TooMany := _, di_TooMany := _, Fi_TooMany := Fi11, xi_TooMany := xi11, xt_TooMany := xt11, xb_TooMany := Fi11.binds (ps := ["self", "limit"]) (fun _ _ _ _ _ _ us hl => match us, hl with | [_, _], _ => rfl),
    kbx_InvalidBody := Fun_kb Fi2 (fun _ _ _ _ _ _ us ws l1 l2 => match us, ws, l1, l2 with | [_], [_], _, _ => rfl),
    kbx_InvalidChoice := Fun_kb Fi5 (fun _ _ _ _ _ _ us ws l1 l2 => match us, ws, l1, l2 with | [_], [_], _, _ => rfl),
    kbx_InvalidCommand := Fun_kb Fi9 (fun _ _ _ _ _ _ us ws l1 l2 => match us, ws, l1, l2 with | [_], [_], _, _ => rfl),
    kbx_InvalidEvent := Fun_kb Fi6 (fun _ _ _ _ _ _ us ws l1 l2 => match us, ws, l1, l2 with | [_], [_], _, _ => rfl),
    kbx_InvalidLimits := Fun_kb Fi7 (fun _ _ _ _ _ _ us ws l1 l2 => match us, ws, l1, l2 with | [_], [_], _, _ => rfl),
    kbx_InvalidLog := Fun_kb Fi8 (fun _ _ _ _ _ _ us ws l1 l2 => match us, ws, l1, l2 with | [_], [_], _, _ => rfl),
    kbx_InvalidName := Fun_kb Fi0 (fun _ _ _ _ _ _ us ws l1 l2 => match us, ws, l1, l2 with | [_], [_], _, _ => rfl),
    kbx_InvalidNumber := Fun_kb Fi1 (fun _ _ _ _ _ _ us ws l1 l2 => match us, ws, l1, l2 with | [_], [_], _, _ => rfl),
    kbx_InvalidProgram := Fun_kb Fi3 (fun _ _ _ _ _ _ us ws l1 l2 => match us, ws, l1, l2 with | [_], [_], _, _ => rfl),
    kbx_InvalidState := Fun_kb Fi4 (fun _ _ _ _ _ _ us ws l1 l2 => match us, ws, l1, l2 with | [_], [_], _, _ => rfl),
    kbx_ParseError := Fun_kb Fi10 (fun _ _ _ _ _ _ us ws l1 l2 => match us, ws, l1, l2 with | [_], [_], _, _ => rfl),
    kbx_TooMany := Fun_kb Fi11 (fun _ _ _ _ _ _ us ws l1 l2 => match us, ws, l1, l2 with | [_], [_], _, _ => rfl),
    n_isinstance := PySem.W.mg_none_of X G z0,
    n_enumerate := PySem.W.mg_none_of X G z1,
    n_range := PySem.W.mg_none_of X G z2,
    n_ValueError := PySem.W.mg_none_of X G z3,
    n_OverflowError := PySem.W.mg_none_of X G z4,
    n_LookupError := PySem.W.mg_none_of X G z5,
    n_list := PySem.W.mg_none_of X G z6,
    n_len := PySem.W.mg_none_of X G z7 }
  exact ⟨⟨A.xc, fa_dis A⟩, _, fun s v => .of_eq rfl, fun base _ _ => ok_law A⟩
end K03
/-! k03M1 -/
namespace K03
open Mi PySem
/-! ### the classes; the store -/
def cs (xc : XC) : List Addr := [xc.InvalidName, xc.InvalidNumber, xc.InvalidBody, xc.InvalidProgram, xc.InvalidState, xc.InvalidChoice, xc.InvalidEvent, xc.InvalidLimits, xc.InvalidLog, xc.InvalidCommand, xc.ParseError, xc.TooMany, xc.NothingToUndo, xc.NothingToRedo]
theorem lk_zip : ∀ {as : List Addr} {bs : List Bool} {j : Nat} {C : Addr} {b : Bool}, as.Nodup → as[j]? = some C → bs[j]? = some b → lkB C (as.zip bs) = some b
  | [], bs, j, C, b, _, h, _ => by cases h
  | a :: as, [], j, C, b, _, _, h => by cases h
  | a :: as, c :: bs, 0, C, b, _, h, h2 => by
    cases h; cases h2
    show (if a = a then some c else _) = _
    rw [if_pos rfl]
  | a :: as, c :: bs, j + 1, C, b, nd, h, h2 => by
    have nd := List.nodup_cons.mp nd
    have h : as[j]? = some C := h
    have ne : ¬ C = a := fun e => nd.1 (e ▸ List.mem_of_getElem? h)
    show (if C = a then some c else lkB C (as.zip bs)) = _
    rw [if_neg ne]
    exact lk_zip nd.2 h h2
/-- what is there stays -/
def Sub (s t : Sto) : Prop := ∀ (m : Nat) (o : SO), s[m]? = some o → t[m]? = some o
/-- .. 0 aside -/
def Sub0 (s t : Sto) : Prop := ∀ (m : Nat) (o : SO), m ≠ 0 → s[m]? = some o → t[m]? = some o
theorem Sub.refl {s : Sto} : Sub s s := fun _ _ h => h
theorem Sub.trans {s t u : Sto} (a : Sub s t) (b : Sub t u) : Sub s u := fun m o h => b m o (a m o h)
theorem Sub0.refl {s : Sto} : Sub0 s s := fun _ _ _ h => h
theorem Sub0.trans {s t u : Sto} (a : Sub0 s t) (b : Sub0 t u) : Sub0 s u := fun m o n h => b m o n (a m o n h)
theorem Sub.z {s t : Sto} (a : Sub s t) : Sub0 s t := fun m o _ h => a m o h
theorem sub_app {s u : Sto} : Sub s (s ++ u) := fun m o h => by
  rw [List.getElem?_append_left (List.getElem?_eq_some_iff.mp h).1]; exact h
theorem Sub.app {s t u : Sto} (a : Sub s t) : Sub s (t ++ u) := a.trans sub_app
theorem Sub.set {s t : Sto} {k : Nat} {x : SO} (a : Sub s t) (h : s.length ≤ k) : Sub s (t.set k x) := fun m o q => by
  have l := (List.getElem?_eq_some_iff.mp q).1
  rw [List.getElem?_set_ne (by omega)]
  exact a m o q
theorem get_end {s : Sto} {o : SO} : (s ++ [o])[s.length]? = some o := by
  rw [List.getElem?_append_right (Nat.le_refl _), Nat.sub_self]; rfl
theorem sub_len {s t : Sto} (a : Sub s t) : s.length ≤ t.length := by
  by_cases h : s.length = 0
  · omega
  · have q : s[s.length - 1]? = some (s[s.length - 1]'(by omega)) := List.getElem?_eq_getElem (by omega)
    have := (List.getElem?_eq_some_iff.mp (a _ _ q)).1
    omega
section
variable {env : Mi.Env} {s : Sto} {fs : List (Mi.Env → Sto → Res D)} {f g : Mi.Env → Sto → Res D} {d e : D} {ds xs : List D} {i k : Nat}
theorem var_ok (h : env[i]? = some (some d)) : eVar i env s = .ok d s := by
  unfold eVar; rw [h]
theorem args_cons (h : f env s = .ok d s) (h2 : argsM fs env s = .ok ds s) : argsM (f :: fs) env s = .ok (d :: ds) s := by
  show (f env s).bind _ = _
  rw [h]
  show (argsM fs env s).bind _ = _
  rw [h2]; rfl
theorem args_two (h : f env s = .ok d s) (h2 : g env s = .ok e s) : argsM [f, g] env s = .ok [d, e] s := args_cons h (args_cons h2 rfl)
theorem new_ok {s2 : Sto} (h : argsM fs env s = .ok ds s2) : newM fs env s = .ok (.r s2.length) (s2 ++ [.lst ds]) := by
  unfold newM; rw [h]; rfl
theorem lit_ok (h : s[k]? = some (.lst ds)) : litems s (.r k) = some ds := by
  unfold litems; dsimp only; rw [h]
theorem it_ok (h : s[k]? = some (.lst ds)) : items s (.r k) = some ds := by
  unfold items; dsimp only; rw [h]
theorem add_ok {s1 s2 : Sto} {k2 : Nat} (h : f env s = .ok (.r k) s1) (h2 : g env s1 = .ok (.r k2) s2) (e1 : s2[k]? = some (.lst xs)) (e2 : s2[k2]? = some (.lst ds)) (hl : xs.length + ds.length ≤ LIM) : binN addN f g env s = .ok (.r s2.length) (s2 ++ [.lst (xs ++ ds)]) := by
  unfold binN; rw [h]
  show (g env s1).bind _ = _
  rw [h2]
  show optS (addN (.r k) (.r k2) s2) = _
  unfold addN
  rw [lit_ok e1]
  show optS ((litems s2 (.r k2)).bind _) = _
  rw [lit_ok e2]
  show optS (if xs.length + ds.length ≤ LIM then _ else none) = _
  rw [if_pos hl]; rfl
/-! ### exceptions that are made -/
abbrev PC := Addr × Option Str
def mkF (p : PC) : Mi.Env → Sto → Res D := match p.2 with
  | some n => exM p.1 n [eVar 0]
  | none => ex0M p.1
def exO (d : D) (p : PC) : SO := .exc p.1 (match p.2 with
  | some n => [(n, d)]
  | none => [])
/-- these objects, made with d -/
def Refs (d : D) (s : Sto) : List PC → List D → Prop
  | [], [] => True
  | p :: ps, e :: es => (∃ m, e = .r m ∧ s[m]? = some (exO d p)) ∧ Refs d s ps es
  | _, _ => False
theorem Refs.app {d : D} {s : Sto} : ∀ {ps qs : List PC} {es fs : List D}, Refs d s ps es → Refs d s qs fs → Refs d s (ps ++ qs) (es ++ fs)
  | [], qs, [], fs, _, h => h
  | [], qs, _ :: _, fs, h, _ => h.elim
  | _ :: _, qs, [], fs, h, _ => h.elim
  | p :: ps, qs, e :: es, fs, ⟨h1, h2⟩, h => ⟨h1, h2.app h⟩
theorem Refs.len {d : D} {s : Sto} : ∀ {ps : List PC} {es : List D}, Refs d s ps es → es.length = ps.length
  | [], [], _ => rfl
  | [], _ :: _, h => h.elim
  | _ :: _, [], h => h.elim
  | p :: ps, e :: es, ⟨_, h2⟩ => by rw [List.length_cons, List.length_cons, h2.len]
theorem Refs.imp {d : D} {s t : Sto} (k : ∀ (m : Nat) (p : PC), s[m]? = some (exO d p) → t[m]? = some (exO d p)) : ∀ {ps : List PC} {es : List D}, Refs d s ps es → Refs d t ps es
  | [], [], _ => trivial
  | [], _ :: _, h => h.elim
  | _ :: _, [], h => h.elim
  | p :: ps, e :: es, ⟨⟨m, h1, h3⟩, h2⟩ => ⟨⟨m, h1, k m p h3⟩, h2.imp k⟩
theorem Refs.mono {d : D} {s t : Sto} {ps : List PC} {es : List D} (h : Refs d s ps es) (a : Sub s t) : Refs d t ps es := h.imp fun m p q => a m _ q
theorem Refs.set {d : D} {s : Sto} {ps : List PC} {es xs : List D} {k : Nat} {o : SO} (h : Refs d s ps es) (hk : s[k]? = some (.lst xs)) : Refs d (s.set k o) ps es := h.imp fun m p q => by
  have ne : k ≠ m := fun e => by rw [← e, hk] at q; exact nomatch q
  rw [List.getElem?_set_ne ne]
  exact q
theorem Refs.get {d : D} {s : Sto} : ∀ {ps : List PC} {es : List D} {i : Nat} {e : D}, Refs d s ps es → es[i]? = some e → ∃ p m, ps[i]? = some p ∧ e = .r m ∧ s[m]? = some (exO d p)
  | [], [], i, e, _, h => by cases h
  | [], _ :: _, i, e, h, _ => h.elim
  | _ :: _, [], i, e, h, _ => h.elim
  | p :: ps, e :: es, 0, _, ⟨⟨m, h1, h3⟩, h2⟩, h => by cases h; exact ⟨p, m, rfl, h1, h3⟩
  | p :: ps, e :: es, i + 1, _, ⟨_, h2⟩, h => h2.get (i := i) h
theorem mk_ok {p : PC} (hv : env[0]? = some (some d)) : mkF p env s = .ok (.r s.length) (s ++ [exO d p]) := by
  obtain ⟨C, o⟩ := p
  cases o with
  | none => rfl
  | some n =>
    show exM C n [eVar 0] env s = _
    unfold exM
    rw [show argsM [eVar 0] env s = .ok [d] s from args_cons (var_ok hv) rfl]
    rfl
theorem args_ex (hv : env[0]? = some (some d)) : ∀ (ps : List PC) (s : Sto), ∃ ds t, argsM (ps.map mkF) env s = .ok ds t ∧ Sub s t ∧ Refs d t ps ds
  | [], s => ⟨[], s, rfl, .refl, trivial⟩
  | p :: ps, s => by
    obtain ⟨ds, t, h, a, r⟩ := args_ex hv ps (s ++ [exO d p])
    refine ⟨.r s.length :: ds, t, ?_, sub_app.trans a, ⟨s.length, rfl, a _ _ get_end⟩, r⟩
    show (mkF p env s).bind _ = _
    rw [mk_ok hv]
    show (argsM (ps.map mkF) env (s ++ [exO d p])).bind _ = _
    rw [h]; rfl
theorem new_ex (hv : env[0]? = some (some d)) (ps : List PC) : ∃ k t es, newM (ps.map mkF) env s = .ok (.r k) t ∧ Sub s t ∧ s.length ≤ k ∧ t[k]? = some (.lst es) ∧ Refs d t ps es := by
  obtain ⟨ds, t, h, a, r⟩ := args_ex hv ps s
  exact ⟨_, _, ds, new_ok h, a.app, sub_len a, get_end, r.mono sub_app⟩
theorem add_ex {qs : List PC} (hv : env[0]? = some (some d)) (h1 : env[1]? = some (some (.r k))) (hk : s[k]? = some (.lst xs)) (hr : Refs d s qs xs) (ps : List PC) (hl : qs.length + ps.length ≤ 1000) :
    ∃ k' t es, binN addN (eVar 1) (newM (ps.map mkF)) env s = .ok (.r k') t ∧ Sub s t ∧ s.length ≤ k' ∧ t[k']? = some (.lst es) ∧ Refs d t (qs ++ ps) es := by
  obtain ⟨k2, t, es, h, a, l, e2, r⟩ := new_ex (s := s) hv ps
  exact ⟨_, _, xs ++ es, add_ok (var_ok h1) h (a _ _ hk) e2 (by rw [hr.len, r.len]; unfold LIM; omega), a.app, sub_len a, get_end, ((hr.mono a).app r).mono sub_app⟩
end
def PS (xc : XC) : List PC := [(xc.InvalidName, some "value"), (xc.InvalidNumber, some "value"), (xc.InvalidBody, some "value"), (xc.InvalidProgram, some "value"), (xc.InvalidState, some "value"), (xc.InvalidChoice, some "value"), (xc.InvalidEvent, some "value"), (xc.InvalidLimits, some "value"), (xc.InvalidLog, some "value"), (xc.InvalidCommand, some "value"), (xc.ParseError, some "line"), (xc.TooMany, some "limit"), (xc.NothingToUndo, none), (xc.NothingToRedo, none)]
theorem exit_is {o : Out} {A : D → Sto → Prop} (h : o.Is (fun _ _ => False) A) : (exitG o).Is A := by
  cases o with
  | rt d s => exact h
  | nx e s => exact h.elim
  | bk _ _ => exact h.elim
  | ct _ _ => exact h.elim
  | exc _ _ _ _ => exact h.elim
  | bad => exact h.elim
/-- a list of all the errors, made with d -/
def Made (xc : XC) (d : D) (s0 : Sto) (r : D) (s : Sto) : Prop := ∃ k es, r = .r k ∧ Sub s0 s ∧ s0.length ≤ k ∧ s[k]? = some (.lst es) ∧ Refs d s (PS xc) es
theorem made_ok (xc : XC) (d : D) (s : Sto) : (m_law_made xc [d] s).Is (Made xc d s) := by
  unfold m_law_made defG
  refine exit_is ?_
  show (b_law_made xc [some d, none] s).Is _ _
  unfold b_law_made
  obtain ⟨k, t, es, h, a, l, e, r⟩ := new_ex (env := [some d, none]) (s := s) (d := d) rfl ((PS xc).take 5)
  refine o_seq <| o_set <| Res.is_of h ?_
  obtain ⟨k2, t2, es2, h2, a2, l2, e2, r2⟩ := add_ex (env := [some d, some (.r k)]) (d := d) rfl rfl e r [(xc.InvalidChoice, some "value"), (xc.InvalidEvent, some "value"), (xc.InvalidLimits, some "value"), (xc.InvalidLog, some "value")] (Nat.le_of_ble_eq_true rfl)
  refine o_seq <| o_set <| Res.is_of h2 ?_
  obtain ⟨k3, t3, es3, h3, a3, l3, e3, r3⟩ := add_ex (env := [some d, some (.r k2)]) (d := d) rfl rfl e2 r2 [(xc.InvalidCommand, some "value"), (xc.ParseError, some "line"), (xc.TooMany, some "limit"), (xc.NothingToUndo, none), (xc.NothingToRedo, none)] (Nat.le_of_ble_eq_true rfl)
  exact o_ret <| Res.is_of h3 ⟨k3, es3, rfl, (a.trans a2).trans a3, Nat.le_trans (sub_len (a.trans a2)) l3, e3, r3⟩
theorem named_ok (xc : XC) (d : D) (s : Sto) : (m_law_named xc [d] s).Is (Made xc d s) := by
  unfold m_law_named defG
  refine exit_is ?_
  show (b_law_named xc [some d, none] s).Is _ _
  unfold b_law_named
  obtain ⟨k, t, es, h, a, l, e, r⟩ := new_ex (env := [some d, none]) (s := s) (d := d) rfl ((PS xc).take 3)
  refine o_seq <| o_set <| Res.is_of h ?_
  -- one more
  have ap : methM "list" appG (eVar 1) [exM xc.InvalidProgram "value" [eVar 0]] [some d, some (.r k)] t = .ok (.t .non) ((t ++ [exO d (xc.InvalidProgram, some "value")]).set k (.lst (es ++ [.r t.length]))) := by
    unfold methM
    rw [show eVar 1 [some d, some (.r k)] t = .ok (.r k) t from rfl]
    show (if tyOk "list" t (.r k) = true then _ else _) = _
    rw [show tyOk "list" t (.r k) = true by unfold tyOk; dsimp only; rw [it_ok e]; rfl, if_pos rfl]
    rw [show argsM [exM xc.InvalidProgram "value" [eVar 0]] [some d, some (.r k)] t = .ok [.r t.length] (t ++ [exO d (xc.InvalidProgram, some "value")]) from rfl]
    show optS (appG (.r k) [.r t.length] _) = _
    unfold appG
    dsimp only
    rw [sub_app _ _ e]
    dsimp only
    rw [if_pos (by rw [r.len]; show 3 < LIM; decide)]
    rfl
  refine o_seq <| o_drop <| Res.is_of ap ?_
  generalize hT : (t ++ [exO d (xc.InvalidProgram, some "value")]).set k (.lst (es ++ [.r t.length])) = T
  have kl := (List.getElem?_eq_some_iff.mp e).1
  have aT : Sub s T := by rw [← hT]; exact a.app.set l
  have eT : T[k]? = some (.lst (es ++ [.r t.length])) := by
    rw [← hT, List.getElem?_set_self (by rw [List.length_append]; omega)]
  have rT : Refs d T ((PS xc).take 4) (es ++ [.r t.length]) := by
    have r1 : Refs d (t ++ [exO d (xc.InvalidProgram, some "value")]) ((PS xc).take 3 ++ ([(xc.InvalidProgram, some "value")] : List PC)) (es ++ [.r t.length]) := (r.mono sub_app).app (qs := [(xc.InvalidProgram, some "value")]) ⟨⟨_, rfl, get_end⟩, trivial⟩
    rw [← hT]
    exact r1.set (sub_app _ _ e)
  obtain ⟨k2, t2, es2, h2, a2, l2, e2, r2⟩ := add_ex (env := [some d, some (.r k)]) (d := d) rfl rfl eT rT [(xc.InvalidState, some "value"), (xc.InvalidChoice, some "value"), (xc.InvalidEvent, some "value")] (Nat.le_of_ble_eq_true rfl)
  refine o_seq <| o_set <| Res.is_of h2 ?_
  obtain ⟨k3, t3, es3, h3, a3, l3, e3, r3⟩ := add_ex (env := [some d, some (.r k2)]) (d := d) rfl rfl e2 r2 [(xc.InvalidLimits, some "value"), (xc.InvalidLog, some "value"), (xc.InvalidCommand, some "value")] (Nat.le_of_ble_eq_true rfl)
  refine o_seq <| o_set <| Res.is_of h3 ?_
  obtain ⟨k4, t4, es4, h4, a4, l4, e4, r4⟩ := add_ex (env := [some d, some (.r k3)]) (d := d) rfl rfl e3 r3 [(xc.ParseError, some "line"), (xc.TooMany, some "limit"), (xc.NothingToUndo, none), (xc.NothingToRedo, none)] (Nat.le_of_ble_eq_true rfl)
  exact o_ret <| Res.is_of h4 ⟨k4, es4, rfl, ((aT.trans a2).trans a3).trans a4, Nat.le_trans (sub_len ((aT.trans a2).trans a3)) l4, e4, r4⟩
end K03
/-! k03M2 -/
namespace K03
open Mi PySem
/-! ### which kind an error is -/
def tb (P : Nat → Bool) : List Bool := (List.range 14).map P
theorem tb_get {P : Nat → Bool} {j : Nat} (h : j < 14) : (tb P)[j]? = some (P j) := by
  unfold tb
  rw [List.getElem?_map, List.getElem?_range h]; rfl
section
variable {xc : XC} {env : Mi.Env} {s : Sto} {i m j : Nat} {C B : Addr} {fs : List (Str × D)} {P : Nat → Bool} {n : String}
theorem isE (nd : (cs xc).Nodup) (hj : j < 14) (hv : env[i]? = some (some (.r m))) (hs : s[m]? = some (.exc C fs)) (hC : (cs xc)[j]? = some C) (P : Nat → Bool) :
    callB (isXE B ((cs xc).zip (tb P))) [eVar i, eC (.glb B)] env s = .ok (.t (.bl (P j))) s := by
  unfold callB
  rw [show argsM [eVar i, eC (.glb B)] env s = .ok [.r m, .t (.glb B)] s from args_two (var_ok hv) rfl]
  show optR (isXE B _ [.r m, .t (.glb B)] s) s = _
  unfold isXE
  dsimp only
  rw [hs]
  dsimp only
  rw [if_pos rfl, lk_zip nd hC (tb_get hj)]
  rfl
theorem isTy (nd : (cs xc).Nodup) (hj : j < 14) (hv : env[i]? = some (some (.r m))) (hs : s[m]? = some (.exc C fs)) (hC : (cs xc)[j]? = some C) (P : Nat → Bool) :
    callB (isXT n ((cs xc).zip (tb P))) [eVar i, eC (.ty n)] env s = .ok (.t (.bl (P j))) s := by
  unfold callB
  rw [show argsM [eVar i, eC (.ty n)] env s = .ok [.r m, .t (.ty n)] s from args_two (var_ok hv) rfl]
  show optR (isXT n _ [.r m, .t (.ty n)] s) s = _
  unfold isXT
  dsimp only
  rw [hs]
  dsimp only
  rw [if_pos rfl, lk_zip nd hC (tb_get hj)]
  rfl
end
def sg (j : Nat) : List D := (List.range 14).map fun i => .t (.bl (decide (j = i)))
theorem add_step {env : Mi.Env} {s T : Sto} {k : Nat} {xs ds : List D} {fs : List (Mi.Env → Sto → Res D)} (a : Sub s T) (h1 : env[1]? = some (some (.r k))) (e : T[k]? = some (.lst xs)) (ha : argsM fs env T = .ok ds T) (hl : xs.length + ds.length ≤ 1000) :
    ∃ k2 T2, binN addN (eVar 1) (newM fs) env T = .ok (.r k2) T2 ∧ Sub s T2 ∧ T2[k2]? = some (.lst (xs ++ ds)) :=
  ⟨_, _, add_ok (var_ok h1) (new_ok ha) (sub_app _ _ e) get_end (by unfold LIM; omega), a.app.app, get_end⟩
theorem add_isx {env : Mi.Env} {s T : Sto} {k : Nat} {xs ds : List D} {fs : List (Mi.Env → Sto → Res D)} {B : D → Sto → Prop} (a : Sub s T) (e : T[k]? = some (.lst xs)) (h1 : env[1]? = some (some (.r k))) (ha : argsM fs env T = .ok ds T) (hl : xs.length + ds.length ≤ 1000)
    (h : ∀ k2 T2, Sub s T2 → T2[k2]? = some (.lst (xs ++ ds)) → B (.r k2) T2) : (binN addN (eVar 1) (newM fs) env T).Is B := by
  obtain ⟨k2, T2, q, a2, e2⟩ := add_step a h1 e ha hl
  exact Res.is_of q (h k2 T2 a2 e2)
theorem signs_ok {xc : XC} {s : Sto} {m j : Nat} {C : Addr} {fs : List (Str × D)} (nd : (cs xc).Nodup) (hj : j < 14) (hs : s[m]? = some (.exc C fs)) (hC : (cs xc)[j]? = some C) :
    (m_law_signs xc [.r m] s).Is fun r t => ∃ k, r = .r k ∧ Sub s t ∧ t[k]? = some (.lst (sg j)) := by
  unfold m_law_signs defG
  refine exit_is ?_
  show (b_law_signs xc [some (.r m), none] s).Is _ _
  unfold b_law_signs
  have I : ∀ (i : Nat) (B : Addr) (env : Mi.Env) (t : Sto), env[0]? = some (some (.r m)) → Sub s t → callB (isXE B ((cs xc).zip (tb fun k => decide (k = i)))) [eVar 0, eC (.glb B)] env t = .ok (.t (.bl (decide (j = i)))) t :=
    fun i B env t hv a => isE nd hj hv (a _ _ hs) hC _
  refine o_seq <| o_set <| Res.is_of (new_ok (args_cons (I 0 _ _ _ rfl .refl) (args_cons (I 1 _ _ _ rfl .refl) (args_cons (I 2 _ _ _ rfl .refl) rfl)))) ?_
  refine o_seq <| o_set <| add_isx (s := s) sub_app get_end rfl (args_cons (I 3 _ _ _ rfl sub_app) (args_cons (I 4 _ _ _ rfl sub_app) (args_cons (I 5 _ _ _ rfl sub_app) rfl))) (by exact Nat.le_of_ble_eq_true rfl) fun k1 T1 a1 e1 => ?_
  refine o_seq <| o_set <| add_isx a1 e1 rfl (args_cons (I 6 _ _ _ rfl a1) (args_cons (I 7 _ _ _ rfl a1) (args_cons (I 8 _ _ _ rfl a1) rfl))) (by exact Nat.le_of_ble_eq_true rfl) fun k2 T2 a2 e2 => ?_
  refine o_seq <| o_set <| add_isx a2 e2 rfl (args_cons (I 9 _ _ _ rfl a2) (args_cons (I 10 _ _ _ rfl a2) (args_cons (I 11 _ _ _ rfl a2) rfl))) (by exact Nat.le_of_ble_eq_true rfl) fun k3 T3 a3 e3 => ?_
  exact o_ret <| add_isx a3 e3 rfl (args_cons (I 12 _ _ _ rfl a3) (args_cons (I 13 _ _ _ rfl a3) rfl)) (by exact Nat.le_of_ble_eq_true rfl) fun k4 T4 a4 e4 => ⟨k4, rfl, a4, e4⟩
/-! ### != of lists that are the same -/
theorem shp {p : PyData} (c : p.canLay0 = true) (d : p.depth ≤ 60) : SeqAt.shaped p = true := by
  unfold SeqAt.shaped
  rw [Bool.and_eq_true, decide_eq_true_eq]
  exact ⟨c, by omega⟩
theorem pyX_D {n : Nat} {s : Sto} {d : D} {p : PyData} (h : pyD s d = some p) : pyX (n + 1) s d = some p := by
  unfold pyX; rw [h]
theorem neX_r {k : Nat} {e : D} {s : Sto} {p : PyData} (h1 : pyX 3 s (.r k) = some p) (h2 : pyX 3 s e = some p) (c : p.canLay0 = true) (dd : p.depth ≤ 60) : neXM (.r k) e s = some (.t (.bl false)) := by
  have key : eqX (.r k) e s = some true := by
    have sh := shp c dd
    have eB : eqB (.r k) e s = (pyD s (.r k)).bind fun p => (pyD s e).bind fun q => if (SeqAt.shaped p && SeqAt.shaped q) = true then some (PyData.eqv p q) else none := by
      unfold eqB; rfl
    unfold eqX
    cases q1 : pyD s (.r k) with
    | none =>
      rw [eB, q1]
      show ((pyX 3 s (.r k)).bind fun p => (pyX 3 s e).bind fun q => if (SeqAt.shaped p && SeqAt.shaped q) = true then some (PyData.eqv p q) else none) = _
      rw [h1, h2]
      show (if (SeqAt.shaped p && SeqAt.shaped p) = true then some (PyData.eqv p p) else none) = _
      rw [sh, SeqAt.eqv_refl p c]; rfl
    | some p1 =>
      have e1 : p1 = p := by
        have := pyX_D (n := 2) q1
        rw [h1] at this
        exact  (Option.some.inj this).symm
      subst e1
      cases q2 : pyD s e with
      | none =>
        rw [eB, q1, q2]
        show ((pyX 3 s (.r k)).bind fun p => (pyX 3 s e).bind fun q => if (SeqAt.shaped p && SeqAt.shaped q) = true then some (PyData.eqv p q) else none) = _
        rw [h1, h2]
        show (if (SeqAt.shaped p1 && SeqAt.shaped p1) = true then some (PyData.eqv p1 p1) else none) = _
        rw [sh, SeqAt.eqv_refl p1 c]; rfl
      | some p2 =>
        have e2 : p2 = p1 := by
          have := pyX_D (n := 2) q2
          rw [h2] at this
          exact  (Option.some.inj this).symm
        subst e2
        rw [eB, q1, q2]
        have z : (if (SeqAt.shaped p2 && SeqAt.shaped p2) = true then some (PyData.eqv p2 p2) else none) = some true := by
          rw [sh, SeqAt.eqv_refl p2 c]; rfl
        show (match (if (SeqAt.shaped p2 && SeqAt.shaped p2) = true then some (PyData.eqv p2 p2) else none : Option Bool) with
          | some b => some b
          | none => _) = _
        rw [z]
  unfold neXM
  rw [key]; rfl
def sgT (j : Nat) : List T := (List.range 14).map fun p => .bl (decide ((0 : Int) + (p : Nat) = (j : Nat)))
theorem sgT_eq (j : Nat) : sgT j = (List.range 14).map fun i => .bl (decide (j = i)) := by
  unfold sgT
  refine  List.map_congr_left fun p _ => ?_
  rw [decide_eq_decide.mpr (show ((0 : Int) + (p : Nat) = (j : Nat)) ↔ (j = p) by omega)]
theorem ne_sg {j k : Nat} {s : Sto} (h : s[k]? = some (.lst (sg j))) : neXM (.r k) (.t (.lst (sgT j))) s = some (.t (.bl false)) := by
  have h1 : pyX 3 s (.r k) = some (.list ((List.range 14).map fun i => .bool (decide (j = i)))) := by
    refine pyX_D ?_
    show ((items s (.r k)).bind fun ds => (plains ds).bind fun ts => (pyTs ts).map PyData.list) = _
    rw [it_ok h]
    rfl
  have h2 : pyX 3 s (.t (.lst (sgT j))) = some (.list ((List.range 14).map fun i => .bool (decide (j = i)))) := by
    refine pyX_D ?_
    rw [sgT_eq]
    rfl
  exact neX_r h1 h2 rfl (by exact Nat.le_of_ble_eq_true rfl)
end K03
/-! k03M3 -/
namespace K03
open Mi PySem
/-! ### the loop over the errors -/
section
variable {xc : XC} {env : Mi.Env} {s : Sto} {N : Mi.Env → Sto → Prop} {B : D → Sto → Prop}
theorem o_pass {c : Mi.Env → Sto → Res Bool} {a : Mi.Env → Sto → Out} (h : (c env s).Is fun k t => k = false ∧ N env t) : (ifM c a nxM env s).Is N B :=
  o_if (h.imp fun k s ⟨z, q⟩ => by rw [z, if_neg (by decide)]; exact o_nx q)
theorem or_f {ga gb : Mi.Env → Sto → Res Bool} (h : ga env s = .ok false s) (h2 : gb env s = .ok false s) : Mi.orM ga gb env s = .ok false s := by
  unfold Mi.orM
  rw [h]
  exact h2
theorem bl_f {f : Mi.Env → Sto → Res D} {t : Sto} (h : f env s = .ok (.t (.bl false)) t) : blOf (f env s) = .ok false t := by rw [h]; rfl
theorem bin_ok {op : D → D → Sto → Option D} {f g : Mi.Env → Sto → Res D} {x y z : D} {s1 s2 : Sto} (h : f env s = .ok x s1) (h2 : g env s1 = .ok y s2) (h3 : op x y s2 = some z) : bin op f g env s = .ok z s2 := by
  unfold bin
  rw [h]
  show (g env s1).bind _ = _
  rw [h2]
  show optR (op x y s2) s2 = _
  rw [h3]; rfl
abbrev L7 (a b c d e f g : Option D) : Mi.Env := [a, b, c, d, e, f, g]
theorem o_forEI {k : Nat} {es : List D} {a b c d g : Option D} {body : Mi.Env → Sto → Out} (hk : s[k]? = some (.lst es))
    (hb : ∀ (i : Nat) (e : D) (t : Sto), Sub s t → es[i]? = some e → (body (L7 a b c d (some (.t (.int (i : Nat)))) (some e) g) t).Is (fun e2 t2 => e2 = L7 a b c d (some (.t (.int (i : Nat)))) (some e) g ∧ Sub t t2) B)
    (hN : ∀ x y t, Sub s t → N (L7 a b c d x y g) t) : ∀ (m i : Nat) (x y : Option D) (t : Sto), es.length ≤ m + i → i ≤ es.length → Sub s t → (forEI 4 5 body (.r k) m i (L7 a b c d x y g) t).Is N B
  | m, i, x, y, t, hm, hi, ht => by
    have q : nthE (.r k) t i = some es[i]? := by
      unfold nthE
      rw [it_ok (ht _ _ hk)]; rfl
    cases z : es[i]? with
    | none =>
      rw [z] at q
      have w : forEI 4 5 body (.r k) m i (L7 a b c d x y g) t = .nx (L7 a b c d x y g) t := by cases m <;> (unfold forEI; rw [q])
      rw [w]
      exact hN x y t ht
    | some e =>
      rw [z] at q
      have lt : i < es.length := (List.getElem?_eq_some_iff.mp z).1
      cases m with
      | zero => omega
      | succ m =>
        have w := hb i e t ht z
        unfold forEI
        rw [q]
        dsimp only
        show Out.Is (match body (L7 a b c d (some (.t (.int (i : Nat)))) (some e) g) t with
          | .nx e s => forEI 4 5 body (.r k) m (i + 1) e s
          | .ct e s => forEI 4 5 body (.r k) m (i + 1) e s
          | .bk e s => .nx e s
          | .rt d s => .rt d s
          | .exc C fs e s => .exc C fs e s
          | .bad => .bad) N B
        cases r : body (L7 a b c d (some (.t (.int (i : Nat)))) (some e) g) t with
        | nx e2 t2 =>
          rw [r] at w
          obtain ⟨rfl, w2⟩ := w
          exact o_forEI hk hb hN m (i + 1) _ _ t2 (by omega) lt (ht.trans w2)
        | rt d s2 => rw [r] at w; exact w
        | bk _ _ => rw [r] at w; exact w.elim
        | ct _ _ => rw [r] at w; exact w.elim
        | exc _ _ _ _ => rw [r] at w; exact w.elim
        | bad => rw [r] at w; exact w.elim
theorem o_forE {k : Nat} {es : List D} {a b d x y g : Option D} {body : Mi.Env → Sto → Out} (hk : s[k]? = some (.lst es))
    (hb : ∀ (i : Nat) (e : D) (t : Sto), Sub s t → es[i]? = some e → (body (L7 a b (some (.r k)) d (some (.t (.int (i : Nat)))) (some e) g) t).Is (fun e2 t2 => e2 = L7 a b (some (.r k)) d (some (.t (.int (i : Nat)))) (some e) g ∧ Sub t t2) B)
    (hN : ∀ x y t, Sub s t → N (L7 a b (some (.r k)) d x y g) t) : (forE 4 5 (eVar 2) body (L7 a b (some (.r k)) d x y g) s).Is N B := by
  unfold forE
  rw [show eVar 2 (L7 a b (some (.r k)) d x y g) s = .ok (.r k) s from rfl]
  show Out.Is (match lsq s (.r k) with
    | some ds => forEI 4 5 body (.r k) ds.length 0 (L7 a b (some (.r k)) d x y g) s
    | none => .bad) N B
  rw [show lsq s (.r k) = some es from it_ok hk]
  exact o_forEI hk hb hN _ 0 x y s (by omega) (Nat.zero_le _) .refl
theorem range_ok {a b c d f : Option D} {j : Nat} {x : Option D} : c_law_1 xc (L7 a b c d (some (.t (.int (j : Nat)))) f x) s = .ok (.t (.lst (sgT j))) s := rfl
theorem call_ok {F : List D → Sto → Res D} {i : Nat} {d r : D} {t : Sto} (hv : env[i]? = some (some d)) (h : F [d] s = .ok r t) : callG F [eVar i] env s = .ok r t := by
  unfold callG
  rw [show argsM [eVar i] env s = .ok [d] s from args_cons (var_ok hv) rfl]
  exact h
theorem ne_bl {a b : Bool} (h : a = b) (s : Sto) : neM (.t (.bl a)) (.t (.bl b)) s = some (.t (.bl false)) := by
  subst h
  show some (bD (!decide (a = a))) = _
  rw [decide_eq_true rfl]; rfl
theorem loop_ok (nd : (cs xc).Nodup) {k : Nat} {es : List D} {dv : D} {a b d x y g : Option D} (hk : s[k]? = some (.lst es)) (hr : Refs dv s (PS xc) es)
    (hN : ∀ x y t, Sub s t → N (L7 a b (some (.r k)) d x y g) t) : (l_law_2 xc (L7 a b (some (.r k)) d x y g) s).Is N B := by
  unfold l_law_2
  refine o_forE hk (fun j e t ht he => ?_) hN
  obtain ⟨p, m, hp, rfl, hm⟩ := (hr.mono ht).get he
  have hj : j < 14 := (List.getElem?_eq_some_iff.mp hp).1
  have hC : (cs xc)[j]? = some p.1 := by
    show ((PS xc).map (·.1))[j]? = _
    rw [List.getElem?_map, hp]; rfl
  unfold exO at hm
  obtain ⟨r, t2, h2, k2, rfl, a2, e2⟩ := (signs_ok nd hj hm hC).get
  refine o_seq <| o_pass <| Res.is_of (bl_f (bin_ok (call_ok rfl h2) range_ok (ne_sg e2))) ⟨rfl, ?_⟩
  have hm2 := a2 _ _ hm
  have I : ∀ (B : Addr) (P : Nat → Bool), callB (isXE B ((cs xc).zip (tb P))) [eVar 5, eC (.glb B)] (L7 a b (some (.r k)) d (some (.t (.int (j : Nat)))) (some (.r m)) g) t2 = .ok (.t (.bl (P j))) t2 := fun B P => isE nd hj rfl hm2 hC P
  have J : ∀ (n : String) (P : Nat → Bool), callB (isXT n ((cs xc).zip (tb P))) [eVar 5, eC (.ty n)] (L7 a b (some (.r k)) d (some (.t (.int (j : Nat)))) (some (.r m)) g) t2 = .ok (.t (.bl (P j))) t2 := fun n P => isTy nd hj rfl hm2 hC P
  have hlt : ltM (.t (.int (j : Nat))) (.t (.int 11)) t2 = some (.t (.bl (decide ((j : Int) < 11)))) := rfl
  have heq : eqM (.t (.int (j : Nat))) (.t (.int 11)) t2 = some (.t (.bl (decide ((j : Int) = 11)))) := rfl
  have hgt : gtM (.t (.int (j : Nat))) (.t (.int 11)) t2 = some (.t (.bl (decide ((11 : Int) < j)))) := rfl
  refine o_seq <| o_pass <| Res.is_of (or_f (bl_f (bin_ok (I xc.RunError fun k => decide (k < 11)) (bin_ok rfl rfl hlt) (ne_bl (decide_eq_decide.mpr (by omega)) _)))
    (bl_f (bin_ok (J "ValueError" fun k => decide (k < 11)) (bin_ok rfl rfl hlt) (ne_bl (decide_eq_decide.mpr (by omega)) _)))) ⟨rfl, ?_⟩
  exact o_pass <| Res.is_of (or_f (bl_f (bin_ok (J "OverflowError" fun k => decide (k = 11)) (bin_ok rfl rfl heq) (ne_bl (decide_eq_decide.mpr (by omega)) _)))
    (bl_f (bin_ok (J "LookupError" fun k => decide (11 < k)) (bin_ok rfl rfl hgt) (ne_bl (decide_eq_decide.mpr (by omega)) _)))) ⟨rfl, rfl, a2⟩
end
end K03
/-! k03M4 -/
namespace K03
open Mi PySem
/-! ### the fields -/
theorem atI_nat {α : Type} (xs : List α) (k : Nat) : L2.atI xs (k : Int) = xs[k]? := by
  unfold L2.atI L2.ixN
  rw [if_pos (by omega)]
  by_cases h : (k : Int) < xs.length
  · rw [if_pos h]
    show xs[(k : Int).toNat]? = _
    rw [Int.toNat_natCast]
  · rw [if_neg h]
    exact (List.getElem?_eq_none (by omega)).symm
section
variable {xc : XC} {env : Mi.Env} {s : Sto} {N : Mi.Env → Sto → Prop} {B : D → Sto → Prop}
theorem ix_ok {k j : Nat} {es : List D} {e : D} (h : s[k]? = some (.lst es)) (he : es[j]? = some e) : ixM (.r k) (.t (.int (j : Nat))) s = some e := by
  show (items s (.r k)).bind (fun ds => L2.atI ds (j : Nat)) = _
  rw [it_ok h]
  show L2.atI es (j : Nat) = _
  rw [atI_nat, he]
theorem xg_ok {cl : Addr → Bool} {n : Str} {f : Mi.Env → Sto → Res D} {m : Nat} {C : Addr} {d : D} (h : f env s = .ok (.r m) s) (hm : s[m]? = some (.exc C [(n, d)])) (hc : cl C = true) : xgM cl n f env s = .ok d s := by
  unfold xgM
  rw [h]
  show (match (D.r m) with
    | .r m => match s[m]? with
      | some (.exc C fs) => if cl C = true then optR (fs.lookup n) s else .bad
      | _ => .bad
    | _ => .bad) = _
  dsimp only
  rw [hm]
  dsimp only
  rw [if_pos hc]
  simp [List.lookup, optR]
theorem lcI_const {fe : Mi.Env → Sto → Res D} {it : ItM} {env0 : Mi.Env} {ds : List D} {z : D} (hn : ∀ i : Nat, it.nth s i = some ds[i]?) (hf : ∀ (i : Nat) (e : D), ds[i]? = some e → fe (env0.set 5 (some e)) s = .ok z s) (hl : ds.length ≤ 1000) :
    ∀ (m i : Nat), ds.length ≤ m + i → i ≤ ds.length → lcI (gN 5) yesM fe it env0 m i s (List.replicate i z) = some (List.replicate ds.length z, s)
  | m, i, hm, hi => by
    have q := hn i
    cases c : ds[i]? with
    | none =>
      have zz : i = ds.length := Nat.le_antisymm hi (List.getElem?_eq_none_iff.mp c)
      rw [c] at q
      rw [show lcI (gN 5) yesM fe it env0 m i s (List.replicate i z) = some (List.replicate i z, s) by cases m <;> (unfold lcI; rw [q]), zz]
    | some e =>
      rw [c] at q
      have lt : i < ds.length := (List.getElem?_eq_some_iff.mp c).1
      cases m with
      | zero => omega
      | succ m =>
        have w := hf i e c
        have r : List.replicate i z ++ [z] = List.replicate (i + 1) z := (List.replicate_succ' (n := i) (a := z)).symm
        unfold lcI
        rw [q]
        dsimp only
        show (match fe (env0.set 5 (some e)) s with
          | .ok z2 st2 => if (List.replicate i z).length < LIM then lcI (gN 5) yesM fe it env0 m (i + 1) st2 (List.replicate i z ++ [z2]) else none
          | _ => none) = _
        rw [w]
        dsimp only
        rw [if_pos (by rw [List.length_replicate]; unfold LIM; omega), r]
        exact lcI_const hn hf hl m (i + 1) (by omega) lt
theorem cut10 {es : List D} (h : es.length = 14) : cutG es none (some 10) = es.take 10 := by
  unfold cutG
  rw [h]
  rfl
theorem ps10 {i : Nat} {p : PC} (hi : i < 10) (h : (PS xc)[i]? = some p) : ∃ C : Addr, p = ((C, some "value") : PC) ∧ csL [xc.InvalidName, xc.InvalidNumber, xc.InvalidBody, xc.InvalidProgram, xc.InvalidState, xc.InvalidChoice, xc.InvalidEvent, xc.InvalidLimits, xc.InvalidLog, xc.InvalidCommand] C = true := by
  have : i = 0 ∨ i = 1 ∨ i = 2 ∨ i = 3 ∨ i = 4 ∨ i = 5 ∨ i = 6 ∨ i = 7 ∨ i = 8 ∨ i = 9 := by omega
  rcases this with rfl | rfl | rfl | rfl | rfl | rfl | rfl | rfl | rfl | rfl <;> (cases h; exact ⟨_, rfl, by simp [csL]⟩)
theorem comp_ok {k : Nat} {es : List D} {dv : D} {a b d x y g : Option D} (hk : s[k]? = some (.lst es)) (hr : Refs dv s (PS xc) es) :
    ∃ k2 t, c_law_3 xc (L7 a b (some (.r k)) d x y g) s = .ok (.r k2) t ∧ Sub s t ∧ t[k2]? = some (.lst (List.replicate 10 dv)) := by
  have le : es.length = 14 := hr.len
  have l10 : (es.take 10).length = 10 := by rw [List.length_take, le]; rfl
  have sl : sliceN (eVar 2) oNone (oSome (eC (.int 10))) (L7 a b (some (.r k)) d x y g) s = .ok (.r s.length) (s ++ [.lst (es.take 10)]) := by
    unfold sliceN
    rw [show eVar 2 (L7 a b (some (.r k)) d x y g) s = .ok (.r k) s from rfl]
    show optS (slN (.r k) none (some 10) s) = _
    unfold slN
    rw [show lsq s (.r k) = some es from it_ok hk]
    show Res.ok (D.r s.length) (s ++ [.lst (cutG es none (some 10))]) = _
    rw [cut10 le]
  have it : anyOf (sliceN (eVar 2) oNone (oSome (eC (.int 10)))) (L7 a b (some (.r k)) d x y g) s = .ok (seqIt (.r s.length) 10) (s ++ [.lst (es.take 10)]) := by
    unfold anyOf
    rw [sl]
    show optR ((lsq (s ++ [.lst (es.take 10)]) (.r s.length)).map fun ds => seqIt (.r s.length) ds.length) _ = _
    rw [show lsq (s ++ [.lst (es.take 10)]) (.r s.length) = some (es.take 10) from it_ok get_end]
    show Res.ok (seqIt (.r s.length) (es.take 10).length) _ = _
    rw [l10]
  have z := lcI_const (s := s ++ [.lst (es.take 10)]) (it := seqIt (.r s.length) 10) (env0 := L7 a b (some (.r k)) d x none g) (ds := es.take 10) (z := dv)
    (fe := xgM (csL [xc.InvalidName, xc.InvalidNumber, xc.InvalidBody, xc.InvalidProgram, xc.InvalidState, xc.InvalidChoice, xc.InvalidEvent, xc.InvalidLimits, xc.InvalidLog, xc.InvalidCommand]) "value" (eVar 5))
    (fun i => by
      show (items _ (.r s.length)).map (fun ds => ds[i]?) = _
      rw [it_ok get_end]; rfl)
    (fun i e he => by
      have hi : i < 10 := by rw [← l10]; exact (List.getElem?_eq_some_iff.mp he).1
      have he2 : es[i]? = some e := by rw [List.getElem?_take_of_lt hi] at he; exact he
      obtain ⟨p, m, hp, rfl, hm⟩ := (hr.mono sub_app).get he2
      obtain ⟨C, rfl, hc⟩ := ps10 hi hp
      exact xg_ok (m := m) (C := C) rfl hm hc) (by omega) 10 0 (by omega) (Nat.zero_le _)
  refine ⟨(s ++ [SO.lst (es.take 10)]).length, s ++ [SO.lst (es.take 10)] ++ [SO.lst (List.replicate 10 dv)], ?_, sub_app.app, get_end⟩
  unfold c_law_3 lcN
  rw [it]
  show (match lcI _ _ _ (seqIt (.r s.length) 10) (L7 a b (some (.r k)) d x none g) 10 0 (s ++ [.lst (es.take 10)]) (List.replicate 0 dv) with
    | some (acc, s2) => Res.ok (D.r s2.length) (s2 ++ [SO.lst acc])
    | none => .bad) = _
  rw [z, l10]
theorem fields_ok {k : Nat} {es : List D} {dv : D} {a b d x y g : Option D} (hk : s[k]? = some (.lst es)) (hr : Refs dv s (PS xc) es) :
    ∃ k2 t, binN addN (c_law_3 xc) (newM [xgM (csL [xc.ParseError]) "line" (bin ixM (eVar 2) (eC (.int 10))), xgM (csL [xc.TooMany]) "limit" (bin ixM (eVar 2) (eC (.int 11)))]) (L7 a b (some (.r k)) d x y g) s = .ok (.r k2) t ∧ Sub s t ∧ s.length ≤ k2 ∧ t[k2]? = some (.lst (List.replicate 12 dv)) := by
  obtain ⟨k1, t1, h1, a1, e1⟩ := comp_ok (a := a) (b := b) (d := d) (x := x) (y := y) (g := g) hk hr
  have hr1 := hr.mono a1
  have hk1 := a1 _ _ hk
  have l : es.length = 14 := hr.len
  obtain ⟨p10, m10, hp10, q10, hm10⟩ := hr1.get (show es[10]? = some (es[10]'(by omega)) from List.getElem?_eq_getElem (by omega))
  obtain ⟨p11, m11, hp11, q11, hm11⟩ := hr1.get (show es[11]? = some (es[11]'(by omega)) from List.getElem?_eq_getElem (by omega))
  cases hp10
  cases hp11
  have i10 : es[10]? = some (.r m10) := by rw [List.getElem?_eq_getElem (by omega), q10]
  have i11 : es[11]? = some (.r m11) := by rw [List.getElem?_eq_getElem (by omega), q11]
  have f10 : xgM (csL [xc.ParseError]) "line" (bin ixM (eVar 2) (eC (.int 10))) (L7 a b (some (.r k)) d x y g) t1 = .ok dv t1 := xg_ok (bin_ok rfl rfl (ix_ok (j := 10) hk1 i10)) hm10 (by simp [csL])
  have f11 : xgM (csL [xc.TooMany]) "limit" (bin ixM (eVar 2) (eC (.int 11))) (L7 a b (some (.r k)) d x y g) t1 = .ok dv t1 := xg_ok (bin_ok rfl rfl (ix_ok (j := 11) hk1 i11)) hm11 (by simp [csL])
  exact ⟨_, _, add_ok h1 (new_ok (args_two f10 f11)) (sub_app _ _ e1) get_end (show (List.replicate 10 dv).length + 2 ≤ LIM by rw [List.length_replicate]; decide), a1.app.app, sub_len a1.app, get_end⟩
theorem mul_ok {d : D} {i : Nat} (hv : env[i]? = some (some d)) : ∃ k t, binN mulN (newM [eVar i]) (eC (.int 12)) env s = .ok (.r k) t ∧ Sub s t ∧ t[k]? = some (.lst (List.replicate 12 d)) := by
  refine ⟨(s ++ [SO.lst [d]]).length, s ++ [SO.lst [d]] ++ [SO.lst (List.replicate 12 d)], ?_, sub_app.app, get_end⟩
  unfold binN
  rw [new_ok (args_cons (var_ok hv) rfl)]
  show optS (mulN (.r s.length) (.t (.int 12)) (s ++ [.lst [d]])) = _
  unfold mulN
  dsimp only
  rw [lit_ok get_end]
  rfl
/-- what a value is behind a turn: n tells how often the list has grown -/
def lsN : Nat → List D
  | 0 => [.t (.str "list")]
  | n + 1 => lsN n ++ [.t (.int ((n + 1 : Nat) : Int))]
theorem lsN_len : ∀ n, (lsN n).length = n + 1
  | 0 => rfl
  | n + 1 => by
    show (lsN n ++ [_]).length = _
    rw [List.length_append, lsN_len n]; rfl
/-- a value, the list before and behind -/
structure Val (d : D) (n n' : Nat) : Prop where
  mid : ∀ (env : Mi.Env) (s : Sto) (N : Mi.Env → Sto → Prop) (B : D → Sto → Prop), env[1]? = some (some d) → s[0]? = some (.lst (lsN n)) → (∀ t, Sub0 s t → t[0]? = some (.lst (lsN n')) → N env t) →
    (ifM (truM (callB isiB [eVar 1, eC (.ty "list")])) (dropM (methM "list" appG (eVar 1) [callB lenB [eVar 1]])) nxM env s).Is N B
  py : ∃ p : PyData, p.canLay0 = true ∧ p.depth ≤ 60 ∧ ∀ (s : Sto) (k : Nat), s[0]? = some (.lst (lsN n')) → s[k]? = some (.lst (List.replicate 12 d)) → pyX 3 s (.r k) = some p
theorem turn_ok (nd : (cs xc).Nodup) {k : Nat} {es : List D} {dv : D} {a x2 x y z g : Option D} {n n' : Nat} (V : Val dv n n') (h0 : s[0]? = some (.lst (lsN n))) (hk : s[k]? = some (.lst es)) (hr : Refs dv s (PS xc) es)
    (hN : ∀ z x y t, Sub0 s t → t[0]? = some (.lst (lsN n')) → N (L7 a (some dv) (some (.r k)) z x y g) t) :
    (seqM (l_law_2 xc)
    (seqM (setM 3 (binN addN (c_law_3 xc) (newM [xgM (csL [xc.ParseError]) "line" (bin ixM (eVar 2) (eC (.int 10))), xgM (csL [xc.TooMany]) "limit" (bin ixM (eVar 2) (eC (.int 11)))])))
    (seqM (ifM (truM (callB isiB [eVar 1, eC (.ty "list")])) (dropM (methM "list" appG (eVar 1) [callB lenB [eVar 1]])) (nxM))
    (ifM (fun env st => blOf (bin neXM (eVar 3) (binN mulN (newM [eVar 1]) (eC (.int 12))) env st)) (retM (eC (.bl false))) (nxM)))) (L7 a (some dv) (some (.r k)) z x y g) s).Is N B := by
  refine o_seq <| loop_ok nd hk hr fun x y t ht => ?_
  obtain ⟨k2, t2, h2, a2, l2, e2⟩ := fields_ok (a := a) (b := some dv) (d := z) (x := x) (y := y) (g := g) (ht _ _ hk) (hr.mono ht)
  refine o_seq <| o_set <| Res.is_of h2 ?_
  have pos : 0 < s.length := (List.getElem?_eq_some_iff.mp h0).1
  have ne2 : k2 ≠ 0 := by have := sub_len ht; omega
  refine o_seq <| V.mid (L7 a (some dv) (some (.r k)) (some (.r k2)) x y g) t2 _ _ rfl ((ht.trans a2) _ _ h0) fun t3 a3 z3 => ?_
  have e3 := a3 _ _ ne2 e2
  obtain ⟨k4, t4, h4, a4, e4⟩ := mul_ok (env := L7 a (some dv) (some (.r k)) (some (.r k2)) x y g) (s := t3) (d := dv) (i := 1) rfl
  obtain ⟨p, c, dd, hp⟩ := V.py
  have z4 := a4 _ _ z3
  refine o_pass <| Res.is_of (bl_f (bin_ok rfl h4 (neX_r (hp t4 k2 z4 (a4 _ _ e3)) (hp t4 k4 z4 e4) c dd))) ⟨rfl, ?_⟩
  exact hN _ _ _ _ (((ht.trans a2).z.trans a3).trans a4.z) z4
end
end K03
/-! k03M5 -/
namespace K03
open Mi PySem
/-! ### the six values -/
section
variable {s : Sto}
theorem py_rep {s : Sto} {k : Nat} {t : T} {p : PyData} (ht : pyT t = some p) (h : s[k]? = some (.lst (List.replicate 12 (.t t)))) : pyX 3 s (.r k) = some (.list (List.replicate 12 p)) := by
  refine pyX_D ?_
  show ((items s (.r k)).bind fun ds => (plains ds).bind fun ts => (pyTs ts).map PyData.list) = _
  rw [it_ok h]
  show (pyTs (List.replicate 12 t)).map PyData.list = _
  have q : ∀ n, pyTs (List.replicate n t) = some (List.replicate n p) := by
    intro n
    induction n with
    | zero => rfl
    | succ n ih =>
      show ((pyT t).bind fun p => (pyTs (List.replicate n t)).map (p :: ·)) = _
      rw [ht, ih]; rfl
  rw [q]; rfl
theorem val_t {t : T} {n : Nat} (p : PyData) (ht : pyT t = some p) (hc : (PyData.list (List.replicate 12 p)).canLay0 = true) (hd : (PyData.list (List.replicate 12 p)).depth ≤ 60)
    (hi : ∀ s, isiB [.t t, .t (.ty "list")] s = some (.t (.bl false))) : Val (.t t) n n where
  mid env s N B hv h0 hN := by
    refine o_pass (Res.is_of (a := false) (s := s) ?_ ⟨rfl, hN s .refl h0⟩)
    unfold truM
    rw [show callB isiB [eVar 1, eC (.ty "list")] env s = .ok (.t (.bl false)) s by
      unfold callB
      rw [show argsM [eVar 1, eC (.ty "list")] env s = .ok [.t t, .t (.ty "list")] s from args_two (var_ok hv) rfl]
      show optR (isiB [.t t, .t (.ty "list")] s) s = _
      rw [hi]; rfl]
    rfl
  py := ⟨_, hc, hd, fun s k _ h => py_rep ht h⟩
theorem py_ls {k : Nat} (h : s[0]? = some (.lst (lsN k))) (p : PyData) (hp : ((plains (lsN k)).bind fun ts => (pyTs ts).map PyData.list) = some p) : pyX 2 s (.r 0) = some p := by
  refine pyX_D ?_
  show ((items s (.r 0)).bind fun ds => (plains ds).bind fun ts => (pyTs ts).map PyData.list) = _
  rw [it_ok h]
  exact hp
theorem py_repR {k n : Nat} (h0 : s[0]? = some (.lst (lsN n))) (p : PyData) (hp : ((plains (lsN n)).bind fun ts => (pyTs ts).map PyData.list) = some p) (h : s[k]? = some (.lst (List.replicate 12 (.r 0)))) : pyX 3 s (.r k) = some (.list (List.replicate 12 p)) := by
  have e1 : pyD s (.r k) = none := by
    show ((items s (.r k)).bind fun ds => (plains ds).bind fun ts => (pyTs ts).map PyData.list) = _
    rw [it_ok h]; rfl
  have e2 := py_ls h0 p hp
  unfold pyX
  rw [e1]
  show ((items s (.r k)).bind fun ds => (ds.mapM (pyX 2 s)).map PyData.list) = _
  rw [it_ok h]
  show (([.r 0, .r 0, .r 0, .r 0, .r 0, .r 0, .r 0, .r 0, .r 0, .r 0, .r 0, .r 0] : List D).mapM (pyX 2 s)).map PyData.list = _
  simp only [List.mapM_cons, List.mapM_nil, e2]
  rfl
theorem val_r {n : Nat} (hn : n ≤ 1) : Val (.r 0) n (n + 1) where
  mid env s N B hv h0 hN := by
    have pos : 0 < s.length := (List.getElem?_eq_some_iff.mp h0).1
    refine o_if (Res.is_of (a := true) (s := s) ?_ ?_)
    · unfold truM
      rw [show callB isiB [eVar 1, eC (.ty "list")] env s = .ok (.t (.bl true)) s by
        unfold callB
        rw [show argsM [eVar 1, eC (.ty "list")] env s = .ok [.r 0, .t (.ty "list")] s from args_two (var_ok hv) rfl]
        show optR ((tyName s (.r 0)).bind fun z => (isaB z "list").map bD) s = _
        rw [show tyName s (.r 0) = some "list" by unfold tyName; dsimp only; rw [h0]]
        rfl]
      rfl
    · rw [if_pos rfl]
      refine o_drop (Res.is_of (a := .t .non) (s := s.set 0 (.lst (lsN (n + 1)))) ?_ (hN _ (fun m o ne q => by rw [List.getElem?_set_ne (Ne.symm ne)]; exact q) (List.getElem?_set_self pos)))
      unfold methM
      rw [var_ok hv]
      show (if tyOk "list" s (.r 0) = true then _ else _) = _
      rw [show tyOk "list" s (.r 0) = true by unfold tyOk; dsimp only; rw [it_ok h0]; rfl, if_pos rfl]
      rw [show argsM [callB lenB [eVar 1]] env s = .ok [.t (.int ((n + 1 : Nat) : Int))] s from args_cons (by
        unfold callB
        rw [show argsM [eVar 1] env s = .ok [.r 0] s from args_cons (var_ok hv) rfl]
        show optR ((items s (.r 0)).map fun is => iD is.length) s = _
        rw [it_ok h0]
        show Res.ok (iD (lsN n).length) s = _
        rw [lsN_len]; rfl) rfl]
      show optS (appG (.r 0) [.t (.int ((n + 1 : Nat) : Int))] s) = _
      unfold appG
      dsimp only
      rw [h0]
      dsimp only
      rw [if_pos (by rw [lsN_len]; unfold LIM; omega)]
      rfl
  py := by
    have : n = 0 ∨ n = 1 := by omega
    rcases this with rfl | rfl
    · exact ⟨.list (List.replicate 12 (.list [.str "list", .int 1])), (by decide +kernel), Nat.le_of_ble_eq_true rfl, fun s k h0 h => py_repR h0 _ rfl h⟩
    · exact ⟨.list (List.replicate 12 (.list [.str "list", .int 1, .int 2])), (by decide +kernel), Nat.le_of_ble_eq_true rfl, fun s k h0 h => py_repR h0 _ rfl h⟩
end
/-! ### the two lists of a value -/
section
variable {xc : XC} {s : Sto} {N : Mi.Env → Sto → Prop} {B : D → Sto → Prop}
theorem o_forI {ga : D → Mi.Env → Option Mi.Env} {body : Mi.Env → Sto → Out} {it : ItM} {ds : List D} (P : Nat → Mi.Env → Sto → Prop) (hn : ∀ i e s, P i e s → it.nth s i = some ds[i]?)
    (ht : ∀ i d e s, P i e s → ds[i]? = some d → ∃ e1, ga d e = some e1 ∧ (body e1 s).Is (fun e2 s2 => P (i + 1) e2 s2) B) (hN : ∀ e s, P ds.length e s → N e s) :
    ∀ (m i : Nat) (e : Mi.Env) (s : Sto), ds.length ≤ m + i → i ≤ ds.length → P i e s → (forI ga body it m i e s).Is N B
  | m, i, e, s, hm, hi, h => by
    have q := hn i e s h
    cases c : ds[i]? with
    | none =>
      have z : i = ds.length := Nat.le_antisymm hi (List.getElem?_eq_none_iff.mp c)
      rw [c] at q
      have w : forI ga body it m i e s = .nx e s := by cases m <;> (unfold forI; rw [q])
      rw [w]
      exact hN e s (z ▸ h)
    | some d =>
      rw [c] at q
      have lt : i < ds.length := (List.getElem?_eq_some_iff.mp c).1
      cases m with
      | zero => omega
      | succ m =>
        obtain ⟨e1, g, b⟩ := ht i d e s h c
        unfold forI
        simp only [q, g]
        cases r : body e1 s with
        | nx e2 s2 => rw [r] at b; exact o_forI P hn ht hN m (i + 1) e2 s2 (by omega) lt b
        | rt d s2 => rw [r] at b; exact b
        | bk _ _ => rw [r] at b; exact b.elim
        | ct _ _ => rw [r] at b; exact b.elim
        | exc _ _ _ _ => rw [r] at b; exact b.elim
        | bad => rw [r] at b; exact b.elim
theorem o_forR {fi : Mi.Env → Sto → Res D} {ga : D → Mi.Env → Option Mi.Env} {body : Mi.Env → Sto → Out} {q : Nat} {ds : List D} {env : Mi.Env} {st : Sto} (P : Nat → Mi.Env → Sto → Prop) (hi : fi env st = .ok (.r q) s) (h0 : P 0 env s) (hq : ∀ i e s, P i e s → s[q]? = some (.lst ds))
    (ht : ∀ i d e s, P i e s → ds[i]? = some d → ∃ e1, ga d e = some e1 ∧ (body e1 s).Is (fun e2 s2 => P (i + 1) e2 s2) B) (hN : ∀ e s, P ds.length e s → N e s) : (forM' (anyOf fi) ga body env st).Is N B := by
  have e : anyOf fi env st = .ok (seqIt (.r q) ds.length) s := by
    unfold anyOf
    rw [hi]
    show optR ((lsq s (.r q)).map fun ds => seqIt (.r q) ds.length) s = _
    rw [show lsq s (.r q) = some ds from it_ok (hq 0 _ _ h0)]; rfl
  unfold forM'
  rw [e]
  exact o_forI P (fun i e s h => by
    show (items s (.r q)).map (fun ds => ds[i]?) = _
    rw [it_ok (hq i e s h)]; rfl) ht hN _ 0 env s (by show ds.length ≤ ds.length + 0; omega) (Nat.zero_le _) h0
theorem both_ok (nd : (cs xc).Nodup) {dv : D} {a x2 x3 x4 x5 g : Option D} (f : Nat → Nat) (V0 : Val dv (f 0) (f 1)) (V1 : Val dv (f 1) (f 2)) (h0 : s[0]? = some (.lst (lsN (f 0))))
    (hN : ∀ x2 x3 x4 x5 t, Sub0 s t → t[0]? = some (.lst (lsN (f 2))) → N (L7 a (some dv) x2 x3 x4 x5 g) t) : (l_law_4 xc (L7 a (some dv) x2 x3 x4 x5 g) s).Is N B := by
  obtain ⟨r1, t1, h1, k1, es1, rfl, a1, l1, e1, q1⟩ := (made_ok xc dv s).get
  obtain ⟨r2, t2, h2, k2, es2, rfl, a2, l2, e2, q2⟩ := (named_ok xc dv t1).get
  have pos : 0 < s.length := (List.getElem?_eq_some_iff.mp h0).1
  have p1 := sub_len a1
  have p2 := sub_len a2
  have c1 : callG (m_law_made xc) [eVar 1] (L7 a (some dv) x2 x3 x4 x5 g) s = .ok (.r k1) t1 := call_ok rfl h1
  have c2 : callG (m_law_named xc) [eVar 1] (L7 a (some dv) x2 x3 x4 x5 g) t1 = .ok (.r k2) t2 := call_ok rfl h2
  have c3 : newM [callG (m_law_made xc) [eVar 1], callG (m_law_named xc) [eVar 1]] (L7 a (some dv) x2 x3 x4 x5 g) s = .ok (.r t2.length) (t2 ++ [SO.lst [.r k1, .r k2]]) := by
    refine new_ok ?_
    show (callG (m_law_made xc) [eVar 1] _ s).bind _ = _
    rw [c1]
    show ((callG (m_law_named xc) [eVar 1] _ t1).bind _ : Res (List D)).bind _ = _
    rw [c2]; rfl
  generalize hT : t2 ++ [SO.lst [.r k1, .r k2]] = T at c3
  have aT : Sub t2 T := by rw [← hT]; exact sub_app
  have eT : T[t2.length]? = some (.lst [.r k1, .r k2]) := by rw [← hT]; exact get_end
  have z0 : T[0]? = some (.lst (lsN (f 0))) := ((a1.trans a2).trans aT) _ _ h0
  have f1 := (a2.trans aT) _ _ e1
  have f2 := aT _ _ e2
  have g1 := q1.mono (a2.trans aT)
  have g2 := q2.mono aT
  have rr : ∀ {t : Sto} {es : List D}, Sub0 T t → Refs dv T (PS xc) es → Refs dv t (PS xc) es := fun {t es} u r => r.imp fun m p h => u m _ (fun e => by rw [e, z0] at h; exact nomatch h) h
  unfold l_law_4
  refine o_forR (s := T) (ds := [.r k1, .r k2]) (fun j e t => (∃ x2 x3 x4 x5, e = L7 a (some dv) x2 x3 x4 x5 g) ∧ Sub0 T t ∧ t[0]? = some (.lst (lsN (f j)))) c3 ⟨⟨_, _, _, _, rfl⟩, .refl, z0⟩ (fun i e t h => h.2.1 _ _ (by omega) eT) ?_ ?_
  · rintro i d e t ⟨⟨x2, x3, x4, x5, rfl⟩, ut, zt⟩ hd
    match i, hd, zt with
    | 0, hd, zt =>
      cases hd
      refine ⟨_, rfl, turn_ok (x2 := x2) nd V0 zt (ut _ _ (by omega) f1) (rr ut g1) fun z x y t' u' z' => ⟨⟨_, _, _, _, rfl⟩, ut.trans u', z'⟩⟩
    | 1, hd, zt =>
      cases hd
      refine ⟨_, rfl, turn_ok (x2 := x2) nd V1 zt (ut _ _ (by omega) f2) (rr ut g2) fun z x y t' u' z' => ⟨⟨_, _, _, _, rfl⟩, ut.trans u', z'⟩⟩
    | i + 2, hd, zt => cases hd
  · rintro e t ⟨⟨x2, x3, x4, x5, rfl⟩, ut, zt⟩
    exact hN _ _ _ _ _ (fun m o ne h => ut m o ne ((a1.trans a2).trans aT m o h)) zt
def vals : List D := [.t .non, .t (.int 5), .t (.str "text"), .r 0, .t (.tup [.str "a", .int 1]), .t (.bl true)]
def fL (i : Nat) : Nat → Nat := fun j => if i < 3 then 0 else if i = 3 then j else 2
theorem val_all {i : Nat} {d : D} (h : vals[i]? = some d) : Val d (fL i 0) (fL i 1) ∧ Val d (fL i 1) (fL i 2) := by
  match i, h with
  | 0, h => cases h; exact ⟨val_t .none rfl (by decide +kernel) (by decide +kernel) (fun _ => rfl), val_t .none rfl (by decide +kernel) (by decide +kernel) (fun _ => rfl)⟩
  | 1, h => cases h; exact ⟨val_t (.int 5) rfl (by decide +kernel) (by decide +kernel) (fun _ => rfl), val_t (.int 5) rfl (by decide +kernel) (by decide +kernel) (fun _ => rfl)⟩
  | 2, h => cases h; exact ⟨val_t (.str "text") rfl (by decide +kernel) (by decide +kernel) (fun _ => rfl), val_t (.str "text") rfl (by decide +kernel) (by decide +kernel) (fun _ => rfl)⟩
  | 3, h => cases h; exact ⟨val_r (n := 0) (by omega), val_r (n := 1) (by omega)⟩
  | 4, h => cases h; exact ⟨val_t (.tuple [.str "a", .int 1]) rfl (by decide +kernel) (by decide +kernel) (fun _ => rfl), val_t (.tuple [.str "a", .int 1]) rfl (by decide +kernel) (by decide +kernel) (fun _ => rfl)⟩
  | 5, h => cases h; exact ⟨val_t (.bool true) rfl (by decide +kernel) (by decide +kernel) (fun _ => rfl), val_t (.bool true) rfl (by decide +kernel) (by decide +kernel) (fun _ => rfl)⟩
  | i + 6, h => cases h
theorem rt_get {o : Out} {B : D → Sto → Prop} (h : o.Is (fun _ _ => False) B) : ∃ d s, o = .rt d s ∧ B d s := by
  cases o with
  | rt d s => exact ⟨d, s, rfl, h⟩
  | nx e s => exact h.elim
  | bk _ _ => exact h.elim
  | ct _ _ => exact h.elim
  | exc _ _ _ _ => exact h.elim
  | bad => exact h.elim
end
end K03
/-! k03M6 -/
namespace K03
open Mi PySem
theorem fL_next (i : Nat) : fL i 2 = fL (i + 1) 0 := by
  rcases (by omega : i < 2 ∨ i = 2 ∨ i = 3 ∨ 3 < i) with h | rfl | rfl | h
  · unfold fL; rw [if_pos (by omega), if_pos (by omega)]
  · rfl
  · rfl
  · unfold fL; rw [if_neg (by omega), if_neg (by omega), if_neg (by omega), if_neg (by omega)]
theorem m_eq (xc : XC) (d : D) (S : Sto) : m_law xc [d] S = exitG (b_law xc (L7 (some d) none none none none none none) S) := rfl
theorem start_ok (a : Option D) : newM [eC .non, eC (.int 5), eC (.str "text"), newM [eC (.str "list")], tupM [eC (.str "a"), eC (.int 1)], eC (.bl true)] (L7 a none none none none none none) [] = .ok (.r 1) [SO.lst (lsN 0), SO.lst vals] := by
  kernel_rfl
theorem body_ok (xc : XC) (nd : (cs xc).Nodup) (a : Option D) (E : Mi.Env) (S : Sto) (hE : E = L7 a none none none none none none) (hS : S = []) : (b_law xc E S).Is (fun _ _ => False) fun d _ => d = .t (.bl true) := by
  have c0 : newM [eC .non, eC (.int 5), eC (.str "text"), newM [eC (.str "list")], tupM [eC (.str "a"), eC (.int 1)], eC (.bl true)] E S = .ok (.r 1) [SO.lst (lsN 0), SO.lst vals] := by
    rw [hE, hS]
    exact start_ok a
  unfold b_law
  refine o_seq ?_
  unfold l_law_5
  refine o_forR (q := 1) (s := [SO.lst (lsN 0), SO.lst vals]) (ds := vals) (fun i e t => (∃ x1 x2 x3 x4 x5, e = L7 a x1 x2 x3 x4 x5 none) ∧ t[1]? = some (.lst vals) ∧ t[0]? = some (.lst (lsN (fL i 0)))) c0 ⟨⟨_, _, _, _, _, hE⟩, rfl, rfl⟩ (fun i e t h => h.2.1) ?_ ?_
  · rintro i d e t ⟨⟨x1, x2, x3, x4, x5, rfl⟩, q1, q0⟩ hd
    obtain ⟨V0, V1⟩ := val_all hd
    exact ⟨_, rfl, both_ok nd (fL i) V0 V1 q0 fun x2 x3 x4 x5 t' u' z' => ⟨⟨_, _, _, _, _, rfl⟩, u' _ _ (by omega) q1, by rw [← fL_next]; exact z'⟩⟩
  · rintro e t _
    exact o_ret <| is_C rfl
theorem truth (xc : XC) (nd : (cs xc).Nodup) (ns : List Int) (hn : ns.length ≤ 63) : ∃ st, m_law xc [script ns] [] = .ok (.t (.bl true)) st := by
  obtain ⟨S, hS⟩ : ∃ S : Sto, S = [] := ⟨_, rfl⟩
  have z := body_ok xc nd (some (script ns)) _ S rfl hS
  rw [← hS, m_eq]
  obtain ⟨r, s, e, q⟩ := rt_get z
  rw [e]
  exact ⟨s, by rw [q]; rfl⟩
end K03
open PyProof.Rows PySem PySem.W
set_option maxHeartbeats 0 in
theorem PySem.Challenge.cw_interruptruns_k03_error_classes_holds : PySem.Challenge.rw_interruptruns_k03_error_classes.Holds := by
  w_on; o_law; k_head; (case hw => w_witness2); k_fill
  refine Mi.law_endX (l := PySem.Challenge.rw_interruptruns_k03_error_classes) (n := 63) (k := 6) (x := "_law_script") (m := fun x : {xc : K03.XC // K03.FaDis xc} => K03.m_law x.1) rfl (by decide) rfl ⟨rfl, by decide, by decide⟩ (fun w h Y => PySem.W.kIn_of Y) ?F (fun xc ns hn => K03.truth xc.1 xc.2 ns hn)
  case F =>
    intro w mg fa h KX G hmg
    refine' K03.all_mk KX G hmg ?xa0 ?xa1 ?xa2 ?xa3 ?xa4 ?xa5 ?xa6 ?xa7 ?xa8 ?xa9 ?xa10 ?xa11 ?xa12 ?xa13 ?xa14 ?ysp ?ytk ?a0 ?l0 ?c0 ?k0 ?a1 ?l1 ?c1 ?k1 ?a2 ?l2 ?c2 ?k2 ?a3 ?l3 ?c3 ?k3 ?z0 ?z1 ?z2 ?z3 ?z4 ?z5 ?z6 ?z7 ?yex0 ?ykc0 ?yga0 ?ygg0 ?yhd0 ?ycl0 ?ymr0 ?yq0 ?ysa0 ?yno0 ?yv0 ?yex1 ?ykc1 ?yga1 ?ygg1 ?yhd1 ?ycl1 ?ymr1 ?yq1 ?ysa1 ?yno1 ?yv1 ?yex2 ?ykc2 ?yga2 ?ygg2 ?yhd2 ?ycl2 ?ymr2 ?yq2 ?ysa2 ?yno2 ?yv2 ?yex3 ?ykc3 ?yga3 ?ygg3 ?yhd3 ?ycl3 ?ymr3 ?yq3 ?ysa3 ?yno3 ?yv3 ?yex4 ?ykc4 ?yga4 ?ygg4 ?yhd4 ?ycl4 ?ymr4 ?yq4 ?ysa4 ?yno4 ?yv4 ?yex5 ?ykc5 ?yga5 ?ygg5 ?yhd5 ?ycl5 ?ymr5 ?yq5 ?ysa5 ?yno5 ?yv5 ?yex6 ?ykc6 ?yga6 ?ygg6 ?yhd6 ?ycl6 ?ymr6 ?yq6 ?ysa6 ?yno6 ?yv6 ?yex7 ?ykc7 ?yga7 ?ygg7 ?yhd7 ?ycl7 ?ymr7 ?yq7 ?ysa7 ?yno7 ?yv7 ?yex8 ?ykc8 ?yga8 ?ygg8 ?yhd8 ?ycl8 ?ymr8 ?yq8 ?ysa8 ?yno8 ?yv8 ?yex9 ?ykc9 ?yga9 ?ygg9 ?yhd9 ?ycl9 ?ymr9 ?yq9 ?ysa9 ?yno9 ?yv9 ?yex10 ?ykc10 ?yga10 ?ygg10 ?yhd10 ?ycl10 ?ymr10 ?yq10 ?ysa10 ?yno10 ?yv10 ?yex11 ?ykc11 ?yga11 ?ygg11 ?yhd11 ?ycl11 ?ymr11 ?yq11 ?ysa11 ?yno11 ?yv11 ?yex12 ?ykc12 ?yga12 ?ygg12 ?yhd12 ?ycl12 ?ymr12 ?yq12 ?yi12 ?yex13 ?ykc13 ?yga13 ?ygg13 ?yhd13 ?ycl13 ?ymr13 ?yq13 ?yi13 ?xk2_2 ?xk2_5 ?xk2_9 ?xk2_6 ?xk2_7 ?xk2_8 ?xk2_0 ?xk2_1 ?xk2_3 ?xk2_4 ?xk2_LookupError ?xk2_13 ?xk2_12 ?xk2_OverflowError ?xk2_10 ?xk2_14 ?xk2_11 ?xk2_ValueError ?xk5_2 ?xk5_5 ?xk5_9 ?xk5_6 ?xk5_7 ?xk5_8 ?xk5_0 ?xk5_1 ?xk5_3 ?xk5_4 ?xk5_LookupError ?xk5_13 ?xk5_12 ?xk5_OverflowError ?xk5_10 ?xk5_14 ?xk5_11 ?xk5_ValueError ?xk9_2 ?xk9_5 ?xk9_9 ?xk9_6 ?xk9_7 ?xk9_8 ?xk9_0 ?xk9_1 ?xk9_3 ?xk9_4 ?xk9_LookupError ?xk9_13 ?xk9_12 ?xk9_OverflowError ?xk9_10 ?xk9_14 ?xk9_11 ?xk9_ValueError ?xk6_2 ?xk6_5 ?xk6_9 ?xk6_6 ?xk6_7 ?xk6_8 ?xk6_0 ?xk6_1 ?xk6_3 ?xk6_4 ?xk6_LookupError ?xk6_13 ?xk6_12 ?xk6_OverflowError ?xk6_10 ?xk6_14 ?xk6_11 ?xk6_ValueError ?xk7_2 ?xk7_5 ?xk7_9 ?xk7_6 ?xk7_7 ?xk7_8 ?xk7_0 ?xk7_1 ?xk7_3 ?xk7_4 ?xk7_LookupError ?xk7_13 ?xk7_12 ?xk7_OverflowError ?xk7_10 ?xk7_14 ?xk7_11 ?xk7_ValueError ?xk8_2 ?xk8_5 ?xk8_9 ?xk8_6 ?xk8_7 ?xk8_8 ?xk8_0 ?xk8_1 ?xk8_3 ?xk8_4 ?xk8_LookupError ?xk8_13 ?xk8_12 ?xk8_OverflowError ?xk8_10 ?xk8_14 ?xk8_11 ?xk8_ValueError ?xk0_2 ?xk0_5 ?xk0_9 ?xk0_6 ?xk0_7 ?xk0_8 ?xk0_0 ?xk0_1 ?xk0_3 ?xk0_4 ?xk0_LookupError ?xk0_13 ?xk0_12 ?xk0_OverflowError ?xk0_10 ?xk0_14 ?xk0_11 ?xk0_ValueError ?xk1_2 ?xk1_5 ?xk1_9 ?xk1_6 ?xk1_7 ?xk1_8 ?xk1_0 ?xk1_1 ?xk1_3 ?xk1_4 ?xk1_LookupError ?xk1_13 ?xk1_12 ?xk1_OverflowError ?xk1_10 ?xk1_14 ?xk1_11 ?xk1_ValueError ?xk3_2 ?xk3_5 ?xk3_9 ?xk3_6 ?xk3_7 ?xk3_8 ?xk3_0 ?xk3_1 ?xk3_3 ?xk3_4 ?xk3_LookupError ?xk3_13 ?xk3_12 ?xk3_OverflowError ?xk3_10 ?xk3_14 ?xk3_11 ?xk3_ValueError ?xk4_2 ?xk4_5 ?xk4_9 ?xk4_6 ?xk4_7 ?xk4_8 ?xk4_0 ?xk4_1 ?xk4_3 ?xk4_4 ?xk4_LookupError ?xk4_13 ?xk4_12 ?xk4_OverflowError ?xk4_10 ?xk4_14 ?xk4_11 ?xk4_ValueError ?xk13_2 ?xk13_5 ?xk13_9 ?xk13_6 ?xk13_7 ?xk13_8 ?xk13_0 ?xk13_1 ?xk13_3 ?xk13_4 ?xk13_LookupError ?xk13_13 ?xk13_12 ?xk13_OverflowError ?xk13_10 ?xk13_14 ?xk13_11 ?xk13_ValueError ?xk12_2 ?xk12_5 ?xk12_9 ?xk12_6 ?xk12_7 ?xk12_8 ?xk12_0 ?xk12_1 ?xk12_3 ?xk12_4 ?xk12_LookupError ?xk12_13 ?xk12_12 ?xk12_OverflowError ?xk12_10 ?xk12_14 ?xk12_11 ?xk12_ValueError ?xk10_2 ?xk10_5 ?xk10_9 ?xk10_6 ?xk10_7 ?xk10_8 ?xk10_0 ?xk10_1 ?xk10_3 ?xk10_4 ?xk10_LookupError ?xk10_13 ?xk10_12 ?xk10_OverflowError ?xk10_10 ?xk10_14 ?xk10_11 ?xk10_ValueError ?xk11_2 ?xk11_5 ?xk11_9 ?xk11_6 ?xk11_7 ?xk11_8 ?xk11_0 ?xk11_1 ?xk11_3 ?xk11_4 ?xk11_LookupError ?xk11_13 ?xk11_12 ?xk11_OverflowError ?xk11_10 ?xk11_14 ?xk11_11 ?xk11_ValueError ?xi2 ?li2 ?ci2 ?ki2 ?xt2 ?xi5 ?li5 ?ci5 ?ki5 ?xt5 ?xi9 ?li9 ?ci9 ?ki9 ?xt9 ?xi6 ?li6 ?ci6 ?ki6 ?xt6 ?xi7 ?li7 ?ci7 ?ki7 ?xt7 ?xi8 ?li8 ?ci8 ?ki8 ?xt8 ?xi0 ?li0 ?ci0 ?ki0 ?xt0 ?xi1 ?li1 ?ci1 ?ki1 ?xt1 ?xi3 ?li3 ?ci3 ?ki3 ?xt3 ?xi4 ?li4 ?ci4 ?ki4 ?xt4 ?xi10 ?li10 ?ci10 ?ki10 ?xt10 ?xi11 ?li11 ?ci11 ?ki11 ?xt11
    (case xa0 => k_is); (case xa1 => k_is); (case xa2 => k_is); (case xa3 => k_is); (case xa4 => k_is); (case xa5 => k_is); (case xa6 => k_is); (case xa7 => k_is); (case xa8 => k_is); (case xa9 => k_is); (case xa10 => k_is); (case xa11 => k_is); (case xa12 => k_is); (case xa13 => k_is); (case xa14 => k_is); (case ysp => k_is); (case ytk => k_is); (case a0 => k_is); (case l0 => k_is); (case c0 => k_is); (case k0 => k_is); (case a1 => k_is); (case l1 => k_is); (case c1 => k_is); (case k1 => k_is); (case a2 => k_is); (case l2 => k_is); (case c2 => k_is); (case k2 => k_is); (case a3 => k_is); (case l3 => k_is); (case c3 => k_is); (case k3 => k_is); (case z0 => k_is); (case z1 => k_is); (case z2 => k_is); (case z3 => k_is); (case z4 => k_is); (case z5 => k_is); (case z6 => k_is); (case z7 => k_is); (case yex0 => k_is); (case ykc0 => k_is); (case yga0 => k_is); (case ygg0 => k_is); (case yhd0 => k_is); (case ycl0 => k_is); (case ymr0 => k_is); (case ysa0 => k_is); (case yno0 => k_is); (case yex1 => k_is); (case ykc1 => k_is); (case yga1 => k_is); (case ygg1 => k_is); (case yhd1 => k_is); (case ycl1 => k_is); (case ymr1 => k_is); (case ysa1 => k_is); (case yno1 => k_is); (case yex2 => k_is); (case ykc2 => k_is); (case yga2 => k_is); (case ygg2 => k_is); (case yhd2 => k_is); (case ycl2 => k_is); (case ymr2 => k_is); (case ysa2 => k_is); (case yno2 => k_is); (case yex3 => k_is); (case ykc3 => k_is); (case yga3 => k_is); (case ygg3 => k_is); (case yhd3 => k_is); (case ycl3 => k_is); (case ymr3 => k_is); (case ysa3 => k_is); (case yno3 => k_is); (case yex4 => k_is); (case ykc4 => k_is); (case yga4 => k_is); (case ygg4 => k_is); (case yhd4 => k_is); (case ycl4 => k_is); (case ymr4 => k_is); (case ysa4 => k_is); (case yno4 => k_is); (case yex5 => k_is); (case ykc5 => k_is); (case yga5 => k_is); (case ygg5 => k_is); (case yhd5 => k_is); (case ycl5 => k_is); (case ymr5 => k_is); (case ysa5 => k_is); (case yno5 => k_is); (case yex6 => k_is); (case ykc6 => k_is); (case yga6 => k_is); (case ygg6 => k_is); (case yhd6 => k_is); (case ycl6 => k_is); (case ymr6 => k_is); (case ysa6 => k_is); (case yno6 => k_is); (case yex7 => k_is); (case ykc7 => k_is); (case yga7 => k_is); (case ygg7 => k_is); (case yhd7 => k_is); (case ycl7 => k_is); (case ymr7 => k_is); (case ysa7 => k_is); (case yno7 => k_is); (case yex8 => k_is); (case ykc8 => k_is); (case yga8 => k_is); (case ygg8 => k_is); (case yhd8 => k_is); (case ycl8 => k_is); (case ymr8 => k_is); (case ysa8 => k_is); (case yno8 => k_is); (case yex9 => k_is); (case ykc9 => k_is); (case yga9 => k_is); (case ygg9 => k_is); (case yhd9 => k_is); (case ycl9 => k_is); (case ymr9 => k_is); (case ysa9 => k_is); (case yno9 => k_is); (case yex10 => k_is); (case ykc10 => k_is); (case yga10 => k_is); (case ygg10 => k_is); (case yhd10 => k_is); (case ycl10 => k_is); (case ymr10 => k_is); (case ysa10 => k_is); (case yno10 => k_is); (case yex11 => k_is); (case ykc11 => k_is); (case yga11 => k_is); (case ygg11 => k_is); (case yhd11 => k_is); (case ycl11 => k_is); (case ymr11 => k_is); (case ysa11 => k_is); (case yno11 => k_is); (case yex12 => k_is); (case ykc12 => k_is); (case yga12 => k_is); (case ygg12 => k_is); (case yhd12 => k_is); (case ycl12 => k_is); (case ymr12 => k_is); (case yi12 => k_is); (case yex13 => k_is); (case ykc13 => k_is); (case yga13 => k_is); (case ygg13 => k_is); (case yhd13 => k_is); (case ycl13 => k_is); (case ymr13 => k_is); (case yi13 => k_is); (case xi2 => k_is); (case li2 => k_is); (case ci2 => k_is); (case ki2 => k_is); (case xt2 => k_is); (case xi5 => k_is); (case li5 => k_is); (case ci5 => k_is); (case ki5 => k_is); (case xt5 => k_is); (case xi9 => k_is); (case li9 => k_is); (case ci9 => k_is); (case ki9 => k_is); (case xt9 => k_is); (case xi6 => k_is); (case li6 => k_is); (case ci6 => k_is); (case ki6 => k_is); (case xt6 => k_is); (case xi7 => k_is); (case li7 => k_is); (case ci7 => k_is); (case ki7 => k_is); (case xt7 => k_is); (case xi8 => k_is); (case li8 => k_is); (case ci8 => k_is); (case ki8 => k_is); (case xt8 => k_is); (case xi0 => k_is); (case li0 => k_is); (case ci0 => k_is); (case ki0 => k_is); (case xt0 => k_is); (case xi1 => k_is); (case li1 => k_is); (case ci1 => k_is); (case ki1 => k_is); (case xt1 => k_is); (case xi3 => k_is); (case li3 => k_is); (case ci3 => k_is); (case ki3 => k_is); (case xt3 => k_is); (case xi4 => k_is); (case li4 => k_is); (case ci4 => k_is); (case ki4 => k_is); (case xt4 => k_is); (case xi10 => k_is); (case li10 => k_is); (case ci10 => k_is); (case ki10 => k_is); (case xt10 => k_is); (case xi11 => k_is); (case li11 => k_is); (case ci11 => k_is); (case ki11 => k_is); (case xt11 => k_is)
    (case xk2_2 => rfl); (case xk2_5 => rfl); (case xk2_9 => rfl); (case xk2_6 => rfl); (case xk2_7 => rfl); (case xk2_8 => rfl); (case xk2_0 => rfl); (case xk2_1 => rfl); (case xk2_3 => rfl); (case xk2_4 => rfl); (case xk2_LookupError => rfl); (case xk2_13 => rfl); (case xk2_12 => rfl); (case xk2_OverflowError => rfl); (case xk2_10 => rfl); (case xk2_14 => rfl); (case xk2_11 => rfl); (case xk2_ValueError => rfl); (case xk5_2 => rfl); (case xk5_5 => rfl); (case xk5_9 => rfl); (case xk5_6 => rfl); (case xk5_7 => rfl); (case xk5_8 => rfl); (case xk5_0 => rfl); (case xk5_1 => rfl); (case xk5_3 => rfl); (case xk5_4 => rfl); (case xk5_LookupError => rfl); (case xk5_13 => rfl); (case xk5_12 => rfl); (case xk5_OverflowError => rfl); (case xk5_10 => rfl); (case xk5_14 => rfl); (case xk5_11 => rfl); (case xk5_ValueError => rfl); (case xk9_2 => rfl); (case xk9_5 => rfl); (case xk9_9 => rfl); (case xk9_6 => rfl); (case xk9_7 => rfl); (case xk9_8 => rfl); (case xk9_0 => rfl); (case xk9_1 => rfl); (case xk9_3 => rfl); (case xk9_4 => rfl); (case xk9_LookupError => rfl); (case xk9_13 => rfl); (case xk9_12 => rfl); (case xk9_OverflowError => rfl); (case xk9_10 => rfl); (case xk9_14 => rfl); (case xk9_11 => rfl); (case xk9_ValueError => rfl); (case xk6_2 => rfl); (case xk6_5 => rfl); (case xk6_9 => rfl); (case xk6_6 => rfl); (case xk6_7 => rfl); (case xk6_8 => rfl); (case xk6_0 => rfl); (case xk6_1 => rfl); (case xk6_3 => rfl); (case xk6_4 => rfl); (case xk6_LookupError => rfl); (case xk6_13 => rfl); (case xk6_12 => rfl); (case xk6_OverflowError => rfl); (case xk6_10 => rfl); (case xk6_14 => rfl); (case xk6_11 => rfl); (case xk6_ValueError => rfl); (case xk7_2 => rfl); (case xk7_5 => rfl); (case xk7_9 => rfl); (case xk7_6 => rfl); (case xk7_7 => rfl); (case xk7_8 => rfl); (case xk7_0 => rfl); (case xk7_1 => rfl); (case xk7_3 => rfl); (case xk7_4 => rfl); (case xk7_LookupError => rfl); (case xk7_13 => rfl); (case xk7_12 => rfl); (case xk7_OverflowError => rfl); (case xk7_10 => rfl); (case xk7_14 => rfl); (case xk7_11 => rfl); (case xk7_ValueError => rfl); (case xk8_2 => rfl); (case xk8_5 => rfl); (case xk8_9 => rfl); (case xk8_6 => rfl); (case xk8_7 => rfl); (case xk8_8 => rfl); (case xk8_0 => rfl); (case xk8_1 => rfl); (case xk8_3 => rfl); (case xk8_4 => rfl); (case xk8_LookupError => rfl); (case xk8_13 => rfl); (case xk8_12 => rfl); (case xk8_OverflowError => rfl); (case xk8_10 => rfl); (case xk8_14 => rfl); (case xk8_11 => rfl); (case xk8_ValueError => rfl); (case xk0_2 => rfl); (case xk0_5 => rfl); (case xk0_9 => rfl); (case xk0_6 => rfl); (case xk0_7 => rfl); (case xk0_8 => rfl); (case xk0_0 => rfl); (case xk0_1 => rfl); (case xk0_3 => rfl); (case xk0_4 => rfl); (case xk0_LookupError => rfl); (case xk0_13 => rfl); (case xk0_12 => rfl); (case xk0_OverflowError => rfl); (case xk0_10 => rfl); (case xk0_14 => rfl); (case xk0_11 => rfl); (case xk0_ValueError => rfl); (case xk1_2 => rfl); (case xk1_5 => rfl); (case xk1_9 => rfl); (case xk1_6 => rfl); (case xk1_7 => rfl); (case xk1_8 => rfl); (case xk1_0 => rfl); (case xk1_1 => rfl); (case xk1_3 => rfl); (case xk1_4 => rfl); (case xk1_LookupError => rfl); (case xk1_13 => rfl); (case xk1_12 => rfl); (case xk1_OverflowError => rfl); (case xk1_10 => rfl); (case xk1_14 => rfl); (case xk1_11 => rfl); (case xk1_ValueError => rfl); (case xk3_2 => rfl); (case xk3_5 => rfl); (case xk3_9 => rfl); (case xk3_6 => rfl); (case xk3_7 => rfl); (case xk3_8 => rfl); (case xk3_0 => rfl); (case xk3_1 => rfl); (case xk3_3 => rfl); (case xk3_4 => rfl); (case xk3_LookupError => rfl); (case xk3_13 => rfl); (case xk3_12 => rfl); (case xk3_OverflowError => rfl); (case xk3_10 => rfl); (case xk3_14 => rfl); (case xk3_11 => rfl); (case xk3_ValueError => rfl); (case xk4_2 => rfl); (case xk4_5 => rfl); (case xk4_9 => rfl); (case xk4_6 => rfl); (case xk4_7 => rfl); (case xk4_8 => rfl); (case xk4_0 => rfl); (case xk4_1 => rfl); (case xk4_3 => rfl); (case xk4_4 => rfl); (case xk4_LookupError => rfl); (case xk4_13 => rfl); (case xk4_12 => rfl); (case xk4_OverflowError => rfl); (case xk4_10 => rfl); (case xk4_14 => rfl); (case xk4_11 => rfl); (case xk4_ValueError => rfl); (case xk13_2 => rfl); (case xk13_5 => rfl); (case xk13_9 => rfl); (case xk13_6 => rfl); (case xk13_7 => rfl); (case xk13_8 => rfl); (case xk13_0 => rfl); (case xk13_1 => rfl); (case xk13_3 => rfl); (case xk13_4 => rfl); (case xk13_LookupError => rfl); (case xk13_13 => rfl); (case xk13_12 => rfl); (case xk13_OverflowError => rfl); (case xk13_10 => rfl); (case xk13_14 => rfl); (case xk13_11 => rfl); (case xk13_ValueError => rfl); (case xk12_2 => rfl); (case xk12_5 => rfl); (case xk12_9 => rfl); (case xk12_6 => rfl); (case xk12_7 => rfl); (case xk12_8 => rfl); (case xk12_0 => rfl); (case xk12_1 => rfl); (case xk12_3 => rfl); (case xk12_4 => rfl); (case xk12_LookupError => rfl); (case xk12_13 => rfl); (case xk12_12 => rfl); (case xk12_OverflowError => rfl); (case xk12_10 => rfl); (case xk12_14 => rfl); (case xk12_11 => rfl); (case xk12_ValueError => rfl); (case xk10_2 => rfl); (case xk10_5 => rfl); (case xk10_9 => rfl); (case xk10_6 => rfl); (case xk10_7 => rfl); (case xk10_8 => rfl); (case xk10_0 => rfl); (case xk10_1 => rfl); (case xk10_3 => rfl); (case xk10_4 => rfl); (case xk10_LookupError => rfl); (case xk10_13 => rfl); (case xk10_12 => rfl); (case xk10_OverflowError => rfl); (case xk10_10 => rfl); (case xk10_14 => rfl); (case xk10_11 => rfl); (case xk10_ValueError => rfl); (case xk11_2 => rfl); (case xk11_5 => rfl); (case xk11_9 => rfl); (case xk11_6 => rfl); (case xk11_7 => rfl); (case xk11_8 => rfl); (case xk11_0 => rfl); (case xk11_1 => rfl); (case xk11_3 => rfl); (case xk11_4 => rfl); (case xk11_LookupError => rfl); (case xk11_13 => rfl); (case xk11_12 => rfl); (case xk11_OverflowError => rfl); (case xk11_10 => rfl); (case xk11_14 => rfl); (case xk11_11 => rfl); (case xk11_ValueError => rfl); (case yq0 => kx_is); (case yv0 => kx_is); (case yq1 => kx_is); (case yv1 => kx_is); (case yq2 => kx_is); (case yv2 => kx_is); (case yq3 => kx_is); (case yv3 => kx_is); (case yq4 => kx_is); (case yv4 => kx_is); (case yq5 => kx_is); (case yv5 => kx_is); (case yq6 => kx_is); (case yv6 => kx_is); (case yq7 => kx_is); (case yv7 => kx_is); (case yq8 => kx_is); (case yv8 => kx_is); (case yq9 => kx_is); (case yv9 => kx_is); (case yq10 => kx_is); (case yv10 => kx_is); (case yq11 => kx_is); (case yv11 => kx_is); (case yq12 => kx_is); (case yq13 => kx_is)
