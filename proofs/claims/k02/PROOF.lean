import PyProof.Rows.All
import Wide.All
import OpenK.AllK
import Wide.FinOn
import HandS.ForMost
import HandS.ForExc
import HandS.IsInst
import HandS.Flow
import HandS.Zip
import HandS.TupAny
import HandS.TupMul
import HandS.TupLe
import HandS.Small
import HandS.RaiseMore
import HandS.More
import HandS.ExcInit
import HandS.ExcField
import HandS.HotCalls
import KE.KExcIs
import KE.KTryMore
import PyProof.ReprLen
import PyProof.StrLawsTight
import PyProof.FitsReplace
import PySem.Challenge.RW_interruptruns_k02_least_and_most_ticks
set_option Elab.async false
set_option linter.all false
set_option maxRecDepth 100000
set_option maxHeartbeats 4000007
/-! Mir0 -/
namespace Mi
open L2 PySem PySem.Spec PyProof.Rows

/-! ### data that nobody changes -/
/-- a plain value: what a Python value says, without addresses -/
inductive T where
  | non | bl (b : Bool) | int (i : Int) | str (x : Str) | tup (ts : List T) | lst (ts : List T) | scr (ts : List T) | glb (a : Addr) | ty (n : String)
/-- a value: a plain one, the n-th of the objects that are changed, or a caught exception at a: its class, its fields, which stand at o -/
inductive D where
  | t (x : T) | r (n : Nat) | x (a : Addr) (o : Option Addr) (C : Addr) (fs : List (Str × T))
/-- an object that is changed -/
inductive SO where
  | lst (ds : List D)
abbrev Sto := List SO

/-- a tuple that is read: tracked, or an object of the module -/
def TupAt (K : PySem.W.Frag) (H : Hp) (a : Addr) (vs : List V) : Prop := H a = some (.tup vs) ∨
  ∃ (o : Obj) (its : Array Value) (n : Nat), K.lookup a = some o ∧ o.cls = .type "tuple" ∧ o.data = .seq its n ∧ its.size ≤ sizeLine ∧ Vals vs its.toList
theorem TupAt.sq {K : PySem.W.Frag} {H : Hp} {a : Addr} {vs : List V} (h : TupAt K H a vs) : SqT K H a vs := h.imp (fun h => .inl h) id
/-- a list that is locked, or an object of the module: nobody can change it -/
def LkAt (K : PySem.W.Frag) (H : Hp) (a : Addr) (vs : List V) : Prop := (∃ o, H a = some (.frz o (.lst vs))) ∨
  ∃ (o : Obj) (its : Array Value) (n : Nat), K.lookup a = some o ∧ o.cls = .type "list" ∧ o.dict = none ∧ o.data = .seq its n ∧ its.size ≤ sizeLine ∧ Vals vs its.toList
theorem LkAt.sq {K : PySem.W.Frag} {H : Hp} {a : Addr} {vs : List V} (h : LkAt K H a vs) : SqL K H a vs := h.imp (fun h => .inr h) id
mutual
/-- v stands for the plain value; F: the addresses whose lists stay as they are -/
def RelT (K : PySem.W.Frag) (F : Addr → Prop) (H : Hp) : T → V → Prop
  | .non, v => v = .non
  | .bl b, v => v = .bl b
  | .int i, v => v = .int i
  | .str x, v => v = .str x
  | .tup ts, v => ∃ a vs, v = .ref a ∧ TupAt K H a vs ∧ RelTs K F H ts vs
  | .lst ts, v => ∃ a vs, v = .ref a ∧ F a ∧ H a = some (.lst vs) ∧ RelTs K F H ts vs
  | .scr ts, v => ∃ a vs, v = .ref a ∧ LkAt K H a vs ∧ RelTs K F H ts vs
  | .glb a, v => v = .ref a
  | .ty n, v => v = .ty n
def RelTs (K : PySem.W.Frag) (F : Addr → Prop) (H : Hp) : List T → List V → Prop
  | [], vs => vs = []
  | t :: ts, vs => ∃ v r, vs = v :: r ∧ RelT K F H t v ∧ RelTs K F H ts r
end
/-- where the changed objects stand; which lists stay -/
structure Wd where
  ρ : List Addr
  F : Addr → Prop
/-- an exception's own dict -/
def RelFs (K : PySem.W.Frag) (W : Wd) (H : Hp) : List (Str × T) → List (Str × V) → Prop
  | [], vs => vs = []
  | (n, t) :: r, vs => ∃ v u, vs = (n, v) :: u ∧ RelT K W.F H t v ∧ RelFs K W H r u
def ExD (K : PySem.W.Frag) (W : Wd) (H : Hp) (fs : List (Str × T)) (o : Option Addr) : Prop := fs = [] ∨ ∃ a vs, o = some a ∧ H a = some (.xd vs) ∧ RelFs K W H fs vs
def RelD (K : PySem.W.Frag) (W : Wd) (H : Hp) : D → V → Prop
  | .t x, v => RelT K W.F H x v
  | .r n, v => ∃ a, W.ρ[n]? = some a ∧ v = .ref a
  | .x a o _ fs, v => v = .ref a ∧ ExD K W H fs o
def RelDs (K : PySem.W.Frag) (W : Wd) (H : Hp) : List D → List V → Prop
  | [], vs => vs = []
  | d :: ds, vs => ∃ v r, vs = v :: r ∧ RelD K W H d v ∧ RelDs K W H ds r
def SoOk (K : PySem.W.Frag) (W : Wd) (H : Hp) (a : Addr) : SO → Prop
  | .lst ds => ∃ vs, H a = some (.lst vs) ∧ RelDs K W H ds vs
structure Rl (K : PySem.W.Frag) (W : Wd) (st : Sto) (H : Hp) : Prop where
  len : W.ρ.length = st.length
  nd : W.ρ.Nodup
  live : ∀ (n : Nat) (a : Addr) (o : SO), W.ρ[n]? = some a → st[n]? = some (o : SO) → SoOk K W H a o
  sep : ∀ a ∈ W.ρ, ¬ W.F a
  fz : ∀ a, W.F a → ∃ xs, H a = some (.lst xs)
/-- what a piece of code leaves of the world: the changed objects stand where they stood, all others are as they were -/
structure Ext (W : Wd) (H : Hp) (W' : Wd) (H' : Hp) : Prop where
  pre : W.ρ <+: W'.ρ
  new : ∀ a ∈ W'.ρ, a ∈ W.ρ ∨ H a = none
  fF : ∀ a, W.F a → W'.F a
  nF : ∀ a, W'.F a → W.F a ∨ H a = none
  keep : ∀ a o, H a = some o → a ∉ W.ρ → H' a = some o
  there : ∀ a o, H a = some o → ∃ o', H' a = some o'

section
variable {K : PySem.W.Frag} {W W1 W2 W3 : Wd} {H H1 H2 H3 : Hp} {st : Sto}
theorem Ext.refl : Ext W H W H := ⟨List.prefix_refl _, fun _ h => .inl h, fun _ h => h, fun _ h => .inl h, fun _ _ h _ => h, fun _ o h => ⟨o, h⟩⟩
theorem Ext.trans (a : Ext W H W1 H1) (b : Ext W1 H1 W2 H2) : Ext W H W2 H2 where
  pre := a.pre.trans b.pre
  new := fun x hx => by
    rcases b.new x hx with h | h
    · exact a.new x h
    · cases e : H x with
      | none => exact .inr rfl
      | some o =>
        obtain ⟨o', e'⟩ := a.there x o e
        rw [h] at e'; cases e'
  fF := fun x h => b.fF x (a.fF x h)
  nF := fun x hx => by
    rcases b.nF x hx with h | h
    · exact a.nF x h
    · cases e : H x with
      | none => exact .inr rfl
      | some o =>
        obtain ⟨o', e'⟩ := a.there x o e
        rw [h] at e'; cases e'
  keep := fun x o e hm => b.keep x o (a.keep x o e hm) fun h => by
    rcases a.new x h with h | h
    · exact hm h
    · rw [e] at h; cases h
  there := fun x o e => by
    obtain ⟨o', e'⟩ := a.there x o e
    exact b.there x o' e'

/-- only lists are among the changed objects -/
theorem Rl.tup (R : Rl K W st H) {a : Addr} {o : HO} (h : H a = some o) (h1 : ∀ vs, o ≠ .lst vs) : a ∉ W.ρ := fun hm => by
  obtain ⟨n, hn, e⟩ := List.getElem_of_mem hm
  have e1 : W.ρ[n]? = some a := by rw [List.getElem?_eq_getElem hn, e]
  have hn2 : n < st.length := by rw [← R.len]; exact hn
  have q := R.live n a st[n] e1 (List.getElem?_eq_getElem hn2)
  cases q' : st[n] with
  | lst ds =>
    rw [q'] at q
    obtain ⟨vs, e2, _⟩ := q
    rw [h] at e2
    exact h1 vs (Option.some.inj e2)
/-- what plain values lean on -/
structure KeepT (F : Addr → Prop) (H : Hp) (F' : Addr → Prop) (H' : Hp) : Prop where
  fF : ∀ a, F a → F' a
  lst : ∀ a xs, F a → H a = some (.lst xs) → H' a = some (.lst xs)
  tup : ∀ a xs, H a = some (.tup xs) → H' a = some (.tup xs)
  frz : ∀ a o xs, H a = some (.frz o (.lst xs)) → H' a = some (.frz o (.lst xs))
  xd : ∀ a fs, H a = some (.xd fs) → H' a = some (.xd fs)
theorem KeepT.lkAt {F F' : Addr → Prop} (k : KeepT F H F' H1) {a : Addr} {vs : List V} (h : LkAt K H a vs) : LkAt K H1 a vs := h.imp (fun ⟨o, h⟩ => ⟨o, k.frz a o vs h⟩) id
theorem KeepT.tupAt {F F' : Addr → Prop} (k : KeepT F H F' H1) {a : Addr} {vs : List V} (h : TupAt K H a vs) : TupAt K H1 a vs := h.imp (k.tup a vs) id
mutual
theorem KeepT.relT {F F' : Addr → Prop} (k : KeepT F H F' H1) : ∀ (t : T) (v : V), RelT K F H t v → RelT K F' H1 t v
  | .non, v, h => h
  | .bl b, v, h => h
  | .int i, v, h => h
  | .str x, v, h => h
  | .glb a, v, h => h
  | .ty n, v, h => h
  | .tup ts, v, h => by
    obtain ⟨a, vs, e, q, r⟩ := h
    exact ⟨a, vs, e, k.tupAt q, KeepT.relTs k ts vs r⟩
  | .lst ts, v, h => by
    obtain ⟨a, vs, e, f, q, r⟩ := h
    exact ⟨a, vs, e, k.fF a f, k.lst a vs f q, KeepT.relTs k ts vs r⟩
  | .scr ts, v, h => by
    obtain ⟨a, vs, e, q, r⟩ := h
    exact ⟨a, vs, e, k.lkAt q, KeepT.relTs k ts vs r⟩
theorem KeepT.relTs {F F' : Addr → Prop} (k : KeepT F H F' H1) : ∀ (ts : List T) (vs : List V), RelTs K F H ts vs → RelTs K F' H1 ts vs
  | [], vs, h => h
  | t :: ts, vs, h => by
    obtain ⟨v, r, e, a, b⟩ := h
    exact ⟨v, r, e, KeepT.relT k t v a, KeepT.relTs k ts r b⟩
end
theorem Ext.kt (E : Ext W H W1 H1) (R : Rl K W st H) : KeepT W.F H W1.F H1 := ⟨E.fF, fun a xs f q => E.keep a _ q (fun hm => R.sep a hm f), fun a xs h => E.keep a _ h (R.tup h fun _ z => nomatch z), fun a o xs h => E.keep a _ h (R.tup h fun _ z => nomatch z), fun a fs h => E.keep a _ h (R.tup h fun _ z => nomatch z)⟩
theorem Ext.relT (E : Ext W H W1 H1) (R : Rl K W st H) (t : T) (v : V) (h : RelT K W.F H t v) : RelT K W1.F H1 t v := (E.kt R).relT t v h
theorem Ext.relTs (E : Ext W H W1 H1) (R : Rl K W st H) (ts : List T) (vs : List V) (h : RelTs K W.F H ts vs) : RelTs K W1.F H1 ts vs := (E.kt R).relTs ts vs h
theorem pre_get {α : Type} {l l' : List α} {n : Nat} {a : α} (p : l <+: l') (h : l[n]? = some a) : l'[n]? = some a := by
  obtain ⟨r, rfl⟩ := p
  rw [List.getElem?_append_left (List.getElem?_eq_some_iff.mp h).1]
  exact h
theorem KeepT.relFs (k : KeepT W.F H W1.F H1) : ∀ {fs : List (Str × T)} {vs : List (Str × V)}, RelFs K W H fs vs → RelFs K W1 H1 fs vs
  | [], vs, h => h
  | (n, t) :: r, vs, h => by
    obtain ⟨v, u, e, a, b⟩ := h
    exact ⟨v, u, e, k.relT t v a, KeepT.relFs k b⟩
theorem KeepT.exd (k : KeepT W.F H W1.F H1) {fs : List (Str × T)} {o : Option Addr} (h : ExD K W H fs o) : ExD K W1 H1 fs o := by
  rcases h with h | ⟨a, vs, h1, h2, h3⟩
  · exact .inl h
  · exact .inr ⟨a, vs, h1, k.xd a vs h2, k.relFs h3⟩
theorem KeepT.relD (k : KeepT W.F H W1.F H1) (pre : W.ρ <+: W1.ρ) {d : D} {v : V} (h : RelD K W H d v) : RelD K W1 H1 d v := by
  cases d with
  | x a o C fs => exact ⟨h.1, k.exd h.2⟩
  | t x => exact k.relT x v h
  | r n =>
    obtain ⟨a, e, q⟩ := h
    exact ⟨a, pre_get pre e, q⟩
theorem KeepT.relDs (k : KeepT W.F H W1.F H1) (pre : W.ρ <+: W1.ρ) : ∀ {ds : List D} {vs : List V}, RelDs K W H ds vs → RelDs K W1 H1 ds vs
  | [], vs, h => h
  | d :: ds, vs, h => by
    obtain ⟨v, r, e, a, b⟩ := h
    exact ⟨v, r, e, k.relD pre a, KeepT.relDs k pre b⟩
theorem Ext.relD (E : Ext W H W1 H1) (R : Rl K W st H) {d : D} {v : V} (h : RelD K W H d v) : RelD K W1 H1 d v := (E.kt R).relD E.pre h
theorem Ext.relDs (E : Ext W H W1 H1) (R : Rl K W st H) {ds : List D} {vs : List V} (h : RelDs K W H ds vs) : RelDs K W1 H1 ds vs := (E.kt R).relDs E.pre h
theorem relTs_len : ∀ {ts : List T} {vs : List V} {F : Addr → Prop}, RelTs K F H ts vs → vs.length = ts.length
  | [], vs, F, h => by cases h; rfl
  | t :: ts, vs, F, h => by
    obtain ⟨v, r, e, a, b⟩ := h
    subst e
    show r.length + 1 = ts.length + 1
    rw [relTs_len b]
theorem relDs_len : ∀ {ds : List D} {vs : List V}, RelDs K W H ds vs → vs.length = ds.length
  | [], vs, h => by cases h; rfl
  | d :: ds, vs, h => by
    obtain ⟨v, r, e, a, b⟩ := h
    subst e
    show r.length + 1 = ds.length + 1
    rw [relDs_len b]
theorem relTs_get : ∀ {ts : List T} {vs : List V} {F : Addr → Prop} {i : Nat} {t : T}, RelTs K F H ts vs → ts[i]? = some t → ∃ v, vs[i]? = some v ∧ RelT K F H t v
  | [], vs, F, i, t, h, e => by simp at e
  | x :: ts, vs, F, i, t, h, e => by
    obtain ⟨v, r, rfl, a, b⟩ := h
    cases i with
    | zero => cases e; exact ⟨v, rfl, a⟩
    | succ i => exact relTs_get (ts := ts) (vs := r) b (by simpa using e)
theorem relDs_get : ∀ {ds : List D} {vs : List V} {i : Nat} {d : D}, RelDs K W H ds vs → ds[i]? = some d → ∃ v, vs[i]? = some v ∧ RelD K W H d v
  | [], vs, i, t, h, e => by simp at e
  | x :: ts, vs, i, t, h, e => by
    obtain ⟨v, r, rfl, a, b⟩ := h
    cases i with
    | zero => cases e; exact ⟨v, rfl, a⟩
    | succ i => exact relDs_get (ds := ts) (vs := r) b (by simpa using e)
theorem relTs_append : ∀ {ts us : List T} {vs ws : List V} {F : Addr → Prop}, RelTs K F H ts vs → RelTs K F H us ws → RelTs K F H (ts ++ us) (vs ++ ws)
  | [], us, vs, ws, F, h, k => by cases h; exact k
  | t :: ts, us, vs, ws, F, h, k => by
    obtain ⟨v, r, rfl, a, b⟩ := h
    exact ⟨v, r ++ ws, rfl, a, relTs_append b k⟩
theorem relDs_append : ∀ {ts us : List D} {vs ws : List V}, RelDs K W H ts vs → RelDs K W H us ws → RelDs K W H (ts ++ us) (vs ++ ws)
  | [], us, vs, ws, h, k => by cases h; exact k
  | t :: ts, us, vs, ws, h, k => by
    obtain ⟨v, r, rfl, a, b⟩ := h
    exact ⟨v, r ++ ws, rfl, a, relDs_append b k⟩
theorem relTs_drop : ∀ {ts : List T} {vs : List V} {F : Addr → Prop} (n : Nat), RelTs K F H ts vs → RelTs K F H (ts.drop n) (vs.drop n)
  | ts, vs, F, 0, h => by rw [List.drop_zero, List.drop_zero]; exact h
  | [], vs, F, n + 1, h => by cases h; rfl
  | t :: ts, vs, F, n + 1, h => by
    obtain ⟨v, r, rfl, a, b⟩ := h
    exact relTs_drop n b
theorem relTs_take : ∀ {ts : List T} {vs : List V} {F : Addr → Prop} (n : Nat), RelTs K F H ts vs → RelTs K F H (ts.take n) (vs.take n)
  | ts, vs, F, 0, h => rfl
  | [], vs, F, n + 1, h => by cases h; rfl
  | t :: ts, vs, F, n + 1, h => by
    obtain ⟨v, r, rfl, a, b⟩ := h
    exact ⟨v, _, rfl, a, relTs_take n b⟩
theorem relDs_set : ∀ {ds : List D} {vs : List V} {d : D} {v : V} (n : Nat), RelDs K W H ds vs → RelD K W H d v → RelDs K W H (ds.set n d) (vs.set n v)
  | [], vs, d, v, n, h, k => by cases h; rfl
  | x :: ds, vs, d, v, 0, h, k => by
    obtain ⟨y, r, rfl, a, b⟩ := h
    exact ⟨v, r, rfl, k, b⟩
  | x :: ds, vs, d, v, n + 1, h, k => by
    obtain ⟨y, r, rfl, a, b⟩ := h
    exact ⟨y, _, rfl, a, relDs_set n b k⟩
theorem relDs_dropLast : ∀ {ds : List D} {vs : List V}, RelDs K W H ds vs → RelDs K W H ds.dropLast vs.dropLast
  | [], vs, h => by cases h; rfl
  | [x], vs, h => by
    obtain ⟨y, r, rfl, a, b⟩ := h
    cases b
    rfl
  | x :: y :: ds, vs, h => by
    obtain ⟨v, r, rfl, a, v2, r2, rfl, a2, b⟩ := h
    exact ⟨v, _, rfl, a, relDs_dropLast (ds := y :: ds) ⟨v2, r2, rfl, a2, b⟩⟩
theorem relDs_t : ∀ {ts : List T} {vs : List V}, RelTs K W.F H ts vs → RelDs K W H (ts.map .t) vs
  | [], vs, h => h
  | t :: ts, vs, h => by
    obtain ⟨v, r, e, a, b⟩ := h
    exact ⟨v, r, e, a, relDs_t b⟩
/-- all of them plain -/
def plains : List D → Option (List T)
  | [] => some []
  | .t x :: r => (plains r).map (x :: ·)
  | .r _ :: _ => none
  | .x .. :: _ => none
theorem plains_map : ∀ (ts : List T), plains (ts.map .t) = some ts
  | [] => rfl
  | t :: ts => by show (plains (ts.map .t)).map (t :: ·) = _; rw [plains_map ts]; rfl
theorem relTs_of : ∀ {ds : List D} {ts : List T} {vs : List V}, plains ds = some ts → RelDs K W H ds vs → RelTs K W.F H ts vs
  | [], ts, vs, e, h => by cases e; exact h
  | .t x :: ds, ts, vs, e, h => by
    obtain ⟨v, r, rfl, a, b⟩ := h
    have e : (plains ds).map (x :: ·) = some ts := e
    cases q : plains ds with
    | none => (rw [q] at e; cases e)
    | some us =>
      rw [q] at e
      cases e
      exact ⟨v, r, rfl, a, relTs_of q b⟩
  | .r n :: ds, ts, vs, e, h => by cases e
  | .x .. :: ds, ts, vs, e, h => by cases e

/-! ### the three ways the heap moves -/
/-- a new thing that is no changed object -/
theorem Rl.more (R : Rl K W st H) {p : Addr} {o : HO} (hp : H p = none) : Ext W H W (upd H p o) := 
  ⟨List.prefix_refl _, fun _ h => .inl h, fun _ h => h, fun _ h => .inl h, fun a u h _ => by rw [upd_ne (ne_of_none h hp)]; exact h, fun a u h => ⟨u, by rw [upd_ne (ne_of_none h hp)]; exact h⟩⟩
theorem Rl.keep (R : Rl K W st H) (k : KeepT W.F H W1.F H1) (e : W1.ρ = W.ρ) (hk : ∀ a ∈ W.ρ, H1 a = H a) (hs : ∀ a ∈ W.ρ, ¬ W1.F a) (hf : ∀ a, W1.F a → ∃ xs, H1 a = some (.lst xs)) : Rl K W1 st H1 := by
  have pre : W.ρ <+: W1.ρ := by rw [e]; exact List.prefix_refl _
  refine ⟨by rw [e]; exact R.len, by rw [e]; exact R.nd, fun n a o h1 h2 => ?_, fun a ha => by rw [e] at ha; exact hs a ha, hf⟩
  rw [e] at h1
  have ha : a ∈ W.ρ := List.mem_of_getElem? h1
  have q := R.live n a o h1 h2
  cases o with
  | lst ds =>
    obtain ⟨vs, q1, q2⟩ := q
    exact ⟨vs, by rw [hk a ha]; exact q1, k.relDs pre q2⟩
theorem Rl.mono (R : Rl K W st H) (E : Ext W H W1 H1) (e : W1.ρ = W.ρ) (hk : ∀ a ∈ W.ρ, H1 a = H a) (hs : ∀ a ∈ W.ρ, ¬ W1.F a) (hf : ∀ a, W1.F a → ∃ xs, H1 a = some (.lst xs)) : Rl K W1 st H1 :=
  R.keep (E.kt R) e hk hs hf
theorem Rl.mem (R : Rl K W st H) {a : Addr} (ha : a ∈ W.ρ) : ∃ o, H a = some o := by
  obtain ⟨n, hn, e⟩ := List.getElem_of_mem ha
  have e1 : W.ρ[n]? = some a := by rw [List.getElem?_eq_getElem hn, e]
  have hn2 : n < st.length := by rw [← R.len]; exact hn
  have q := R.live n a st[n] e1 (List.getElem?_eq_getElem hn2)
  cases q' : st[n] with
  | lst ds => rw [q'] at q; obtain ⟨vs, e2, _⟩ := q; exact ⟨_, e2⟩
/-- a new tuple, or another new thing that nobody looks after -/
theorem Rl.rest (R : Rl K W st H) {p : Addr} {o : HO} (hp : H p = none) : Rl K W st (upd H p o) :=
  R.mono (R.more hp) rfl (fun a ha => by obtain ⟨u, e⟩ := R.mem ha; rw [upd_ne (ne_of_none e hp)]) R.sep fun a ha => by
    obtain ⟨xs, e⟩ := R.fz a ha
    exact ⟨xs, by rw [upd_ne (ne_of_none e hp)]; exact e⟩
/-- a new list that stays as it is -/
def Wd.fix (W : Wd) (p : Addr) : Wd := ⟨W.ρ, fun a => W.F a ∨ a = p⟩
theorem Ext.fix (W : Wd) {p : Addr} {o : HO} (hp : H p = none) : Ext W H (W.fix p) (upd H p o) :=
  ⟨List.prefix_refl _, fun _ h => .inl h, fun _ h => .inl h, fun a h => h.imp id fun e => by rw [e]; exact hp, fun a u h _ => by rw [upd_ne (ne_of_none h hp)]; exact h, fun a u h => ⟨u, by rw [upd_ne (ne_of_none h hp)]; exact h⟩⟩
theorem Rl.fix (R : Rl K W st H) {p : Addr} {xs : List V} (hp : H p = none) : Rl K (W.fix p) st (upd H p (.lst xs)) :=
  R.mono (Ext.fix W hp) rfl (fun a ha => by obtain ⟨u, e⟩ := R.mem ha; rw [upd_ne (ne_of_none e hp)])
    (fun a ha h => h.elim (R.sep a ha) fun e => by obtain ⟨u, q⟩ := R.mem ha; rw [e, hp] at q; cases q)
    fun a ha => by
      by_cases e : a = p
      · subst e; exact ⟨xs, upd_same⟩
      · obtain ⟨ys, q⟩ := R.fz a (ha.resolve_right e)
        exact ⟨ys, by rw [upd_ne e]; exact q⟩
/-- a new object that will be changed -/
def Wd.add (W : Wd) (p : Addr) : Wd := ⟨W.ρ ++ [p], W.F⟩
theorem Ext.add (W : Wd) {p : Addr} {o : HO} (hp : H p = none) : Ext W H (W.add p) (upd H p o) :=
  ⟨List.prefix_append _ _, fun a h => by
      (rcases List.mem_append.mp h with h | h)
      · exact .inl h
      · rw [List.mem_singleton] at h; subst h; exact .inr hp,
    fun _ h => h, fun _ h => .inl h, fun a u h _ => by rw [upd_ne (ne_of_none h hp)]; exact h, fun a u h => ⟨u, by rw [upd_ne (ne_of_none h hp)]; exact h⟩⟩
theorem Rl.add (R : Rl K W st H) {p : Addr} {ds : List D} {xs : List V} (hp : H p = none) (hr : RelDs K W H ds xs) : Rl K (W.add p) (st ++ [.lst ds]) (upd H p (.lst xs)) := by
  have E := Ext.add W (o := .lst xs) hp
  have np : p ∉ W.ρ := fun h => by obtain ⟨u, q⟩ := R.mem h; rw [hp] at q; cases q
  refine ⟨?_, ?_, fun n a o h1 h2 => ?_, fun a ha h => ?_, fun a ha => ?_⟩
  · show (W.ρ ++ [p]).length = (st ++ [SO.lst ds]).length
    rw [List.length_append, List.length_append, R.len]; rfl
  · show (W.ρ ++ [p]).Nodup
    rw [List.nodup_append]
    exact ⟨R.nd, by simp, fun a ha b hb e => by rw [List.mem_singleton] at hb; subst hb; subst e; exact np ha⟩
  · have h1 : (W.ρ ++ [p])[n]? = some a := h1
    by_cases hn : n < W.ρ.length
    · rw [List.getElem?_append_left hn] at h1
      rw [List.getElem?_append_left (by rw [← R.len]; exact hn)] at h2
      have q := R.live n a o h1 h2
      have ha : a ∈ W.ρ := List.mem_of_getElem? h1
      have ne : a ≠ p := fun e => np (e ▸ ha)
      cases o with
      | lst ds =>
        obtain ⟨vs, q1, q2⟩ := q
        exact ⟨vs, by rw [upd_ne ne]; exact q1, E.relDs R q2⟩
    · rw [List.getElem?_append_right (by omega)] at h1
      rw [List.getElem?_append_right (by rw [← R.len]; omega)] at h2
      have hz : n - W.ρ.length = 0 := by
        cases e : n - W.ρ.length with
        | zero => rfl
        | succ k => rw [e] at h1; simp at h1
      rw [hz] at h1
      rw [← R.len, hz] at h2
      have e1 : p = a := by simpa using h1
      have e2 : SO.lst ds = o := by simpa using h2
      subst e1; subst e2
      exact ⟨xs, upd_same, E.relDs R hr⟩
  · (rcases List.mem_append.mp ha with ha | ha)
    · exact R.sep a ha h
    · rw [List.mem_singleton] at ha
      subst ha
      obtain ⟨ys, q⟩ := R.fz a h
      rw [hp] at q; cases q
  · obtain ⟨ys, q⟩ := R.fz a ha
    exact ⟨ys, by rw [upd_ne (ne_of_none q hp)]; exact q⟩
/-- the n-th object changes -/
theorem Ext.put {n : Nat} {p : Addr} {o u : HO} (hn : W.ρ[n]? = some p) (ho : H p = some u) : Ext W H W (upd H p o) :=
  ⟨List.prefix_refl _, fun _ h => .inl h, fun _ h => h, fun _ h => .inl h, fun a v h hm => by rw [upd_ne (fun e => hm (by rw [e]; exact List.mem_of_getElem? hn))]; exact h,
    fun a v h => by
      by_cases e : a = p
      · subst e; exact ⟨o, upd_same⟩
      · exact ⟨v, by rw [upd_ne e]; exact h⟩⟩
theorem Rl.put (R : Rl K W st H) {n : Nat} {p : Addr} {ds ds' : List D} {xs xs' : List V} (hn : W.ρ[n]? = some p) (ho : H p = some (.lst xs)) (hr : RelDs K W H ds' xs') : Rl K W (st.set n (.lst ds')) (upd H p (.lst xs')) := by
  have E : Ext W H W (upd H p (.lst xs')) := Ext.put hn ho
  refine ⟨by rw [List.length_set]; exact R.len, R.nd, fun m a o h1 h2 => ?_, R.sep, fun a ha => ?_⟩
  · by_cases e : m = n
    · subst e
      rw [hn] at h1; cases h1
      have hl : m < st.length := by rw [← R.len]; exact (List.getElem?_eq_some_iff.mp hn).1
      rw [List.getElem?_set_self hl] at h2; cases h2
      exact ⟨xs', upd_same, E.relDs R hr⟩
    · rw [List.getElem?_set_ne (Ne.symm e)] at h2
      have ne : a ≠ p := fun z => by
        subst z
        obtain ⟨k1, e1⟩ := List.getElem?_eq_some_iff.mp h1
        obtain ⟨k2, e2⟩ := List.getElem?_eq_some_iff.mp hn
        exact e ((List.getElem_inj R.nd).mp (e1.trans e2.symm))
      have q := R.live m a o h1 h2
      cases o with
      | lst ds =>
        obtain ⟨vs, q1, q2⟩ := q
        exact ⟨vs, by rw [upd_ne ne]; exact q1, E.relDs R q2⟩
  · have ne : a ≠ p := fun z => by subst z; exact R.sep a (List.mem_of_getElem? hn) ha
    obtain ⟨ys, q⟩ := R.fz a ha
    exact ⟨ys, by rw [upd_ne ne]; exact q⟩
end
end Mi
/-! Mir1 -/
namespace Mi
open L2 PySem PySem.Spec PyProof.Rows

/-! ### results -/
abbrev Env := List (Option D)
structure EnvR (K : PySem.W.Frag) (W : Wd) (H : Hp) (env : Env) (σ : L2.St) : Prop where
  len : σ.length = env.length
  get : ∀ (i : Nat) (d : D), env[i]? = some (some d) → ∃ v, σ[i]? = some (some v) ∧ RelD K W H d v
inductive Res (α : Type) where
  | ok (a : α) (st : Sto) | exc (C : Addr) (fs : List (Str × T)) (st : Sto) | bad
def Res.bind {α β : Type} (r : Res α) (k : α → Sto → Res β) : Res β := match r with
  | .ok a st => k a st
  | .exc C fs st => .exc C fs st
  | .bad => .bad
def Res.Holds {α : Type} (r : Res α) (A : α → Sto → Prop) (B : Addr → List (Str × T) → Sto → Prop) : Prop := match r with
  | .ok a st => A a st
  | .exc C fs st => B C fs st
  | .bad => False
theorem split {α β : Type} {r : Res α} {k : α → Sto → Res β} {A : β → Sto → Prop} {A' : α → Sto → Prop} {B B' : Addr → List (Str × T) → Sto → Prop} (h : (r.bind k).Holds A B)
    (ha : ∀ a st, (k a st).Holds A B → A' a st) (hb : ∀ C fs st, B C fs st → B' C fs st) : r.Holds A' B' := by
  cases r with
  | ok a st => exact ha a st h
  | exc C fs st => exact hb C fs st h
  | bad => exact h
theorem Res.Holds.imp {α : Type} {r : Res α} {A A' : α → Sto → Prop} {B B' : Addr → List (Str × T) → Sto → Prop} (h : r.Holds A B)
    (ha : ∀ a st, A a st → A' a st) (hb : ∀ C fs st, B C fs st → B' C fs st) : r.Holds A' B' := by
  cases r with
  | ok a st => exact ha a st h
  | exc C fs st => exact hb C fs st h
  | bad => exact h
def optR {α : Type} (o : Option α) (st : Sto) : Res α := match o with
  | some a => .ok a st
  | none => .bad
def OkD (K : PySem.W.Frag) (W : Wd) (H : Hp) (Q : VK) (d : D) (st' : Sto) : Prop := ∀ W' H' v, Ext W H W' H' → Rl K W' st' H' → RelD K W' H' d v → Q v H'
def OkB (K : PySem.W.Frag) (W : Wd) (H : Hp) (Q : Bool → Hp → Prop) (b : Bool) (st' : Sto) : Prop := ∀ W' H', Ext W H W' H' → Rl K W' st' H' → Q b H'
def OkA (K : PySem.W.Frag) (W : Wd) (H : Hp) (Q : List V → Hp → Prop) (ds : List D) (st' : Sto) : Prop := ∀ W' H' vs, Ext W H W' H' → Rl K W' st' H' → RelDs K W' H' ds vs → Q vs H'
def OkX (K : PySem.W.Frag) (W : Wd) (H : Hp) (E : XK) (C : Addr) (fs : List (Str × T)) (st' : Sto) : Prop := ∀ W' H' o, Ext W H W' H' → Rl K W' st' H' → ExD K W' H' fs o → E (.ref C) o H'
section
variable {K : PySem.W.Frag} {W W1 : Wd} {H H1 : Hp} {st : Sto}
theorem OkX.mono {E : XK} {C : Addr} {fs : List (Str × T)} {st' : Sto} (h : OkX K W H E C fs st') (e : Ext W H W1 H1) : OkX K W1 H1 E C fs st' := fun W' H' o E' R' x => h W' H' o (e.trans E') R' x
theorem OkD.mono {Q : VK} {d : D} {st' : Sto} (h : OkD K W H Q d st') (e : Ext W H W1 H1) : OkD K W1 H1 Q d st' := fun W' H' o E' R' x => h W' H' o (e.trans E') R' x
theorem OkB.mono {Q : Bool → Hp → Prop} {b : Bool} {st' : Sto} (h : OkB K W H Q b st') (e : Ext W H W1 H1) : OkB K W1 H1 Q b st' := fun W' H' E' R' => h W' H' (e.trans E') R'
theorem OkA.mono {Q : List V → Hp → Prop} {b : List D} {st' : Sto} (h : OkA K W H Q b st') (e : Ext W H W1 H1) : OkA K W1 H1 Q b st' := fun W' H' vs E' R' x => h W' H' vs (e.trans E') R' x
theorem EnvR.mono {env : Env} {σ : L2.St} (h : EnvR K W H env σ) (e : Ext W H W1 H1) (R : Rl K W st H) : EnvR K W1 H1 env σ := ⟨h.len, fun i d q => by
  obtain ⟨v, e1, r⟩ := h.get i d q
  exact ⟨v, e1, e.relD R r⟩⟩
theorem EnvR.set {env : Env} {σ : L2.St} (h : EnvR K W H env σ) (i : Nat) {d : D} {v : V} (r : RelD K W H d v) : EnvR K W H (env.set i (some d)) (σ.set i (some v)) := by
  refine ⟨by rw [List.length_set, List.length_set]; exact h.len, fun j e q => ?_⟩
  by_cases hj : i = j
  · subst hj
    have hl : i < env.length := by
      have := (List.getElem?_eq_some_iff.mp q).1
      rwa [List.length_set] at this
    rw [List.getElem?_set_self hl] at q
    cases q
    exact ⟨v, List.getElem?_set_self (by rw [h.len]; exact hl), r⟩
  · rw [List.getElem?_set_ne hj] at q
    obtain ⟨u, e1, r1⟩ := h.get j e q
    exact ⟨u, by rw [List.getElem?_set_ne hj]; exact e1, r1⟩
end

/-! ### the judgements: a piece of code does what the function says -/
def tE (K : PySem.W.Frag) (Wx : WX) (f : Env → Sto → Res D) : TE := fun σ H Q => ∃ W env st, Rl K W st H ∧ EnvR K W H env σ ∧ (f env st).Holds (OkD K W H Q) (OkX K W H fun c o H' => Wx c o σ H')
def tT (K : PySem.W.Frag) (Wx : WX) (f : Env → Sto → Res Bool) : TT := fun σ H Q => ∃ W env st, Rl K W st H ∧ EnvR K W H env σ ∧ (f env st).Holds (OkB K W H Q) (OkX K W H fun c o H' => Wx c o σ H')
def tA (K : PySem.W.Frag) (Wx : WX) (f : Env → Sto → Res (List D)) : TA := fun σ H Q => ∃ W env st, Rl K W st H ∧ EnvR K W H env σ ∧ (f env st).Holds (OkA K W H Q) (OkX K W H fun c o H' => Wx c o σ H')
abbrev RE (X : Cx) (Wx : WX) (e : Expr) (f : Env → Sto → Res D) : Prop := PE X e (tE X.K Wx f)
abbrev RT (X : Cx) (Wx : WX) (e : Expr) (f : Env → Sto → Res Bool) : Prop := PT X e (tT X.K Wx f)
abbrev RWt (X : Cx) (Wx : WX) (e : Expr) (f : Env → Sto → Res Bool) : Prop := PW X e (tT X.K Wx f)
abbrev RA (X : Cx) (Wx : WX) (es : List Expr) (f : Env → Sto → Res (List D)) : Prop := PA X es (tA X.K Wx f)

section
variable {X : Cx} {Wx : WX} {a b c e : Expr} {fa fb fc f : Env → Sto → Res D} {pos : Pos}
theorem PE.conv {e : Expr} {t t' : TE} (h : PE X e t) (g : ∀ σ H Q, t' σ H Q → t σ H Q) : PE X e t' := ⟨fun pins s σ H Q I q => h.run pins s σ H Q I (g σ H Q q)⟩
theorem PT.conv {e : Expr} {t t' : TT} (h : PT X e t) (g : ∀ σ H Q, t' σ H Q → t σ H Q) : PT X e t' := ⟨fun pins s σ H Q I q => h.run pins s σ H Q I (g σ H Q q)⟩
theorem PW.conv {e : Expr} {t t' : TT} (h : PW X e t) (g : ∀ σ H Q, t' σ H Q → t σ H Q) : PW X e t' := ⟨fun wh pins s σ H Q I q => h.run wh pins s σ H Q I (g σ H Q q)⟩
theorem PA.conv {e : List Expr} {t t' : TA} (h : PA X e t) (g : ∀ σ H Q, t' σ H Q → t σ H Q) : PA X e t' := ⟨fun pos pins s σ H Q I q => h.run pos pins s σ H Q I (g σ H Q q)⟩

/-! ### names, constants -/
def eVar (i : Nat) (env : Env) (st : Sto) : Res D := match env[i]? with
  | some (some d) => .ok d st
  | _ => .bad
def eC (t : T) (_ : Env) (st : Sto) : Res D := .ok (.t t) st
theorem re_var (i : Nat) {x : Str} {pos : Pos} (hN : X.N[i]? = some x := by rfl) (hv : Vis X.env.scope x := by first | exact Or.inl rfl | exact Or.inr (Or.inl rfl) | exact Or.inr (Or.inr rfl)) (hd : (x == ("__debug__" : Str)) = false := by decide)
    (hcd : (x == ("__classdict__" : Str)) = false := by decide) : RE X Wx (.Name x pos) (eVar i) := by
  refine PE.conv (pe_var hN hv hd hcd) fun σ H Q ⟨W, env, st, R, Ev, h⟩ => ?_
  unfold eVar at h
  split at h
  · rename_i d q
    obtain ⟨v, e1, r⟩ := Ev.get i d q
    exact ⟨v, e1, h W H v .refl R r⟩
  · exact h.elim
theorem re_const {v : V} {t : T} (h : PE X e (tC v)) (r : ∀ F H, RelT X.K F H t v) : RE X Wx e (eC t) := by
  refine PE.conv h fun σ H Q ⟨W, env, st, R, Ev, h⟩ => ?_
  exact h W H v .refl R (r _ _)
theorem re_int {i j pos} : RE X Wx (.Constant (.int i) j pos) (eC (.int i)) := re_const pe_int fun _ _ => rfl
theorem re_bl {b j pos} : RE X Wx (.Constant (.bool b) j pos) (eC (.bl b)) := re_const pe_bl fun _ _ => rfl
theorem re_non {j pos} : RE X Wx (.Constant .none j pos) (eC .non) := re_const pe_non fun _ _ => rfl
theorem re_str {x j pos} : RE X Wx (.Constant (.str x) j pos) (eC (.str x)) := re_const pe_str fun _ _ => rfl
/-- a constant of the module -/
theorem re_glob {x : Str} {v : V} {u : Value} {t : T} {pos : Pos} (hg : Gl X x) (hm : X.mg x = some u) (r : RelV v u) (q : ∀ F H, RelT X.K F H t v) (hd : (x == ("__debug__" : Str)) = false := by decide) : RE X Wx (.Name x pos) (eC t) :=
  re_const (pe_glob hg hm r hd) q
theorem re_bltn {x : Str} {n : String} {pos : Pos} (hg : Gl X x) (hm : X.mg x = none) (hv : bootBuiltins x = some (.type n)) (hn : x ≠ "__name__" := by decide) (hd : (x == ("__debug__" : Str)) = false := by decide) : RE X Wx (.Name x pos) (eC (.ty n)) :=
  re_const (pe_bltn (v := .ty n) hg hm hv rfl hn hd) fun _ _ => rfl

/-! ### operators by values -/
def rM (K : PySem.W.Frag) (g : D → D → Sto → Option D) : R2 := fun x y H Q => ∃ W st d e, Rl K W st H ∧ RelD K W H d x ∧ RelD K W H e y ∧ ∃ z, g d e st = some z ∧ OkD K W H Q z st
def bin (g : D → D → Sto → Option D) (fa fb : Env → Sto → Res D) (env : Env) (st : Sto) : Res D := (fa env st).bind fun x st1 => (fb env st1).bind fun y st2 => optR (g x y st2) st2
theorem optR_holds {α : Type} {o : Option α} {st : Sto} {A : α → Sto → Prop} {B : Addr → List (Str × T) → Sto → Prop} (h : (optR o st).Holds A B) : ∃ z, o = some z ∧ A z st := by
  cases o with
  | none => exact h.elim
  | some z => exact ⟨z, rfl, h⟩
theorem two {K : PySem.W.Frag} {g : D → D → Sto → Option D} {σ : L2.St} {H : Hp} {Q : VK} (h : tE K Wx (bin g fa fb) σ H Q) : tOp (rM K g) (tE K Wx fa) (tE K Wx fb) σ H Q := by
  obtain ⟨W, env, st, R, Ev, h⟩ := h
  refine ⟨W, env, st, R, Ev, split h (fun d1 st1 h1 W1 H1 v E1 R1 r1 => ⟨W1, env, st1, R1, Ev.mono E1 R, split h1 (fun d2 st2 h2 W2 H2 w E2 R2 r2 => ?_) fun C fs st' hx => hx.mono E1⟩) fun C fs st' hx => hx⟩
  obtain ⟨z, e1, q⟩ := optR_holds h2
  exact ⟨W2, st2, d1, d2, R2, E2.relD R1 r1, r2, z, e1, q.mono (E1.trans E2)⟩
theorem re_op {op : Operator} {g : D → D → Sto → Option D} (ho : OpR X (binaryOp op) (rM X.K g)) (ha : RE X Wx a fa) (hb : RE X Wx b fb) : RE X Wx (.BinOp a op b pos) (bin g fa fb) :=
  PE.conv (pe_op ho ha hb) fun _ _ _ h => two h
theorem re_cmp {op : CmpOp} {g : D → D → Sto → Option D} (ho : OpR X (compareOp op) (rM X.K g)) (ha : RE X Wx a fa) (hb : RE X Wx b fb) (hm : behindInMarks op b = false) : RE X Wx (.Compare a [op] [b] pos) (bin g fa fb) :=
  PE.conv (pe_cmpR ho ha hb hm) fun _ _ _ h => two h
/-- what is a truth value -/
def blOf (r : Res D) : Res Bool := r.bind fun d st => match d with
  | .t (.bl b) => .ok b st
  | _ => .bad
theorem rt_cmp {op : CmpOp} {g : D → D → Sto → Option D} (ho : OpR X (compareOp op) (rM X.K g)) (ha : RE X Wx a fa) (hb : RE X Wx b fb) (hm : behindInMarks op b = false) : RT X Wx (.Compare a [op] [b] pos) (fun env st => blOf (bin g fa fb env st)) := by
  refine PT.conv (pt_cmpR ho ha hb hm) fun σ H Q ⟨W, env, st, R, Ev, h⟩ => two ⟨W, env, st, R, Ev, split h (fun d st1 h1 W1 H1 v E1 R1 r1 => ?_) fun C fs st' hx => hx⟩
  split at h1
  · rename_i b
    have r1 : v = .bl b := r1
    exact ⟨b, r1, h1 W1 H1 E1 R1⟩
  · exact h1.elim
/-- a < b < c -/
def chain (g g' : D → D → Sto → Option D) (fa fb fc : Env → Sto → Res D) (env : Env) (st : Sto) : Res D := (fa env st).bind fun x st1 => (fb env st1).bind fun y st2 => (blOf (optR (g x y st2) st2)).bind fun k st3 =>
  if k = true then (fc env st3).bind fun z st4 => optR (g' y z st4) st4 else .ok (.t (.bl false)) st3
theorem three {K : PySem.W.Frag} {g g' : D → D → Sto → Option D} {σ : L2.St} {H : Hp} {Q : VK} (h : tE K Wx (chain g g' fa fb fc) σ H Q) : tChain (rM K g) (rM K g') (tE K Wx fa) (tE K Wx fb) (tE K Wx fc) σ H Q := by
  obtain ⟨W, env, st, R, Ev, h⟩ := h
  refine ⟨W, env, st, R, Ev, split h (fun d1 st1 h1 W1 H1 v E1 R1 r1 => ⟨W1, env, st1, R1, Ev.mono E1 R, split h1 (fun d2 st2 h2 W2 H2 w E2 R2 r2 => ?_) fun C fs st' hx => hx.mono E1⟩) fun C fs st' hx => hx⟩
  cases e1 : g d1 d2 st2 with
  | none => rw [e1] at h2; exact h2.elim
  | some z =>
    rw [e1] at h2
    cases z with
    | r n => exact h2.elim
    | x => exact h2.elim
    | t x =>
      cases x with
      | bl k =>
        refine ⟨W2, st2, d1, d2, R2, E2.relD R1 r1, r2, _, e1, fun W3 H3 u E3 R3 r3 => ⟨k, r3, ?_⟩⟩
        cases k with
        | false => exact ite_ff (h2 W3 H3 _ (E1.trans (E2.trans E3)) R3 rfl)
        | true =>
          refine ite_tt ⟨W3, env, st2, R3, (Ev.mono E1 R).mono (E2.trans E3) R1, split h2 (fun d4 st4 h4 W4 H4 w4 E4 R4 r4 => ?_) fun C fs st' hx => hx.mono (E1.trans (E2.trans E3))⟩
          obtain ⟨z, e4, q⟩ := optR_holds h4
          exact ⟨W4, st4, d2, d4, R4, (E3.trans E4).relD R2 r2, r4, z, e4, q.mono (E1.trans (E2.trans (E3.trans E4)))⟩
      | _ => exact h2.elim
theorem re_chain {op op' : CmpOp} {g g' : D → D → Sto → Option D} (ho : OpR X (compareOp op) (rM X.K g)) (ho' : OpR X (compareOp op') (rM X.K g')) (ha : RE X Wx a fa) (hb : RE X Wx b fb) (hc : RE X Wx c fc)
    (hm : lastMarks [op, op'] [b, c] = false := by with_unfolding_all rfl) : RE X Wx (.Compare a [op, op'] [b, c] pos) (chain g g' fa fb fc) := PE.conv (pe_chain ho ho' ha hb hc hm) fun _ _ _ h => three h
theorem rt_chain {op op' : CmpOp} {g g' : D → D → Sto → Option D} (ho : OpR X (compareOp op) (rM X.K g)) (ho' : OpR X (compareOp op') (rM X.K g')) (ha : RE X Wx a fa) (hb : RE X Wx b fb) (hc : RE X Wx c fc)
    (hm : lastMarks [op, op'] [b, c] = false := by with_unfolding_all rfl) : RT X Wx (.Compare a [op, op'] [b, c] pos) (fun env st => blOf (chain g g' fa fb fc env st)) := by
  refine PT.conv (pt_chain ho ho' ha hb hc hm) fun σ H Q ⟨W, env, st, R, Ev, h⟩ => three ⟨W, env, st, R, Ev, split h (fun d st1 h1 W1 H1 v E1 R1 r1 => ?_) fun C fs st' hx => hx⟩
  split at h1
  · rename_i b
    have r1 : v = .bl b := r1
    exact ⟨b, r1, h1 W1 H1 E1 R1⟩
  · exact h1.elim
def un (g : D → Sto → Option D) (fa : Env → Sto → Res D) (env : Env) (st : Sto) : Res D := (fa env st).bind fun x st1 => optR (g x st1) st1
def rMu (K : PySem.W.Frag) (g : D → Sto → Option D) : V → Hp → VK → Prop := fun x H Q => ∃ W st d, Rl K W st H ∧ RelD K W H d x ∧ ∃ z, g d st = some z ∧ OkD K W H Q z st
theorem re_un {op : UnaryOp} {g : D → Sto → Option D} (ho : UnR X (unaryOp op) (rMu X.K g)) (ha : RE X Wx a fa) : RE X Wx (.UnaryOp op a pos) (un g fa) := by
  refine PE.conv (pe_un ho ha) fun σ H Q ⟨W, env, st, R, Ev, h⟩ => ⟨W, env, st, R, Ev, split h (fun d st1 h1 W1 H1 v E1 R1 r1 => ?_) fun C fs st' hx => hx⟩
  obtain ⟨z, e1, q⟩ := optR_holds h1
  exact ⟨W1, st1, d, R1, r1, z, e1, q.mono E1⟩

/-! ### truth -/
/-- the items of a sequence -/
def items (st : Sto) : D → Option (List D)
  | .t (.tup ts) => some (ts.map .t)
  | .t (.lst ts) => some (ts.map .t)
  | .t (.scr ts) => some (ts.map .t)
  | .t _ => none
  | .x .. => none
  | .r n => match st[n]? with
    | some (.lst ds) => some ds
    | none => none
theorem items_len {st : Sto} {d : D} {ds : List D} (h : items st d = some ds) : True := trivial
/-- what the items say of the heap -/
theorem items_seq {K : PySem.W.Frag} {W : Wd} {H : Hp} {st : Sto} (R : Rl K W st H) {d : D} {ds : List D} {v : V} (h : items st d = some ds) (r : RelD K W H d v) : ∃ a vs, v = .ref a ∧ (SqL K H a vs ∨ SqT K H a vs) ∧ RelDs K W H ds vs := by
  cases d with
  | t x =>
    cases x with
    | tup ts =>
      cases h
      obtain ⟨a, vs, e, q, r⟩ := r
      exact ⟨a, vs, e, .inr q.sq, relDs_t r⟩
    | lst ts =>
      cases h
      obtain ⟨a, vs, e, f, q, r⟩ := r
      exact ⟨a, vs, e, .inl (SqL.of q), relDs_t r⟩
    | scr ts =>
      cases h
      obtain ⟨a, vs, e, q, r⟩ := r
      exact ⟨a, vs, e, .inl q.sq, relDs_t r⟩
    | _ => cases h
  | x => cases h
  | r n =>
    obtain ⟨a, e, rfl⟩ := r
    have h : (match st[n]? with | some (.lst ds) => some ds | none => none) = some ds := h
    split at h
    · rename_i ds' q
      cases h
      obtain ⟨vs, q1, q2⟩ := R.live n a _ e q
      exact ⟨a, vs, rfl, .inl (SqL.of q1), q2⟩
    · cases h
def LIM : Nat := 1000000
theorem lim_size {n : Nat} (h : n ≤ LIM) : n ≤ sizeLine := by rw [sizeLine_eq]; unfold LIM at h; omega
theorem lim_lt {n : Nat} (h : n ≤ LIM) : n < sizeLine := by rw [sizeLine_eq]; unfold LIM at h; omega
def tru (st : Sto) (d : D) : Option Bool := match d with
  | .t .non => some false
  | .t (.bl b) => some b
  | .t (.int i) => some (i != 0)
  | .t (.str x) => if x.length ≤ LIM then some ((x.length : Int) != 0) else none
  | d => (items st d).map fun ds => !ds.isEmpty
theorem isEmpty_rel {K : PySem.W.Frag} {W : Wd} {H : Hp} {ds : List D} {vs : List V} (r : RelDs K W H ds vs) : (!ds.isEmpty) = !vs.isEmpty := by
  have e := relDs_len r
  cases ds <;> cases vs <;> simp at e ⊢
theorem tru_rel {K : PySem.W.Frag} {W : Wd} {H : Hp} {st : Sto} (R : Rl K W st H) {d : D} {v : V} {k : Bool} (h : tru st d = some k) (r : RelD K W H d v) : TruV K v H k := by
  have seq : ∀ d, (items st d).map (fun ds => !ds.isEmpty) = some k → RelD K W H d v → TruV K v H k := fun d h r => by
    cases q : items st d with
    | none => rw [q] at h; cases h
    | some ds =>
      rw [q] at h
      obtain ⟨a, vs, e, s, rr⟩ := items_seq R q r
      subst e
      have h : (!ds.isEmpty) = k := Option.some.inj h
      rcases s with s | s
      · exact .inl ⟨vs, s, by rw [← h]; exact isEmpty_rel rr⟩
      · exact .inr (.inl ⟨vs, s, by rw [← h]; exact isEmpty_rel rr⟩)
  cases d with
  | r n => exact seq _ h r
  | x => cases h
  | t x =>
    cases x with
    | non => cases r; exact (Option.some.inj h).symm
    | bl b => cases r; exact (Option.some.inj h).symm
    | int i => cases r; exact (Option.some.inj h).symm
    | str x =>
      cases r
      have h : (if x.length ≤ LIM then some ((x.length : Int) != 0) else none) = some k := h
      split at h
      · rename_i hl; exact ⟨lim_size hl, (Option.some.inj h).symm⟩
      · cases h
    | tup ts => exact seq (.t (.tup ts)) h r
    | lst ts => exact seq (.t (.lst ts)) h r
    | scr ts => exact seq (.t (.scr ts)) h r
    | glb a => cases h
    | ty n => cases h
def truM (f : Env → Sto → Res D) (env : Env) (st : Sto) : Res Bool := (f env st).bind fun d st1 => optR (tru st1 d) st1
theorem rt_val (h : RE X Wx e f) (he : ∀ whole, isTrue e X.env whole = (do let v ← whole; standAt e.pos; holding [v] (truthy v)) := by intro _; rfl) : RT X Wx e (truM f) := by
  refine PT.conv (pt_truth h he) fun σ H Q ⟨W, env, st, R, Ev, h⟩ => ⟨W, env, st, R, Ev, split h (fun d st1 h1 W1 H1 v E1 R1 r1 => ?_) fun C fs st' hx => hx⟩
  obtain ⟨k, e1, q⟩ := optR_holds h1
  exact ⟨k, tru_rel R1 e1 r1, q W1 H1 E1 R1⟩

/-! ### and, or, not -/
section
variable {ga gb : Env → Sto → Res Bool} {rest : List Expr}
def andM (ga gb : Env → Sto → Res Bool) (env : Env) (st : Sto) : Res Bool := (ga env st).bind fun k st1 => if k = true then gb env st1 else .ok false st1
def orM (ga gb : Env → Sto → Res Bool) (env : Env) (st : Sto) : Res Bool := (ga env st).bind fun k st1 => if k = true then .ok true st1 else gb env st1
def notM (ga : Env → Sto → Res Bool) (env : Env) (st : Sto) : Res Bool := (ga env st).bind fun k st1 => .ok (!k) st1
theorem rw_and1 (ha : RT X Wx a ga) : RWt X Wx (.BoolOp .And [a] pos) ga := pw_and1 ha
theorem rw_or1 (ha : RT X Wx a ga) : RWt X Wx (.BoolOp .Or [a] pos) ga := pw_or1 ha
theorem rw_and (ha : RT X Wx a ga) (hb : RWt X Wx (.BoolOp .And (b :: rest) pos) gb) : RWt X Wx (.BoolOp .And (a :: b :: rest) pos) (andM ga gb) := by
  refine PW.conv (pw_and ha hb) fun σ H Q ⟨W, env, st, R, Ev, h⟩ => ⟨W, env, st, R, Ev, split h (fun k st1 h1 W1 H1 E1 R1 => ?_) fun C fs st' hx => hx⟩
  cases k with
  | true => exact ite_tt ⟨W1, env, st1, R1, Ev.mono E1 R, Res.Holds.imp h1 (fun _ _ q => q.mono E1) fun _ _ _ q => q.mono E1⟩
  | false => exact ite_ff (h1 W1 H1 E1 R1)
theorem rw_or (ha : RT X Wx a ga) (hb : RWt X Wx (.BoolOp .Or (b :: rest) pos) gb) : RWt X Wx (.BoolOp .Or (a :: b :: rest) pos) (orM ga gb) := by
  refine PW.conv (pw_or ha hb) fun σ H Q ⟨W, env, st, R, Ev, h⟩ => ⟨W, env, st, R, Ev, split h (fun k st1 h1 W1 H1 E1 R1 => ?_) fun C fs st' hx => hx⟩
  cases k with
  | false => exact ite_ff ⟨W1, env, st1, R1, Ev.mono E1 R, Res.Holds.imp h1 (fun _ _ q => q.mono E1) fun _ _ _ q => q.mono E1⟩
  | true => exact ite_tt (h1 W1 H1 E1 R1)
theorem rt_not (ha : RT X Wx a ga) : RT X Wx (.UnaryOp .Not a pos) (notM ga) := by
  refine PT.conv (pt_not ha) fun σ H Q ⟨W, env, st, R, Ev, h⟩ => ⟨W, env, st, R, Ev, split h (fun k st1 h1 W1 H1 E1 R1 => ?_) fun C fs st' hx => hx⟩
  exact h1 W1 H1 E1 R1
/-- as values -/
def andV (fa fb : Env → Sto → Res D) (env : Env) (st : Sto) : Res D := (fa env st).bind fun d st1 => (optR (tru st1 d) st1).bind fun k st2 => if k = true then fb env st2 else .ok d st2
def orV (fa fb : Env → Sto → Res D) (env : Env) (st : Sto) : Res D := (fa env st).bind fun d st1 => (optR (tru st1 d) st1).bind fun k st2 => if k = true then .ok d st2 else fb env st2
def notV (fa : Env → Sto → Res D) (env : Env) (st : Sto) : Res D := (fa env st).bind fun d st1 => (optR (tru st1 d) st1).bind fun k st2 => .ok (.t (.bl (!k))) st2
theorem re_one {op} (ha : RE X Wx a fa) : RE X Wx (.BoolOp op [a] pos) fa := pe_one ha
theorem re_and (ha : RE X Wx a fa) (hb : RE X Wx (.BoolOp .And (b :: rest) pos) fb) : RE X Wx (.BoolOp .And (a :: b :: rest) pos) (andV fa fb) := by
  refine PE.conv (pe_andT ha hb) fun σ H Q ⟨W, env, st, R, Ev, h⟩ => ⟨W, env, st, R, Ev, split h (fun d st1 h1 W1 H1 v E1 R1 r1 => ?_) fun C fs st' hx => hx⟩
  obtain ⟨k, e1, q⟩ := optR_holds (split (r := optR (tru st1 d) st1) h1 (A' := fun k s => (if k = true then fb env s else Res.ok d s).Holds _ _) (B' := fun _ _ _ => True) (fun _ _ q => q) fun _ _ _ _ => trivial)
  refine ⟨k, tru_rel R1 e1 r1, ?_⟩
  cases k with
  | true => exact ite_tt ⟨W1, env, st1, R1, Ev.mono E1 R, Res.Holds.imp q (fun _ _ q => q.mono E1) fun _ _ _ q => q.mono E1⟩
  | false => exact ite_ff (q W1 H1 v E1 R1 r1)
theorem re_or (ha : RE X Wx a fa) (hb : RE X Wx (.BoolOp .Or (b :: rest) pos) fb) : RE X Wx (.BoolOp .Or (a :: b :: rest) pos) (orV fa fb) := by
  refine PE.conv (pe_orT ha hb) fun σ H Q ⟨W, env, st, R, Ev, h⟩ => ⟨W, env, st, R, Ev, split h (fun d st1 h1 W1 H1 v E1 R1 r1 => ?_) fun C fs st' hx => hx⟩
  obtain ⟨k, e1, q⟩ := optR_holds (split (r := optR (tru st1 d) st1) h1 (A' := fun k s => (if k = true then Res.ok d s else fb env s).Holds _ _) (B' := fun _ _ _ => True) (fun _ _ q => q) fun _ _ _ _ => trivial)
  refine ⟨k, tru_rel R1 e1 r1, ?_⟩
  cases k with
  | false => exact ite_ff ⟨W1, env, st1, R1, Ev.mono E1 R, Res.Holds.imp q (fun _ _ q => q.mono E1) fun _ _ _ q => q.mono E1⟩
  | true => exact ite_tt (q W1 H1 v E1 R1 r1)
theorem re_not (ha : RE X Wx a fa) : RE X Wx (.UnaryOp .Not a pos) (notV fa) := by
  refine PE.conv (pe_notT ha) fun σ H Q ⟨W, env, st, R, Ev, h⟩ => ⟨W, env, st, R, Ev, split h (fun d st1 h1 W1 H1 v E1 R1 r1 => ?_) fun C fs st' hx => hx⟩
  obtain ⟨k, e1, q⟩ := optR_holds (split (r := optR (tru st1 d) st1) h1 (A' := fun k s => (Res.ok (D.t (.bl (!k))) s).Holds _ _) (B' := fun _ _ _ => True) (fun _ _ q => q) fun _ _ _ _ => trivial)
  exact ⟨k, tru_rel R1 e1 r1, q W1 H1 _ E1 R1 rfl⟩
def ifE (g : Env → Sto → Res Bool) (fa fb : Env → Sto → Res D) (env : Env) (st : Sto) : Res D := (g env st).bind fun k st1 => if k = true then fa env st1 else fb env st1
theorem re_if (hc : RT X Wx c ga) (ha : RE X Wx a fa) (hb : RE X Wx b fb) : RE X Wx (.IfExp c a b pos) (ifE ga fa fb) := by
  refine PE.conv (pe_ifExp hc ha hb) fun σ H Q ⟨W, env, st, R, Ev, h⟩ => ⟨W, env, st, R, Ev, split h (fun k st1 h1 W1 H1 E1 R1 => ?_) fun C fs st' hx => hx⟩
  cases k with
  | true => exact ite_tt ⟨W1, env, st1, R1, Ev.mono E1 R, Res.Holds.imp h1 (fun _ _ q => q.mono E1) fun _ _ _ q => q.mono E1⟩
  | false => exact ite_ff ⟨W1, env, st1, R1, Ev.mono E1 R, Res.Holds.imp h1 (fun _ _ q => q.mono E1) fun _ _ _ q => q.mono E1⟩
end

/-! ### argument lists, displays -/
def argsM : List (Env → Sto → Res D) → Env → Sto → Res (List D)
  | [], _, st => .ok [] st
  | f :: fs, env, st => (f env st).bind fun d st1 => (argsM fs env st1).bind fun ds st2 => .ok (d :: ds) st2
theorem ra_nil : RA X Wx [] (argsM []) := PA.conv pa_nil fun σ H Q ⟨W, env, st, R, Ev, h⟩ => h W H [] .refl R rfl
theorem ra_cons {es : List Expr} {fs : List (Env → Sto → Res D)} (ha : RE X Wx e f) (hr : RA X Wx es (argsM fs)) (hs : starEach (e :: es) X.env = (false, eval e X.env) :: starEach es X.env := by rfl) : RA X Wx (e :: es) (argsM (f :: fs)) := by
  refine PA.conv (pa_cons ha hr hs) fun σ H Q ⟨W, env, st, R, Ev, h⟩ => ⟨W, env, st, R, Ev, split h (fun d st1 h1 W1 H1 v E1 R1 r1 => ?_) fun C fs st' hx => hx⟩
  refine ⟨W1, env, st1, R1, Ev.mono E1 R, split h1 (fun ds st2 h2 W2 H2 vs E2 R2 r2 => ?_) fun C fs st' hx => hx.mono E1⟩
  exact h2 W2 H2 (v :: vs) (E1.trans E2) R2 ⟨v, vs, rfl, E2.relD R1 r1, r2⟩
theorem argsM_len {env : Env} : ∀ {fs : List (Env → Sto → Res D)} {st st' : Sto} {ds : List D}, argsM fs env st = .ok ds st' → ds.length = fs.length
  | [], st, st', ds, h => by cases h; rfl
  | f :: fs, st, st', ds, h => by
    unfold argsM at h
    cases e1 : f env st with
    | ok d st1 =>
      rw [e1] at h
      have h : (argsM fs env st1).bind (fun ds st2 => Res.ok (d :: ds) st2) = .ok ds st' := h
      cases e2 : argsM fs env st1 with
      | ok ds2 st2 =>
        rw [e2] at h
        cases h
        show ds2.length + 1 = fs.length + 1
        rw [argsM_len e2]
      | exc C x s => rw [e2] at h; cases h
      | bad => rw [e2] at h; cases h
    | exc C x s => rw [e1] at h; cases h
    | bad => rw [e1] at h; cases h
def tupM (fs : List (Env → Sto → Res D)) (env : Env) (st : Sto) : Res D := (argsM fs env st).bind fun ds st1 => optR ((plains ds).map fun ts => .t (.tup ts)) st1
def lstM (fs : List (Env → Sto → Res D)) (env : Env) (st : Sto) : Res D := (argsM fs env st).bind fun ds st1 => optR ((plains ds).map fun ts => .t (.lst ts)) st1
/-- a list that will be changed -/
def newM (fs : List (Env → Sto → Res D)) (env : Env) (st : Sto) : Res D := (argsM fs env st).bind fun ds st1 => .ok (.r st1.length) (st1 ++ [.lst ds])
theorem splitA {α β : Type} {r : Res α} {k : α → Sto → Res β} {A : β → Sto → Prop} {A' : α → Sto → Prop} {B B' : Addr → List (Str × T) → Sto → Prop} (h : (r.bind k).Holds A B)
    (ha : ∀ a st, r = .ok a st → (k a st).Holds A B → A' a st) (hb : ∀ C fs st, B C fs st → B' C fs st) : r.Holds A' B' := by
  cases r with
  | ok a st => exact ha a st rfl h
  | exc C fs st => exact hb C fs st h
  | bad => exact h
theorem re_tup {es : List Expr} {fs : List (Env → Sto → Res D)} {x1} (h : RA X Wx es (argsM fs)) (hl : fs.length ≤ 1000 := by decide) : RE X Wx (.Tuple es x1 pos) (tupM fs) := by
  refine PE.conv (pe_tup h) fun σ H Q ⟨W, env, st, R, Ev, h⟩ => ⟨W, env, st, R, Ev, splitA h (fun ds st1 e0 h1 W1 H1 vs E1 R1 r1 => ?_) fun C fs st' hx => hx⟩
  obtain ⟨z, e1, q⟩ := optR_holds h1
  cases e2 : plains ds with
  | none => rw [e2] at e1; cases e1
  | some ts =>
    rw [e2] at e1
    cases e1
    have l1 := relDs_len r1
    have l2 := argsM_len e0
    refine ⟨Nat.le_of_lt (small1000 (by omega)), fun p hp => ?_⟩
    exact q W1 _ _ (E1.trans (R1.more hp)) (R1.rest hp) ⟨p, vs, rfl, Or.inl upd_same, (R1.more hp).relTs R1 _ _ (relTs_of e2 r1)⟩
theorem re_lst {es : List Expr} {fs : List (Env → Sto → Res D)} (h : RA X Wx es (argsM fs)) (hl : fs.length ≤ 1000 := by decide) : RE X Wx (.List es pos) (lstM fs) := by
  refine PE.conv (pe_lst h) fun σ H Q ⟨W, env, st, R, Ev, h⟩ => ⟨W, env, st, R, Ev, splitA h (fun ds st1 e0 h1 W1 H1 vs E1 R1 r1 => ?_) fun C fs st' hx => hx⟩
  obtain ⟨z, e1, q⟩ := optR_holds h1
  cases e2 : plains ds with
  | none => rw [e2] at e1; cases e1
  | some ts =>
    rw [e2] at e1
    cases e1
    have l1 := relDs_len r1
    have l2 := argsM_len e0
    refine ⟨Nat.le_of_lt (small1000 (by omega)), fun p hp => ?_⟩
    exact q (W1.fix p) _ _ (E1.trans (Ext.fix W1 hp)) (R1.fix hp) ⟨p, vs, rfl, .inr rfl, upd_same, (Ext.fix W1 hp).relTs R1 _ _ (relTs_of e2 r1)⟩
theorem re_new {es : List Expr} {fs : List (Env → Sto → Res D)} (h : RA X Wx es (argsM fs)) (hl : fs.length ≤ 1000 := by decide) : RE X Wx (.List es pos) (newM fs) := by
  refine PE.conv (pe_lst h) fun σ H Q ⟨W, env, st, R, Ev, h⟩ => ⟨W, env, st, R, Ev, splitA h (fun ds st1 e0 h1 W1 H1 vs E1 R1 r1 => ?_) fun C fs st' hx => hx⟩
  have l1 := relDs_len r1
  have l2 := argsM_len e0
  refine ⟨Nat.le_of_lt (small1000 (by omega)), fun p hp => ?_⟩
  exact h1 (W1.add p) _ _ (E1.trans (Ext.add W1 hp)) (R1.add hp r1) ⟨p, by
    show (W1.ρ ++ [p])[st1.length]? = some p
    rw [← R1.len, List.getElem?_append_right (Nat.le_refl _), Nat.sub_self]; rfl, rfl⟩
end
end Mi
/-! Mir2 -/
namespace Mi
open L2 PySem PySem.Spec PyProof.Rows

/-! ### statements -/
inductive Out where
  | nx (env : Env) (st : Sto) | rt (d : D) (st : Sto) | bk (env : Env) (st : Sto) | ct (env : Env) (st : Sto) | exc (C : Addr) (fs : List (Str × T)) (env : Env) (st : Sto) | bad
def Out.Holds (K : PySem.W.Frag) (Wx : WX) (E : Ends) (W : Wd) (H : Hp) : Out → Prop
  | .nx env st => ∀ W' σ' H', Ext W H W' H' → Rl K W' st H' → EnvR K W' H' env σ' → E.nx σ' H'
  | .rt d st => OkD K W H E.rt d st
  | .bk env st => ∀ W' σ' H', Ext W H W' H' → Rl K W' st H' → EnvR K W' H' env σ' → E.bk σ' H'
  | .ct env st => ∀ W' σ' H', Ext W H W' H' → Rl K W' st H' → EnvR K W' H' env σ' → E.ct σ' H'
  | .exc C fs env st => ∀ W' σ' H' o, Ext W H W' H' → Rl K W' st H' → EnvR K W' H' env σ' → ExD K W' H' fs o → Wx (.ref C) o σ' H'
  | .bad => False
theorem Out.Holds.mono {K : PySem.W.Frag} {Wx : WX} {E : Ends} {W W1 : Wd} {H H1 : Hp} : ∀ {o : Out}, o.Holds K Wx E W H → Ext W H W1 H1 → o.Holds K Wx E W1 H1
  | .nx _ _, h, e => fun W' σ' H' E' R' V' => h W' σ' H' (e.trans E') R' V'
  | .rt _ _, h, e => OkD.mono h e
  | .bk _ _, h, e => fun W' σ' H' E' R' V' => h W' σ' H' (e.trans E') R' V'
  | .ct _ _, h, e => fun W' σ' H' E' R' V' => h W' σ' H' (e.trans E') R' V'
  | .exc _ _ _ _, h, e => fun W' σ' H' o E' R' V' x => h W' σ' H' o (e.trans E') R' V' x
  | .bad, h, _ => h
def Out.seq (o : Out) (k : Env → Sto → Out) : Out := match o with
  | .nx e s => k e s
  | .rt d s => .rt d s
  | .bk e s => .bk e s
  | .ct e s => .ct e s
  | .exc C fs e s => .exc C fs e s
  | .bad => .bad
/-- a result that a statement goes on with -/
def Res.out {α : Type} (r : Res α) (env : Env) (k : α → Sto → Out) : Out := match r with
  | .ok a s => k a s
  | .exc C fs s => .exc C fs env s
  | .bad => .bad
def tS (K : PySem.W.Frag) (Wx : WX) (g : Env → Sto → Out) : TS := fun E σ H => ∃ W env st, Rl K W st H ∧ EnvR K W H env σ ∧ (g env st).Holds K Wx E W H
abbrev RS (X : Cx) (Wx : WX) (s : Stmt) (g : Env → Sto → Out) : Prop := PS X s (tS X.K Wx g)
abbrev RSs (X : Cx) (Wx : WX) (s : List Stmt) (g : Env → Sto → Out) : Prop := PSs X s (tS X.K Wx g)
theorem PS.conv {X : Cx} {e : Stmt} {t t' : TS} (h : PS X e t) (g : ∀ D σ H, t' D σ H → t D σ H) : PS X e t' := ⟨fun pins s σ H D I q => h.run pins s σ H D I (g D σ H q)⟩
theorem PSs.conv {X : Cx} {e : List Stmt} {t t' : TS} (h : PSs X e t) (g : ∀ D σ H, t' D σ H → t D σ H) : PSs X e t' := ⟨fun pins s σ H D I q => h.run pins s σ H D I (g D σ H q)⟩
theorem out_split {α : Type} {K : PySem.W.Frag} {Wx : WX} {E : Ends} {W : Wd} {H : Hp} {σ : L2.St} {env : Env} {r : Res α} {k : α → Sto → Out} {A : α → Sto → Prop} (h : (r.out env k).Holds K Wx E W H) (Ev : EnvR K W H env σ) {st : Sto} (R : Rl K W st H)
    (ha : ∀ a s, (k a s).Holds K Wx E W H → A a s) : r.Holds A (OkX K W H fun c o H' => Wx c o σ H') := by
  cases r with
  | ok a s => exact ha a s h
  | exc C fs s => exact fun W' H' o E' R' x => h W' σ H' o E' R' (Ev.mono E' R) x
  | bad => exact h

section
variable {X : Cx} {Wx : WX} {s : Stmt} {rest : List Stmt} {g g1 g2 : Env → Sto → Out} {e a b c : Expr} {f fa fb : Env → Sto → Res D} {pos : Pos}
def nxM (env : Env) (st : Sto) : Out := .nx env st
def seqM (g1 g2 : Env → Sto → Out) (env : Env) (st : Sto) : Out := (g1 env st).seq g2
theorem rss_nil : RSs X Wx [] nxM := PSs.conv pss_nil fun D σ H ⟨W, env, st, R, Ev, h⟩ => h W σ H .refl R Ev
theorem rss_cons (h1 : RS X Wx s g1) (h2 : RSs X Wx rest g2) : RSs X Wx (s :: rest) (seqM g1 g2) := by
  refine PSs.conv (pss_cons h1 h2) fun E σ H ⟨W, env, st, R, Ev, h⟩ => ⟨W, env, st, R, Ev, ?_⟩
  unfold seqM at h
  cases q : g1 env st with
  | nx e s => rw [q] at h; exact fun W' σ' H' E' R' V' => ⟨W', e, s, R', V', Out.Holds.mono (o := g2 e s) h E'⟩
  | rt d s => rw [q] at h; exact h
  | bk e s => rw [q] at h; exact h
  | ct e s => rw [q] at h; exact h
  | exc C fs e s => rw [q] at h; exact h
  | bad => rw [q] at h; exact h
theorem rss_one (h1 : RS X Wx s g1) : RSs X Wx [s] g1 := by
  refine ⟨fun pins s σ H E I h => ?_⟩
  exact (pss_one h1).run pins s σ H E I h
theorem rs_pass : RS X Wx (.Pass pos) nxM := PS.conv ps_pass fun D σ H ⟨W, env, st, R, Ev, h⟩ => h W σ H .refl R Ev
def bkM (env : Env) (st : Sto) : Out := .bk env st
def ctM (env : Env) (st : Sto) : Out := .ct env st
theorem rs_break : RS X Wx (.Break pos) bkM := PS.conv ps_break fun D σ H ⟨W, env, st, R, Ev, h⟩ => h W σ H .refl R Ev
theorem rs_cont : RS X Wx (.Continue pos) ctM := PS.conv ps_continue fun D σ H ⟨W, env, st, R, Ev, h⟩ => h W σ H .refl R Ev
def setM (i : Nat) (f : Env → Sto → Res D) (env : Env) (st : Sto) : Out := (f env st).out env fun d s => .nx (env.set i (some d)) s
theorem rs_set {i : Nat} {x : Str} {pos' : Pos} (hN : X.N.Nodup) (hi : X.N[i]? = some x) (hx : Loc X.env.scope x) (he : RE X Wx e f) (hs : swapsWith e (some (.Name x pos')) pos.line X.env = pure false := by rfl)
    (hf : X.fn x = true ∨ X.env.scope.names.lookup x = some .local := by first | exact .inl rfl | exact .inr rfl | assumption) : RS X Wx (.Assign [.Name x pos'] e pos) (setM i f) := by
  refine PS.conv (ps_set hN hi hx he hs hf) fun E σ H ⟨W, env, st, R, Ev, h⟩ => ⟨W, env, st, R, Ev, out_split h Ev R fun d s h1 W1 H1 v E1 R1 r1 => ?_⟩
  exact h1 W1 _ H1 E1 R1 ((Ev.mono E1 R).set i r1)
def dropM (f : Env → Sto → Res D) (env : Env) (st : Sto) : Out := (f env st).out env fun _ s => .nx env s
theorem rs_expr (he : RE X Wx e f) (hs : swapsWith e none pos.line X.env = pure false := by rfl) : RS X Wx (.Expr e pos) (dropM f) := by
  refine PS.conv (ps_expr he hs) fun E σ H ⟨W, env, st, R, Ev, h⟩ => ⟨W, env, st, R, Ev, out_split h Ev R fun d s h1 W1 H1 v E1 R1 r1 => ?_⟩
  exact h1 W1 σ H1 E1 R1 (Ev.mono E1 R)
theorem rs_doc {x j pos pos'} : RS X Wx (.Expr (.Constant (.str x) j pos) pos') nxM := PS.conv ps_doc fun D σ H ⟨W, env, st, R, Ev, h⟩ => h W σ H .refl R Ev
def retM (f : Env → Sto → Res D) (env : Env) (st : Sto) : Out := (f env st).out env fun d s => .rt d s
theorem rs_ret (he : RE X Wx e f) : RS X Wx (.Return (some e) pos) (retM f) := by
  refine PS.conv (ps_ret he) fun E σ H ⟨W, env, st, R, Ev, h⟩ => ⟨W, env, st, R, Ev, out_split h Ev R fun d s h1 => ?_⟩
  exact h1
def retN (env : Env) (st : Sto) : Out := .rt (.t .non) st
theorem rs_retN : RS X Wx (.Return none pos) retN := PS.conv ps_retN fun D σ H ⟨W, env, st, R, Ev, h⟩ => h W H .non .refl R rfl
def ifM (c : Env → Sto → Res Bool) (g1 g2 : Env → Sto → Out) (env : Env) (st : Sto) : Out := (c env st).out env fun k s => if k = true then g1 env s else g2 env s
theorem rs_if {p q : List Stmt} {gc : Env → Sto → Res Bool} (hc : RT X Wx c gc) (ha : RSs X Wx p g1) (hb : RSs X Wx q g2) : RS X Wx (.If c p q pos) (ifM gc g1 g2) := by
  refine PS.conv (ps_if hc ha hb) fun E σ H ⟨W, env, st, R, Ev, h⟩ => ⟨W, env, st, R, Ev, out_split h Ev R fun k s h1 W1 H1 E1 R1 => ?_⟩
  cases k with
  | true => exact ite_tt ⟨W1, env, s, R1, Ev.mono E1 R, Out.Holds.mono (o := g1 env s) h1 E1⟩
  | false => exact ite_ff ⟨W1, env, s, R1, Ev.mono E1 R, Out.Holds.mono (o := g2 env s) h1 E1⟩
/-- x op= e -/
def augM (i : Nat) (g : D → D → Sto → Option D) (f : Env → Sto → Res D) (env : Env) (st : Sto) : Out := match env[i]? with
  | some (some d) => (f env st).out env fun d2 s => (optR (g d d2 s) s).out env fun z s2 => .nx (env.set i (some z)) s2
  | _ => .bad
theorem rs_aug {i : Nat} {x : Str} {op : Operator} {pos' : Pos} {gv : D → D → Sto → Option D} (hN : X.N.Nodup) (hi : X.N[i]? = some x) (hx : Loc X.env.scope x) (he : RE X Wx e f) (ho : OpR X (inplaceOp op) (rM X.K gv))
    (hf : X.fn x = true ∨ X.env.scope.names.lookup x = some .local := by first | exact .inl rfl | exact .inr rfl | assumption) : RS X Wx (.AugAssign (.Name x pos') op e pos) (augM i gv f) := by
  refine PS.conv (ps_aug hN hi hx he (ti := fun x y H Q => rM X.K gv x y H Q) (fun pins s σ H x y v u Q I r1 r2 h => ho pins s σ H x y v u Q I r1 r2 h) hf) fun E σ H ⟨W, env, st, R, Ev, h⟩ => ?_
  unfold augM at h
  split at h
  · rename_i d q
    obtain ⟨v, e1, r⟩ := Ev.get i d q
    refine ⟨v, e1, W, env, st, R, Ev, out_split h Ev R fun d2 s h1 W1 H1 w E1 R1 r1 => ?_⟩
    cases q2 : gv d d2 s with
    | none => rw [q2] at h1; exact h1.elim
    | some z =>
      rw [q2] at h1
      refine ⟨W1, s, d, d2, R1, E1.relD R r, r1, z, q2, fun W2 H2 y E2 R2 r2 => ?_⟩
      exact h1 W2 _ H2 (E1.trans E2) R2 (((Ev.mono E1 R).mono E2 R1).set i r2)
  · exact h.elim

/-! ### targets -/
/-- the same slots but those of vs -/
def Agree (vs : List Nat) (σ σ' : L2.St) : Prop := σ'.length = σ.length ∧ ∀ j, j ∉ vs → σ'[j]? = σ[j]?
theorem Agree.refl {vs : List Nat} {σ : L2.St} : Agree vs σ σ := ⟨rfl, fun _ _ => rfl⟩
theorem Agree.trans {vs : List Nat} {σ σ1 σ2 : L2.St} (a : Agree vs σ σ1) (b : Agree vs σ1 σ2) : Agree vs σ σ2 := ⟨b.1.trans a.1, fun j h => (b.2 j h).trans (a.2 j h)⟩
theorem Agree.set {vs : List Nat} {σ : L2.St} {i : Nat} (h : i ∈ vs) (x : Option V) : Agree vs σ (σ.set i x) := ⟨List.length_set, fun j hj => List.getElem?_set_ne (fun e => hj (by rw [← e]; exact h))⟩
def tG (K : PySem.W.Frag) (us : List Nat) (ga : D → Env → Option Env) : TG := fun v σ H Q => ∃ W env st d env', Rl K W st H ∧ EnvR K W H env σ ∧ RelD K W H d v ∧ ga d env = some env' ∧ ∀ σ', EnvR K W H env' σ' → Agree us σ σ' → Q σ' H
def tGs (K : PySem.W.Frag) (us : List Nat) (ga : List T → Env → Option Env) : TGs := fun vs σ H Q => ∃ W env st ts env', Rl K W st H ∧ EnvR K W H env σ ∧ RelTs K W.F H ts vs ∧ ga ts env = some env' ∧ ∀ σ', EnvR K W H env' σ' → Agree us σ σ' → Q σ' H
abbrev RG (X : Cx) (us : List Nat) (tg : Expr) (ga : D → Env → Option Env) : Prop := PG X tg (tG X.K us ga)
abbrev RGs (X : Cx) (us : List Nat) (tg : List Expr) (ga : List T → Env → Option Env) : Prop := PGs X tg (tGs X.K us ga)
theorem PG.conv {tg : Expr} {t t' : TG} (h : PG X tg t) (g : ∀ v σ H Q, t' v σ H Q → t v σ H Q) : PG X tg t' := ⟨fun pins s σ H v u Q I r q => h.run pins s σ H v u Q I r (g v σ H Q q)⟩
theorem PGs.conv {tg : List Expr} {t t' : TGs} (h : PGs X tg t) (g : ∀ v σ H Q, t' v σ H Q → t v σ H Q) : PGs X tg t' := ⟨fun pins s σ H v u Q I r q => h.run pins s σ H v u Q I r (g v σ H Q q)⟩
def gN (i : Nat) (d : D) (env : Env) : Option Env := some (env.set i (some d))
theorem rg_name {us : List Nat} {i : Nat} {x : Str} (hN : X.N.Nodup) (hi : X.N[i]? = some x) (hx : Loc X.env.scope x) (hu : i ∈ us := by simp) (hf : X.fn x = true ∨ X.env.scope.names.lookup x = some .local := by first | exact .inl rfl | exact .inr rfl | assumption) : RG X us (.Name x pos) (gN i) := by
  refine PG.conv (pg_name hN hi hx hf) fun v σ H Q ⟨W, env, st, d, env', R, Ev, r, e, h⟩ => ?_
  cases e
  exact h _ (Ev.set i r) (.set hu _)
def gsNil (ts : List T) (env : Env) : Option Env := match ts with
  | [] => some env
  | _ => none
def gsCons (ga : D → Env → Option Env) (gr : List T → Env → Option Env) (ts : List T) (env : Env) : Option Env := match ts with
  | [] => none
  | t :: r => (ga (.t t) env).bind (gr r)
theorem rgs_nil {us : List Nat} : RGs X us [] gsNil := by
  refine PGs.conv pgs_nil fun vs σ H Q ⟨W, env, st, ts, env', R, Ev, r, e, h⟩ => ?_
  cases ts with
  | cons t r => cases e
  | nil => cases e; cases r; exact ⟨rfl, h σ Ev .refl⟩
theorem rgs_cons {us : List Nat} {es : List Expr} {ga : D → Env → Option Env} {gr : List T → Env → Option Env} (h1 : RG X us e ga) (h2 : RGs X us es gr)
    (hs : (assignEach (e :: es) X.env).map (·.2) = assign e X.env :: (assignEach es X.env).map (·.2) := by rfl) : RGs X us (e :: es) (gsCons ga gr) := by
  refine PGs.conv (pgs_cons h1 h2 hs) fun vs σ H Q ⟨W, env, st, ts, env', R, Ev, r, e, h⟩ => ?_
  cases ts with
  | nil => cases e
  | cons t ts =>
    obtain ⟨v, vr, e0, ra, rb⟩ := r
    have e : (ga (.t t) env).bind (gr ts) = some env' := e
    cases q : ga (.t t) env with
    | none => (rw [q] at e; cases e)
    | some env1 =>
      rw [q] at e
      exact ⟨v, vr, e0, W, env, st, .t t, env1, R, Ev, ra, q, fun σ' Ev' ag => ⟨W, env1, st, ts, env', R, Ev', rb, e, fun σ2 Ev2 ag2 => h σ2 Ev2 (ag.trans ag2)⟩⟩
def gT (n : Nat) (gr : List T → Env → Option Env) (d : D) (env : Env) : Option Env := match d with
  | .t (.tup ts) => if ts.length = n then gr ts env else none
  | _ => none
theorem rg_tup {us : List Nat} {es : List Expr} {k n : Nat} {gr : List T → Env → Option Env} (hc : X.calm = true) (h : RGs X us es gr)
    (hn : (assignEach es X.env).length = n := by rfl) (hst : (assignEach es X.env).findIdx? (·.1) = none := by rfl) : RG X us (.Tuple es k pos) (gT n gr) := by
  refine PG.conv (pg_tup hc h hn hst) fun v σ H Q ⟨W, env, st, d, env', R, Ev, r, e, h⟩ => ?_
  unfold gT at e
  split at e
  · rename_i ts
    split at e
    · rename_i hl
      obtain ⟨a, vs, e1, q, rr⟩ := r
      exact ⟨a, vs, e1, q.sq, by rw [relTs_len rr]; exact hl, W, env, st, ts, env', R, Ev, rr, e, h⟩
    · cases e
  · cases e
/-- target = e -/
def asgM (f : Env → Sto → Res D) (ga : D → Env → Option Env) (env : Env) (st : Sto) : Out := (f env st).out env fun d s => match ga d env with
  | some env' => .nx env' s
  | none => .bad
theorem rs_asg {us : List Nat} {tg : Expr} {ga : D → Env → Option Env} (he : RE X Wx e f) (hg : RG X us tg ga) (hs : swapsWithSole [tg] e pos.line X.env = pure false := by rfl) (hw : swappedStores [tg] e X.env = pure none := by rfl)
    (h1 : (assignEach [tg] X.env).map (·.2) = [assign tg X.env] := by rfl) : RS X Wx (.Assign [tg] e pos) (asgM f ga) := by
  refine PS.conv (ps_asg he hg hs hw h1) fun E σ H ⟨W, env, st, R, Ev, h⟩ => ⟨W, env, st, R, Ev, out_split h Ev R fun d s h1 W1 H1 v E1 R1 r1 => ?_⟩
  split at h1
  · rename_i env' q
    exact ⟨W1, env, s, d, env', R1, Ev.mono E1 R, r1, q, fun σ' Ev' _ => h1 W1 σ' H1 E1 R1 Ev'⟩
  · exact h1.elim
/-- a, b = x, y, two plain names -/
def parM (i j : Nat) (fs : List (Env → Sto → Res D)) (env : Env) (st : Sto) : Out := (argsM fs env st).out env fun ds s => match ds with
  | [d, d2] => .nx ((env.set i (some d)).set j (some d2)) s
  | _ => .bad
theorem rs_par {i j : Nat} {x y : Str} {px py pt : Pos} {kt k2 pt2} {fs : List (Env → Sto → Res D)} (hc : X.calm = true) (hN : X.N.Nodup) (hi : X.N[i]? = some x) (hj : X.N[j]? = some y) (hij : i ≠ j)
    (hx : X.env.scope.names.lookup x = some .local) (hy : X.env.scope.names.lookup y = some .local) (ha : RA X Wx [a, b] (argsM fs))
    (hw : swappedStores [.Tuple [.Name x px, .Name y py] kt pt] (.Tuple [a, b] k2 pt2) X.env = pure (some [x, y]) := by rfl)
    (hs : swapsWithSole [.Tuple [.Name x px, .Name y py] kt pt] (.Tuple [a, b] k2 pt2) pos.line X.env = pure false := by rfl) : RS X Wx (.Assign [.Tuple [.Name x px, .Name y py] kt pt] (.Tuple [a, b] k2 pt2) pos) (parM i j fs) := by
  refine PS.conv (ps_par hc hN hi hj hij hx hy ha hw hs) fun E σ H ⟨W, env, st, R, Ev, h⟩ => ⟨W, env, st, R, Ev, out_split h Ev R fun ds s h1 W1 H1 vs E1 R1 r1 => ?_⟩
  split at h1
  · rename_i d d2
    obtain ⟨v, r, rfl, q1, w, r', rfl, q2, q3⟩ := r1
    cases q3
    exact ⟨v, w, rfl, h1 W1 _ H1 E1 R1 (((Ev.mono E1 R).set i q1).set j q2)⟩
  · exact h1.elim
end

/-! ### what is walked -/
structure ItM where
  nth : Sto → Nat → Option (Option D)
  most : Nat
def JOk (K : PySem.W.Frag) (J : It) (it : ItM) (W0 : Wd) (H0 : Hp) : Prop := ∀ W H st i, Ext W0 H0 W H → Rl K W st H →
  (it.nth st i = some none → J.stop i H) ∧ ∀ d, it.nth st i = some (some d) → J.go i H ∧ ∀ x H', J.yld i H x H' → ∃ W', Ext W H W' H' ∧ Rl K W' st H' ∧ RelD K W' H' d x
def tI (K : PySem.W.Frag) (Wx : WX) (fi : Env → Sto → Res ItM) : TI := fun σ H Q => ∃ W env st, Rl K W st H ∧ EnvR K W H env σ ∧
  (fi env st).Holds (fun it s => ∀ W' H' J, Ext W H W' H' → Rl K W' s H' → JOk K J it W' H' → Q J H') (OkX K W H fun c o H' => Wx c o σ H')
abbrev RI (X : Cx) (Wx : WX) (tg iter : Expr) (fi : Env → Sto → Res ItM) : Prop := PI X tg iter (tI X.K Wx fi)
def forI (ga : D → Env → Option Env) (body : Env → Sto → Out) (it : ItM) : Nat → Nat → Env → Sto → Out
  | 0, i, env, st => match it.nth st i with
    | some none => .nx env st
    | _ => .bad
  | m + 1, i, env, st => match it.nth st i with
    | some none => .nx env st
    | some (some d) => match ga d env with
      | some env1 => match body env1 st with
        | .nx e s => forI ga body it m (i + 1) e s
        | .ct e s => forI ga body it m (i + 1) e s
        | .bk e s => .nx e s
        | .rt d s => .rt d s
        | .exc C fs e s => .exc C fs e s
        | .bad => .bad
      | none => .bad
    | none => .bad
def forM' (fi : Env → Sto → Res ItM) (ga : D → Env → Option Env) (body : Env → Sto → Out) (env : Env) (st : Sto) : Out := (fi env st).out env fun it s => forI ga body it it.most 0 env s
section
variable {X : Cx} {Wx : WX} {g : Env → Sto → Out} {e a b c : Expr} {f fa fb : Env → Sto → Res D} {pos : Pos}
theorem rs_for {us : List Nat} {tg iter : Expr} {body : List Stmt} {fi : Env → Sto → Res ItM} {ga : D → Env → Option Env} (hp : PassesOwn (model X.prog X.w) X.A X.env X.xe) (hc : X.calm = true) (hi : RI X Wx tg iter fi) (hg : RG X us tg ga) (hb : RSs X Wx body g)
    (hs : ∀ x, foldedSetIterable iter X.env x = pure x := by intro _; rfl) : RS X Wx (.For tg iter body [] pos) (forM' fi ga g) := by
  refine PS.conv (ps_for hp hc hi hg hb hs) fun E σ H ⟨W, env, st, R, Ev, h⟩ => ⟨W, env, st, R, Ev, out_split h Ev R fun it s h1 W1 H1 J E1 R1 j => ?_⟩
  refine ⟨fun i m σ H2 => ∃ W2 env2 st2, Ext W1 H1 W2 H2 ∧ Rl X.K W2 st2 H2 ∧ EnvR X.K W2 H2 env2 σ ∧ (forI ga g it m i env2 st2).Holds X.K Wx E W2 H2, ⟨it.most, W1, env, s, .refl, R1, Ev.mono E1 R, Out.Holds.mono h1 E1⟩, ?_⟩
  rintro i m σ2 H2 ⟨W2, env2, st2, E2, R2, Ev2, h2⟩
  obtain ⟨j1, j2⟩ := j W2 H2 st2 i E2 R2
  have stop : it.nth st2 i = some none → (forI ga g it m i env2 st2) = .nx env2 st2 := fun q => by
    cases m with
    | zero => unfold forI; rw [q]
    | succ m => unfold forI; rw [q]
  cases q : it.nth st2 i with
  | none =>
    exfalso
    cases m with
    | zero => unfold forI at h2; rw [q] at h2; exact h2
    | succ m => unfold forI at h2; rw [q] at h2; exact h2
  | some o =>
    cases o with
    | none =>
      rw [stop q] at h2
      exact .inl ⟨j1 q, h2 W2 σ2 H2 .refl R2 Ev2⟩
    | some d =>
      cases m with
      | zero => exfalso; unfold forI at h2; rw [q] at h2; exact h2
      | succ m =>
        obtain ⟨jg, jy⟩ := j2 d q
        refine .inr ⟨jg, fun σ' H' => ∃ W2 env2 st2, Ext W1 H1 W2 H' ∧ Rl X.K W2 st2 H' ∧ EnvR X.K W2 H' env2 σ' ∧ (forI ga g it m (i + 1) env2 st2).Holds X.K Wx E W2 H', fun σ' H' h => ⟨m, Nat.lt_succ_self m, h⟩, fun x H3 hy => ?_⟩
        obtain ⟨W3, E3, R3, r3⟩ := jy x H3 hy
        unfold forI at h2
        simp only [q] at h2
        cases q2 : ga d env2 with
        | none => rw [q2] at h2; exact h2.elim
        | some env3 =>
          simp only [q2] at h2
          refine ⟨W3, env2, st2, d, env3, R3, Ev2.mono E3 R2, r3, q2, fun σ3 Ev3 _ => ⟨W3, env3, st2, R3, Ev3, ?_⟩⟩
          cases q3 : g env3 st2 with
          | nx e s => simp only [q3] at h2; exact fun W4 σ4 H4 E4 R4 Ev4 => ⟨W4, e, s, E2.trans (E3.trans E4), R4, Ev4, Out.Holds.mono h2 (E3.trans E4)⟩
          | ct e s => simp only [q3] at h2; exact fun W4 σ4 H4 E4 R4 Ev4 => ⟨W4, e, s, E2.trans (E3.trans E4), R4, Ev4, Out.Holds.mono h2 (E3.trans E4)⟩
          | bk e s => simp only [q3] at h2; exact fun W4 σ4 H4 E4 R4 Ev4 => h2 W4 σ4 H4 (E3.trans E4) R4 Ev4
          | rt d s => simp only [q3] at h2; exact OkD.mono h2 E3
          | exc C fs e s => simp only [q3] at h2; exact fun W4 σ4 H4 o E4 R4 Ev4 x => h2 W4 σ4 H4 o (E3.trans E4) R4 Ev4 x
          | bad => simp only [q3] at h2; exact h2
/-- while -/
def whileI (c : Env → Sto → Res Bool) (body : Env → Sto → Out) : Nat → Env → Sto → Out
  | 0, env, st => (c env st).out env fun k s => if k = true then .bad else .nx env s
  | m + 1, env, st => (c env st).out env fun k s => if k = true then (match body env s with
      | .nx e s => whileI c body m e s
      | .ct e s => whileI c body m e s
      | .bk e s => .nx e s
      | .rt d s => .rt d s
      | .exc C fs e s => .exc C fs e s
      | .bad => .bad) else .nx env s
theorem rs_while {body : List Stmt} {gc : Env → Sto → Res Bool} (fuel : Nat) (hp : PassesOwn (model X.prog X.w) X.A X.env X.xe) (hc : RT X Wx c gc) (hb : RSs X Wx body g) : RS X Wx (.While c body [] pos) (whileI gc g fuel) := by
  refine PS.conv (ps_while hp hc hb) fun E σ H ⟨W, env, st, R, Ev, h⟩ => ⟨fun m σ H => ∃ W env st, Rl X.K W st H ∧ EnvR X.K W H env σ ∧ (whileI gc g m env st).Holds X.K Wx E W H, ⟨fuel, W, env, st, R, Ev, h⟩, ?_⟩
  rintro m σ1 H1 ⟨W1, env1, st1, R1, Ev1, h1⟩
  cases m with
  | zero =>
    refine ⟨W1, env1, st1, R1, Ev1, out_split h1 Ev1 R1 fun k s h2 W2 H2 E2 R2 => ?_⟩
    cases k with
    | true => exact h2.elim
    | false => exact ite_ff (h2 W2 σ1 H2 E2 R2 (Ev1.mono E2 R1))
  | succ m =>
    refine ⟨W1, env1, st1, R1, Ev1, out_split h1 Ev1 R1 fun k s h2 W2 H2 E2 R2 => ?_⟩
    cases k with
    | false => exact ite_ff (h2 W2 σ1 H2 E2 R2 (Ev1.mono E2 R1))
    | true =>
      refine ite_tt ⟨fun σ' H' => ∃ W env st, Rl X.K W st H' ∧ EnvR X.K W H' env σ' ∧ (whileI gc g m env st).Holds X.K Wx E W H', fun σ' H' h => ⟨m, Nat.lt_succ_self m, h⟩, W2, env1, s, R2, Ev1.mono E2 R1, ?_⟩
      have h2 : (match g env1 s with
        | .nx e s => whileI gc g m e s
        | .ct e s => whileI gc g m e s
        | .bk e s => .nx e s
        | .rt d s => .rt d s
        | .exc C fs e s => .exc C fs e s
        | .bad => .bad).Holds X.K Wx E W1 H1 := h2
      cases q3 : g env1 s with
      | nx e s => simp only [q3] at h2; exact fun W4 σ4 H4 E4 R4 Ev4 => ⟨W4, e, s, R4, Ev4, Out.Holds.mono h2 (E2.trans E4)⟩
      | ct e s => simp only [q3] at h2; exact fun W4 σ4 H4 E4 R4 Ev4 => ⟨W4, e, s, R4, Ev4, Out.Holds.mono h2 (E2.trans E4)⟩
      | bk e s => simp only [q3] at h2; exact fun W4 σ4 H4 E4 R4 Ev4 => h2 W4 σ4 H4 (E2.trans E4) R4 Ev4
      | rt d s => simp only [q3] at h2; exact OkD.mono h2 E2
      | exc C fs e s => simp only [q3] at h2; exact fun W4 σ4 H4 o E4 R4 Ev4 x => h2 W4 σ4 H4 o (E2.trans E4) R4 Ev4 x
      | bad => simp only [q3] at h2; exact h2

/-! ### the things that are walked -/
def seqIt (d : D) (n : Nat) : ItM := ⟨fun st i => (items st d).map fun ds => ds[i]?, n⟩
theorem map_nth {st : Sto} {d : D} {n i : Nat} {o : Option D} (h : (seqIt d n).nth st i = some o) : ∃ ds, items st d = some ds ∧ ds[i]? = o := by
  have h : (items st d).map (fun ds => ds[i]?) = some o := h
  cases q : items st d with
  | none => rw [q] at h; cases h
  | some ds => rw [q] at h; exact ⟨ds, rfl, Option.some.inj h⟩
def seqOf (f : Env → Sto → Res D) (env : Env) (st : Sto) : Res ItM := (f env st).bind fun d s => optR ((items s d).map fun ds => seqIt d ds.length) s
/-- a list alone (no tuple) -/
def lsq (st : Sto) (d : D) : Option (List D) := match d with
  | .t (.tup _) => none
  | d => items st d
theorem lsq_items {st : Sto} {d : D} {ds : List D} (h : lsq st d = some ds) : items st d = some ds := by
  unfold lsq at h
  split at h
  · cases h
  · exact h
theorem lsq_rel {K : PySem.W.Frag} {W : Wd} {H : Hp} {st : Sto} (R : Rl K W st H) {d : D} {ds : List D} {v : V} (h : lsq st d = some ds) (r : RelD K W H d v) : ∃ a vs, v = .ref a ∧ SqL K H a vs ∧ RelDs K W H ds vs := by
  cases d with
  | x => cases h
  | r n =>
    have h : (match st[n]? with | some (.lst ds) => some ds | none => none) = some ds := h
    obtain ⟨a, e, rfl⟩ := r
    split at h
    · rename_i ds' q
      cases h
      obtain ⟨vs, q1, q2⟩ := R.live n a _ e q
      exact ⟨a, vs, rfl, SqL.of q1, q2⟩
    · cases h
  | t x =>
    cases x with
    | lst ts =>
      cases h
      obtain ⟨a, vs, e, f, q, rr⟩ := r
      exact ⟨a, vs, e, SqL.of q, relDs_t rr⟩
    | scr ts =>
      cases h
      obtain ⟨a, vs, e, q, rr⟩ := r
      exact ⟨a, vs, e, q.sq, relDs_t rr⟩
    | _ => cases h
theorem JOk.lst {K : PySem.W.Frag} {W : Wd} {H : Hp} {st : Sto} {d : D} {a : Addr} {n : Nat} (R : Rl K W st H) (r : RelD K W H d (.ref a)) (hs : ∀ ts, d ≠ .t (.tup ts)) : JOk K (Itl K a) (seqIt d n) W H := by
  intro W' H' st' i E' R'
  have r' := E'.relD R r
  have get : ∀ o, (seqIt d n).nth st' i = some o → ∃ ds vs, items st' d = some ds ∧ ds[i]? = o ∧ SqL K H' a vs ∧ RelDs K W' H' ds vs := fun o h => by
    obtain ⟨ds, e1, e2⟩ := map_nth h
    have e0 : lsq st' d = some ds := by
      unfold lsq
      split
      · rename_i ts; exact absurd rfl (hs ts)
      · exact e1
    obtain ⟨a', vs, e3, s, rr⟩ := lsq_rel R' e0 r'
    cases e3
    exact ⟨ds, vs, e1, e2, s, rr⟩
  refine ⟨fun h => ?_, fun dd h => ?_⟩
  · obtain ⟨ds, vs, e1, e2, s, rr⟩ := get _ h
    exact ⟨vs, s, by rw [relDs_len rr]; exact List.getElem?_eq_none_iff.mp e2⟩
  · obtain ⟨ds, vs, e1, e2, s, rr⟩ := get _ h
    obtain ⟨v, e3, rv⟩ := relDs_get rr e2
    refine ⟨⟨vs, v, s, e3⟩, fun x H2 hy => ?_⟩
    obtain ⟨rfl, hy⟩ := hy
    have e4 : v = x := Option.some.inj (e3.symm.trans (hy vs s))
    subst e4
    exact ⟨W', .refl, R', rv⟩
theorem JOk.tup {K : PySem.W.Frag} {W : Wd} {H : Hp} {st : Sto} {ts : List T} {a : Addr} {n : Nat} (R : Rl K W st H) (r : RelD K W H (.t (.tup ts)) (.ref a)) : JOk K (Itt K a) (seqIt (.t (.tup ts)) n) W H := by
  intro W' H' st' i E' R'
  have r' := E'.relD R r
  obtain ⟨a2, vs, e4, q1, q2⟩ := r'
  cases e4
  have q3 := relDs_t (K := K) (W := W') q2
  refine ⟨fun h => ?_, fun dd h => ?_⟩
  · obtain ⟨ds, e1, e2⟩ := map_nth h
    cases e1
    exact ⟨vs, q1.sq, by rw [relDs_len q3]; exact List.getElem?_eq_none_iff.mp e2⟩
  · obtain ⟨ds, e1, e2⟩ := map_nth h
    cases e1
    obtain ⟨v, e3, rv⟩ := relDs_get q3 e2
    refine ⟨⟨vs, v, q1.sq, e3⟩, fun x H2 hy => ?_⟩
    obtain ⟨rfl, hy⟩ := hy
    have e4 : v = x := Option.some.inj (e3.symm.trans (hy vs q1.sq))
    subst e4
    exact ⟨W', .refl, R', rv⟩
theorem PI.conv {tg iter : Expr} {t t' : TI} (h : PI X tg iter t) (g : ∀ σ H Q, t' σ H Q → t σ H Q) : PI X tg iter t' := ⟨fun pins s σ H R I q => h.run pins s σ H R I (g σ H R q)⟩
/-- a walk over a list -/
def lstOf (f : Env → Sto → Res D) (env : Env) (st : Sto) : Res ItM := (f env st).bind fun d s => optR ((lsq s d).map fun ds => seqIt d ds.length) s
theorem ri_list {tg l : Expr} (h : RE X Wx l f) : RI X Wx tg l (lstOf f) := by
  refine PI.conv (pi_list h) fun σ H Q ⟨W, env, st, R, Ev, h⟩ => ⟨W, env, st, R, Ev, split h (fun d s h1 W1 H1 v E1 R1 r1 => ?_) fun C fs st' hx => hx⟩
  obtain ⟨it, e1, q⟩ := optR_holds h1
  have nt : ∀ ts, d ≠ .t (.tup ts) := fun ts z => by rw [z] at e1; cases e1
  cases q2 : lsq s d with
  | none => rw [q2] at e1; cases e1
  | some ds =>
    rw [q2] at e1
    cases e1
    obtain ⟨a, vs, e3, sq, rr⟩ := lsq_rel R1 q2 r1
    subst e3
    exact ⟨a, rfl, ⟨vs, sq⟩, q W1 H1 _ E1 R1 (JOk.lst R1 r1 nt)⟩
def tupOf (f : Env → Sto → Res D) (env : Env) (st : Sto) : Res ItM := (f env st).bind fun d s => match d with
  | .t (.tup ts) => .ok (seqIt (.t (.tup ts)) ts.length) s
  | _ => .bad
theorem ri_tup {tg l : Expr} (h : RE X Wx l f) : RI X Wx tg l (tupOf f) := by
  refine PI.conv (pi_tup h) fun σ H Q ⟨W, env, st, R, Ev, h⟩ => ⟨W, env, st, R, Ev, split h (fun d s h1 W1 H1 v E1 R1 r1 => ?_) fun C fs st' hx => hx⟩
  split at h1
  · rename_i ts
    obtain ⟨a, vs, e, q, rr⟩ := id r1
    subst e
    exact ⟨a, rfl, ⟨vs, q.sq⟩, h1 W1 H1 _ E1 R1 (JOk.tup R1 r1)⟩
  · exact h1.elim
/-- range -/
def rngIt (lo : Int) (n : Nat) : ItM := ⟨fun _ i => some (if i < n then some (.t (.int (lo + i))) else none), n⟩
theorem JOk.rng {K : PySem.W.Frag} {W : Wd} {H : Hp} {lo : Int} {n : Nat} : JOk K (Itr lo n) (rngIt lo n) W H := by
  intro W' H' st' i E' R'
  refine ⟨fun h => ?_, fun d h => ?_⟩
  · have h : some (if i < n then some (D.t (.int (lo + i))) else none) = some none := h
    by_cases hi : i < n
    · rw [if_pos hi] at h; cases h
    · exact Nat.le_of_not_lt hi
  · have h : some (if i < n then some (D.t (.int (lo + i))) else none) = some (some d) := h
    by_cases hi : i < n
    · rw [if_pos hi] at h
      cases h
      refine ⟨hi, fun x H2 hy => ?_⟩
      obtain ⟨rfl, rfl⟩ := hy
      exact ⟨W', .refl, R', rfl⟩
    · rw [if_neg hi] at h; cases h
def B62 : Int := 4611686018427387904
def rng1 (fs : List (Env → Sto → Res D)) (env : Env) (st : Sto) : Res ItM := (argsM fs env st).bind fun ds s => match ds with
  | [.t (.int j)] => if -B62 ≤ j ∧ j < B62 then .ok (rngIt 0 j.toNat) s else .bad
  | _ => .bad
theorem ri_range1 {tg : Expr} {p : Pos} {fs : List (Env → Sto → Res D)} (hg : Gl X "range") (hm : X.mg "range" = none) (ha : RA X Wx [a] (argsM fs)) (hs : starEach [a] X.env = [(false, eval a X.env)] := by rfl) : RI X Wx tg (.Call (.Name "range" p) [a] [] pos) (rng1 fs) := by
  refine PI.conv (pi_range1 hg hm ha hs) fun σ H Q ⟨W, env, st, R, Ev, h⟩ => ⟨W, env, st, R, Ev, split h (fun ds s h1 W1 H1 vs E1 R1 r1 => ?_) fun C fs st' hx => hx⟩
  split at h1
  · rename_i j
    obtain ⟨v, r, rfl, q1, q2⟩ := r1
    cases q1; cases q2
    split at h1
    · rename_i hb
      unfold B62 at hb
      exact ⟨j, rfl, by omega, by omega, h1 W1 H1 _ E1 R1 .rng⟩
    · exact h1.elim
  · exact h1.elim
def rng2 (fs : List (Env → Sto → Res D)) (env : Env) (st : Sto) : Res ItM := (argsM fs env st).bind fun ds s => match ds with
  | [.t (.int i), .t (.int j)] => if (-B62 ≤ i ∧ i < B62) ∧ -B62 ≤ j ∧ j < B62 then .ok (rngIt i (j - i).toNat) s else .bad
  | _ => .bad
theorem ri_range2 {tg : Expr} {p : Pos} {fs : List (Env → Sto → Res D)} (hg : Gl X "range") (hm : X.mg "range" = none) (ha : RA X Wx [a, b] (argsM fs)) (hs : starEach [a, b] X.env = [(false, eval a X.env), (false, eval b X.env)] := by rfl) (hs2 : starEach [b] X.env = [(false, eval b X.env)] := by rfl) :
    RI X Wx tg (.Call (.Name "range" p) [a, b] [] pos) (rng2 fs) := by
  refine PI.conv (pi_range2 hg hm ha hs hs2) fun σ H Q ⟨W, env, st, R, Ev, h⟩ => ⟨W, env, st, R, Ev, split h (fun ds s h1 W1 H1 vs E1 R1 r1 => ?_) fun C fs st' hx => hx⟩
  split at h1
  · rename_i i j
    obtain ⟨v, r, rfl, q1, v2, r2, rfl, q2, q3⟩ := r1
    cases q1; cases q2; cases q3
    split at h1
    · rename_i hb
      unfold B62 at hb
      exact ⟨i, j, rfl, ⟨by omega, by omega, by omega, by omega⟩, h1 W1 H1 _ E1 R1 .rng⟩
    · exact h1.elim
  · exact h1.elim
/-- a text, sign by sign -/
def strIt (x : Str) : ItM := ⟨fun _ i => some (x.cps[i]?.map fun c => .t (.str ⟨#[c]⟩)), x.cps.size⟩
theorem JOk.str {K : PySem.W.Frag} {W : Wd} {H : Hp} {x : Str} : JOk K (Its x) (strIt x) W H := by
  intro W' H' st' i E' R'
  refine ⟨fun h => ?_, fun d h => ?_⟩
  · have h : some (x.cps[i]?.map fun c => D.t (.str ⟨#[c]⟩)) = some none := h
    cases q : x.cps[i]? with
    | none => exact Array.getElem?_eq_none_iff.mp q
    | some c => rw [q] at h; cases h
  · have h : some (x.cps[i]?.map fun c => D.t (.str ⟨#[c]⟩)) = some (some d) := h
    cases q : x.cps[i]? with
    | none => rw [q] at h; cases h
    | some c =>
      rw [q] at h
      cases h
      refine ⟨(Array.getElem?_eq_some_iff.mp q).1, fun y H2 hy => ?_⟩
      obtain ⟨rfl, c', e, rfl⟩ := hy
      rw [q] at e; cases e
      exact ⟨W', .refl, R', rfl⟩
def strOf (f : Env → Sto → Res D) (env : Env) (st : Sto) : Res ItM := (f env st).bind fun d s => match d with
  | .t (.str x) => .ok (strIt x) s
  | _ => .bad
theorem ri_str {tg l : Expr} (h : RE X Wx l f) : RI X Wx tg l (strOf f) := by
  refine PI.conv (pi_str h) fun σ H Q ⟨W, env, st, R, Ev, h⟩ => ⟨W, env, st, R, Ev, split h (fun d s h1 W1 H1 v E1 R1 r1 => ?_) fun C fs st' hx => hx⟩
  split at h1
  · rename_i x
    cases r1
    exact ⟨x, rfl, h1 W1 H1 _ E1 R1 .str⟩
  · exact h1.elim
end
end Mi
/-! Mir3 -/
namespace Mi
open L2 PySem PySem.Spec PyProof.Rows
section
variable {X : Cx} {Wx : WX}
/-- an operator's rule in terms of plain values -/
theorem op_of {f : Value → Value → Sem Value} {g : D → D → Sto → Option D} {r : R2} (ho : OpR X f r)
    (h : ∀ W st d e x y H Q z, Rl X.K W st H → RelD X.K W H d x → RelD X.K W H e y → g d e st = some z → OkD X.K W H Q z st → r x y H Q) : OpR X f (rM X.K g) := by
  intro pins s σ H x y v u Q I rx ry ⟨W, st, d, e, R, r1, r2, z, e1, q⟩
  exact ho pins s σ H x y v u Q I rx ry (h W st d e x y H Q z R r1 r2 e1 q)
def bD (b : Bool) : D := .t (.bl b)
def iD (i : Int) : D := .t (.int i)
def sD (x : Str) : D := .t (.str x)

/-! ### numbers -/
def subM (d e : D) (_ : Sto) : Option D := match d, e with
  | .t (.int i), .t (.int j) => some (iD (i - j))
  | _, _ => none
theorem o_sub : OpR X (binaryOp .Sub) (rM X.K subM) := op_of op_sub fun W st d e x y H Q z R r1 r2 h q => by
  unfold subM at h
  split at h
  · cases h; cases r1; cases r2; exact ⟨_, _, rfl, rfl, q W H _ .refl R rfl⟩
  · cases h
theorem io_sub : OpR X (inplaceOp .Sub) (rM X.K subM) := op_of iop_sub fun W st d e x y H Q z R r1 r2 h q => by
  unfold subM at h
  split at h
  · cases h; cases r1; cases r2; exact ⟨_, _, rfl, rfl, q W H _ .refl R rfl⟩
  · cases h
def B64 : Int := 18446744073709551616
def mulM (d e : D) (_ : Sto) : Option D := match d, e with
  | .t (.int i), .t (.int j) => if (-B64 < i ∧ i < B64) ∨ (-B64 < j ∧ j < B64) then some (iD (i * j)) else none
  | _, _ => none
theorem o_mul : OpR X (binaryOp .Mult) (rM X.K mulM) := op_of op_mul fun W st d e x y H Q z R r1 r2 h q => by
  unfold mulM at h
  split at h
  · split at h
    · rename_i c
      cases h; cases r1; cases r2
      exact ⟨_, _, rfl, rfl, by unfold CMul; unfold B64 at c; omega, q W H _ .refl R rfl⟩
    · cases h
  · cases h
def modM (d e : D) (_ : Sto) : Option D := match d, e with
  | .t (.int i), .t (.int j) => if 0 < j then some (iD (i % j)) else none
  | _, _ => none
theorem o_mod : OpR X (binaryOp .Mod) (rM X.K modM) := op_of op_mod fun W st d e x y H Q z R r1 r2 h q => by
  unfold modM at h
  split at h
  · split at h
    · rename_i c
      cases h; cases r1; cases r2
      exact ⟨_, _, rfl, rfl, c, q W H _ .refl R rfl⟩
    · cases h
  · cases h
def fdivM (d e : D) (_ : Sto) : Option D := match d, e with
  | .t (.int i), .t (.int j) => if 0 < j ∧ j < 1073741824 then some (iD (i / j)) else none
  | _, _ => none
theorem o_fdiv : OpR X (binaryOp .FloorDiv) (rM X.K fdivM) := op_of op_fdiv fun W st d e x y H Q z R r1 r2 h q => by
  unfold fdivM at h
  split at h
  · split at h
    · rename_i c
      cases h; cases r1; cases r2
      exact ⟨_, _, rfl, rfl, c, q W H _ .refl R rfl⟩
    · cases h
  · cases h
def powM (d e : D) (_ : Sto) : Option D := match d, e with
  | .t (.int i), .t (.int j) => if 0 ≤ j ∧ j ≤ 1000000 ∧ i.natAbs < 18446744073709551616 then some (iD (i ^ j.toNat)) else none
  | _, _ => none
theorem o_pow : OpR X (binaryOp .Pow) (rM X.K powM) := op_of op_pow fun W st d e x y H Q z R r1 r2 h q => by
  unfold powM at h
  split at h
  · split at h
    · rename_i c
      cases h; cases r1; cases r2
      exact ⟨_, _, rfl, rfl, c, q W H _ .refl R rfl⟩
    · cases h
  · cases h
def negM (d : D) (_ : Sto) : Option D := match d with
  | .t (.int i) => some (iD (-i))
  | _ => none
theorem o_neg : UnR X (unaryOp .USub) (rMu X.K negM) := by
  intro pins s σ H x v Q I rx ⟨W, st, d, R, r1, z, h, q⟩
  unfold negM at h
  split at h
  · cases h; cases r1
    exact un_neg pins s σ H _ v Q I rx ⟨_, rfl, q W H _ .refl R rfl⟩
  · cases h
def cmpI (p : Int → Int → Bool) (d e : D) (_ : Sto) : Option D := match d, e with
  | .t (.int i), .t (.int j) => some (bD (p i j))
  | _, _ => none
theorem cmpI_of {f : Value → Value → Sem Value} {p : Int → Int → Bool} (ho : OpR X f (rI0 fun i j => .bl (p i j))) : OpR X f (rM X.K (cmpI p)) := op_of ho fun W st d e x y H Q z R r1 r2 h q => by
  unfold cmpI at h
  split at h
  · cases h; cases r1; cases r2; exact ⟨_, _, rfl, rfl, q W H _ .refl R rfl⟩
  · cases h
abbrev ltM := cmpI fun i j => decide (i < j)
abbrev leM := cmpI fun i j => decide (i ≤ j)
abbrev gtM := cmpI fun i j => decide (j < i)
abbrev geM := cmpI fun i j => decide (j ≤ i)
theorem o_lt : OpR X (compareOp .Lt) (rM X.K ltM) := cmpI_of op_lt
theorem o_le : OpR X (compareOp .LtE) (rM X.K leM) := cmpI_of op_le
theorem o_gt : OpR X (compareOp .Gt) (rM X.K gtM) := cmpI_of op_gt
theorem o_ge : OpR X (compareOp .GtE) (rM X.K geM) := cmpI_of op_ge

/-! ### + -/
theorem rel_lst {K : PySem.W.Frag} {W : Wd} {H : Hp} {st : Sto} (R : Rl K W st H) {n : Nat} {ds : List D} {v : V} (h : st[n]? = some (SO.lst ds)) (r : RelD K W H (.r n) v) : ∃ a vs, v = .ref a ∧ W.ρ[n]? = some a ∧ H a = some (.lst vs) ∧ RelDs K W H ds vs := by
  obtain ⟨a, e, rfl⟩ := r
  obtain ⟨vs, q1, q2⟩ := R.live n a _ e h
  exact ⟨a, vs, rfl, e, q1, q2⟩
/-- an unlocked list's items -/
def litems (st : Sto) : D → Option (List D)
  | .t (.lst ts) => some (ts.map .t)
  | .t _ => none
  | .x .. => none
  | .r n => match st[n]? with
    | some (.lst ds) => some ds
    | none => none
theorem litems_rel {K : PySem.W.Frag} {W : Wd} {H : Hp} {st : Sto} (R : Rl K W st H) {d : D} {ds : List D} {v : V} (h : litems st d = some ds) (r : RelD K W H d v) : ∃ a vs, v = .ref a ∧ H a = some (.lst vs) ∧ RelDs K W H ds vs := by
  cases d with
  | x => cases h
  | r n =>
    have h : (match st[n]? with | some (.lst ds) => some ds | none => none) = some ds := h
    split at h
    · rename_i ds' q
      cases h
      obtain ⟨a, vs, e, _, q1, q2⟩ := rel_lst R q r
      exact ⟨a, vs, e, q1, q2⟩
    · cases h
  | t x =>
    cases x with
    | lst ts =>
      cases h
      obtain ⟨a, vs, e, f, q, rr⟩ := r
      exact ⟨a, vs, e, q, relDs_t rr⟩
    | _ => cases h
def catT (ts us : List T) : Option D := if ts.length + us.length ≤ LIM then some (.t (.tup (ts ++ us))) else none
def catL (d e : D) (st : Sto) : Option D := (litems st d).bind fun ds => (litems st e).bind fun es => if ds.length + es.length ≤ LIM then (plains (ds ++ es)).map fun ts => .t (.lst ts) else none
def addM (d e : D) (st : Sto) : Option D := match d, e with
  | .t (.int i), .t (.int j) => some (iD (i + j))
  | .t (.str x), .t (.str y) => if x.length + y.length ≤ LIM then some (sD (x ++ y)) else none
  | .t (.tup ts), .t (.tup us) => catT ts us
  | d, e => catL d e st
theorem o_add : OpR X (binaryOp .Add) (rM X.K addM) := by
  have ho : OpR X (binaryOp .Add) _ := OpR.or op_add (OpR.or op_add_str (OpR.or op_catA op_cat))
  refine op_of ho fun W st d e x y H Q z R r1 r2 h q => ?_
  unfold addM at h
  split at h
  · cases h; cases r1; cases r2
    exact .inl ⟨_, _, rfl, rfl, q W H _ .refl R rfl⟩
  · split at h
    · rename_i c
      cases h; cases r1; cases r2
      exact .inr (.inl ⟨_, _, rfl, rfl, lim_size c, q W H _ .refl R rfl⟩)
    · cases h
  · unfold catT at h
    split at h
    · rename_i ts us c
      cases h
      obtain ⟨a, vs, rfl, q1, rr1⟩ := id r1
      obtain ⟨b, ws, rfl, q2, rr2⟩ := id r2
      have l1 := relTs_len rr1
      have l2 := relTs_len rr2
      refine .inr (.inr (.inl ⟨a, b, vs, ws, rfl, rfl, q1.sq, q2.sq, lim_size (by omega), fun e => ?_, fun _ e => ?_, fun _ _ p hp => ?_⟩))
      · subst e
        have ts0 : ts = [] := by cases ts with | nil => rfl | cons _ _ => cases l1
        subst ts0
        exact q W H _ .refl R r2
      · subst e
        have us0 : us = [] := by cases us with | nil => rfl | cons _ _ => cases l2
        subst us0
        refine q W H _ .refl R ?_
        rw [List.append_nil]
        exact r1
      · exact q W _ _ (R.more hp) (R.rest hp) ⟨p, _, rfl, Or.inl upd_same, (R.more hp).relTs R _ _ (relTs_append rr1 rr2)⟩
    · cases h
  · unfold catL at h
    cases e1 : litems st d with
    | none => rw [e1] at h; cases h
    | some ds =>
      cases e2 : litems st e with
      | none => rw [e1, e2] at h; cases h
      | some es =>
        rw [e1, e2] at h
        have h : (if ds.length + es.length ≤ LIM then (plains (ds ++ es)).map fun ts => D.t (.lst ts) else none) = some z := h
        split at h
        · rename_i c
          cases e3 : plains (ds ++ es) with
          | none => rw [e3] at h; cases h
          | some ts =>
            rw [e3] at h
            cases h
            obtain ⟨a, vs, rfl, q1, rr1⟩ := litems_rel R e1 r1
            obtain ⟨b, ws, rfl, q2, rr2⟩ := litems_rel R e2 r2
            have l1 := relDs_len rr1
            have l2 := relDs_len rr2
            refine .inr (.inr (.inr ⟨a, b, vs, ws, rfl, rfl, q1, q2, lim_size (by omega), fun p hp => ?_⟩))
            exact q (W.fix p) _ _ (Ext.fix W hp) (R.fix hp) ⟨p, _, rfl, .inr rfl, upd_same, (Ext.fix W hp).relTs R _ _ (relTs_of e3 (relDs_append rr1 rr2))⟩
        · cases h
def iaddM (d e : D) (_ : Sto) : Option D := match d, e with
  | .t (.int i), .t (.int j) => some (iD (i + j))
  | .t (.str x), .t (.str y) => if x.length + y.length ≤ LIM then some (sD (x ++ y)) else none
  | _, _ => none
theorem io_add : OpR X (inplaceOp .Add) (rM X.K iaddM) := by
  have ho : OpR X (inplaceOp .Add) _ := OpR.or iop_add iop_add_str
  refine op_of ho fun W st d e x y H Q z R r1 r2 h q => ?_
  unfold iaddM at h
  split at h
  · cases h; cases r1; cases r2
    exact .inl ⟨_, _, rfl, rfl, q W H _ .refl R rfl⟩
  · split at h
    · rename_i c
      cases h; cases r1; cases r2
      exact .inr ⟨_, _, rfl, rfl, lim_size c, q W H _ .refl R rfl⟩
    · cases h
  · cases h
/-- a tuple many times -/
def repM (d e : D) (_ : Sto) : Option D := match d, e with
  | .t (.tup ts), .t (.int k) => if ts ≠ [] ∧ 2 ≤ k ∧ k ≤ 1000 ∧ ts.length ≤ 1000 then some (.t (.tup (List.replicate k.toNat ts).flatten)) else none
  | _, _ => none
theorem relTs_rep {K : PySem.W.Frag} {F : Addr → Prop} {H : Hp} {ts : List T} {vs : List V} (h : RelTs K F H ts vs) : ∀ k : Nat, RelTs K F H (List.replicate k ts).flatten (List.replicate k vs).flatten
  | 0 => rfl
  | k + 1 => by
    (rw [List.replicate_succ, List.replicate_succ, List.flatten_cons, List.flatten_cons])
    exact relTs_append h (relTs_rep h k)
theorem o_rep : OpR X (binaryOp .Mult) (rM X.K repM) := op_of op_repT fun W st d e x y H Q z R r1 r2 h q => by
  unfold repM at h
  split at h
  · rename_i ts k
    split at h
    · rename_i c
      cases h
      obtain ⟨a, vs, rfl, q1, rr⟩ := r1
      cases r2
      have l1 := relTs_len rr
      refine ⟨a, k, vs, rfl, rfl, q1.sq, fun z => ?_, c.2.1, c.2.2.1, by omega, fun p hp => ?_⟩
      · rw [z] at l1
        cases ts with
        | nil => exact c.1 rfl
        | cons _ _ => cases l1
      · exact q W _ _ (R.more hp) (R.rest hp) ⟨p, _, rfl, Or.inl upd_same, (R.more hp).relTs R _ _ (relTs_rep rr _)⟩
    · cases h
  · cases h

/-! ### == and != -/
mutual
def pyT : T → Option PyData
  | .non => some .none
  | .bl b => some (.bool b)
  | .int i => some (.int i)
  | .str x => some (.str x)
  | .tup ts => (pyTs ts).map .tuple
  | .lst ts => (pyTs ts).map .list
  | .scr ts => (pyTs ts).map .list
  | .glb _ => none
  | .ty _ => none
def pyTs : List T → Option (List PyData)
  | [] => some []
  | t :: ts => (pyT t).bind fun p => (pyTs ts).map (p :: ·)
end
def pyD (st : Sto) (d : D) : Option PyData := match d with
  | .t x => pyT x
  | .r n => (items st (.r n)).bind fun ds => (plains ds).bind fun ts => (pyTs ts).map .list
  | .x .. => none
mutual
theorem dp_of {K : PySem.W.Frag} {F : Addr → Prop} {H : Hp} : ∀ (t : T) (p : PyData) (v : V), pyT t = some p → RelT K F H t v → Dp K H v p
  | .non, p, v, h, r => by cases h; cases r; exact .non
  | .bl b, p, v, h, r => by cases h; cases r; exact .bl b
  | .int b, p, v, h, r => by cases h; cases r; exact .int b
  | .str b, p, v, h, r => by cases h; cases r; exact .str b
  | .tup ts, p, v, h, r => by
    obtain ⟨a, vs, rfl, q, rr⟩ := r
    have h : (pyTs ts).map PyData.tuple = some p := h
    cases e : pyTs ts with
    | none => (rw [e] at h; cases h)
    | some ps =>
      rw [e] at h
      cases h
      exact .tup q.sq (dps_of ts ps vs e rr)
  | .lst ts, p, v, h, r => by
    obtain ⟨a, vs, rfl, f, q, rr⟩ := r
    have h : (pyTs ts).map PyData.list = some p := h
    cases e : pyTs ts with
    | none => (rw [e] at h; cases h)
    | some ps =>
      rw [e] at h
      cases h
      exact .lst (SqL.of q) (dps_of ts ps vs e rr)
  | .scr ts, p, v, h, r => by
    obtain ⟨a, vs, rfl, q, rr⟩ := r
    have h : (pyTs ts).map PyData.list = some p := h
    cases e : pyTs ts with
    | none => (rw [e] at h; cases h)
    | some ps =>
      rw [e] at h
      cases h
      exact .lst q.sq (dps_of ts ps vs e rr)
  | .glb _, p, v, h, r => by cases h
  | .ty _, p, v, h, r => by cases h
theorem dps_of {K : PySem.W.Frag} {F : Addr → Prop} {H : Hp} : ∀ (ts : List T) (ps : List PyData) (vs : List V), pyTs ts = some ps → RelTs K F H ts vs → DpAll K H vs ps
  | [], ps, vs, h, r => by cases h; cases r; exact .nil
  | t :: ts, ps, vs, h, r => by
    obtain ⟨v, u, rfl, r1, r2⟩ := r
    have h : ((pyT t).bind fun p => (pyTs ts).map (p :: ·)) = some ps := h
    cases e : pyT t with
    | none => (rw [e] at h; cases h)
    | some p =>
      rw [e] at h
      have h : (pyTs ts).map (p :: ·) = some ps := h
      cases e2 : pyTs ts with
      | none => rw [e2] at h; cases h
      | some qs =>
        rw [e2] at h
        cases h
        exact .cons (dp_of t p v e r1) (dps_of ts qs u e2 r2)
end
theorem dpD_of {K : PySem.W.Frag} {W : Wd} {H : Hp} {st : Sto} (R : Rl K W st H) {d : D} {p : PyData} {v : V} (h : pyD st d = some p) (r : RelD K W H d v) : Dp K H v p := by
  cases d with
  | t x => exact dp_of x p v h r
  | x => cases h
  | r n =>
    have h : ((items st (.r n)).bind fun ds => (plains ds).bind fun ts => (pyTs ts).map PyData.list) = some p := h
    cases e1 : items st (.r n) with
    | none => rw [e1] at h; cases h
    | some ds =>
      rw [e1] at h
      have h : ((plains ds).bind fun ts => (pyTs ts).map PyData.list) = some p := h
      cases e2 : plains ds with
      | none => rw [e2] at h; cases h
      | some ts =>
        rw [e2] at h
        have h : (pyTs ts).map PyData.list = some p := h
        cases e3 : pyTs ts with
        | none => rw [e3] at h; cases h
        | some ps =>
          rw [e3] at h
          cases h
          have r0 := r
          obtain ⟨a, e4, rfl⟩ := r
          have e1 : (match st[n]? with | some (.lst ds) => some ds | none => none) = some ds := e1
          split at e1
          · rename_i ds' q
            cases e1
            obtain ⟨vs, q1, q2⟩ := R.live n a _ e4 q
            exact .lst (SqL.of q1) (dps_of ts ps vs e3 (relTs_of e2 q2))
          · cases e1
/-- == by plain values -/
def eqB (d e : D) (st : Sto) : Option Bool := match d, e with
  | .t .non, .t .non => some true
  | .t (.bl x), .t (.bl y) => some (decide (x = y))
  | .t (.int x), .t (.int y) => some (decide (x = y))
  | .t (.str x), .t (.str y) => some (decide (x = y))
  | .t .non, .t (.int _) => some false
  | .t .non, .t (.str _) => some false
  | .t .non, .t (.bl _) => some false
  | .t (.int _), .t .non => some false
  | .t (.str _), .t .non => some false
  | .t (.bl _), .t .non => some false
  | .t (.int _), .t (.str _) => some false
  | .t (.str _), .t (.int _) => some false
  | .t (.bl _), .t (.str _) => some false
  | .t (.str _), .t (.bl _) => some false
  | d, e => (pyD st d).bind fun p => (pyD st e).bind fun q => if (SeqAt.shaped p && SeqAt.shaped q) = true then some (PyData.eqv p q) else none
def eqM (d e : D) (st : Sto) : Option D := (eqB d e st).map bD
def neM (d e : D) (st : Sto) : Option D := (eqB d e st).map fun b => bD (!b)
theorem eqB_rel {K : PySem.W.Frag} {W : Wd} {H : Hp} {st : Sto} (R : Rl K W st H) {d e : D} {b : Bool} {x y : V} (h : eqB d e st = some b) (r1 : RelD K W H d x) (r2 : RelD K W H e y) :
    (scal x y = true ∧ decide (x = y) = b) ∨ ∃ p q, Dp K H x p ∧ Dp K H y q ∧ SeqAt.shaped p = true ∧ SeqAt.shaped q = true ∧ PyData.eqv p q = b := by
  unfold eqB at h
  split at h
  case h_15 =>
    right
    cases e1 : pyD st d with
    | none => rw [e1] at h; cases h
    | some p =>
      cases e2 : pyD st e with
      | none => rw [e1, e2] at h; cases h
      | some q =>
        rw [e1, e2] at h
        have h : (if (SeqAt.shaped p && SeqAt.shaped q) = true then some (PyData.eqv p q) else none) = some b := h
        split at h
        · rename_i c
          rw [Bool.and_eq_true] at c
          exact ⟨p, q, dpD_of R e1 r1, dpD_of R e2 r2, c.1, c.2, Option.some.inj h⟩
        · cases h
  all_goals (left; cases h; cases r1; cases r2; exact ⟨rfl, by first | rfl | simp⟩)
theorem o_eq (hu : X.A.units + 64 < cLine) : OpR X (compareOp .Eq) (rM X.K eqM) := by
  have ho : OpR X (compareOp .Eq) _ := OpR.or op_eq (op_eqD hu)
  refine op_of ho fun W st d e x y H Q z R r1 r2 h q => ?_
  unfold eqM at h
  cases e1 : eqB d e st with
  | none => rw [e1] at h; cases h
  | some b =>
    rw [e1] at h
    cases h
    rcases eqB_rel R e1 r1 r2 with ⟨h1, h2⟩ | ⟨p, k, h1, h2, h3, h4, h5⟩
    · exact .inl ⟨h1, by rw [h2]; exact q W H _ .refl R rfl⟩
    · exact .inr ⟨p, k, h1, h2, h3, h4, by rw [h5]; exact q W H _ .refl R rfl⟩
theorem o_ne (hu : X.A.units + 64 < cLine) : OpR X (compareOp .NotEq) (rM X.K neM) := by
  have ho : OpR X (compareOp .NotEq) _ := OpR.or op_ne (op_neD hu)
  refine op_of ho fun W st d e x y H Q z R r1 r2 h q => ?_
  unfold neM at h
  cases e1 : eqB d e st with
  | none => rw [e1] at h; cases h
  | some b =>
    rw [e1] at h
    cases h
    rcases eqB_rel R e1 r1 r2 with ⟨h1, h2⟩ | ⟨p, k, h1, h2, h3, h4, h5⟩
    · exact .inl ⟨h1, by rw [h2]; exact q W H _ .refl R rfl⟩
    · exact .inr ⟨p, k, h1, h2, h3, h4, by rw [h5]; exact q W H _ .refl R rfl⟩
/-! ### is -/
def isB (d e : D) : Option Bool := match d, e with
  | .t (.bl x), .t (.bl y) => some (decide (x = y))
  | .t .non, .t .non => some true
  | .t (.bl _), .t .non => some false
  | .t (.int _), .t .non => some false
  | .t (.str _), .t .non => some false
  | .t (.tup _), .t .non => some false
  | .t (.lst _), .t .non => some false
  | .r _, .t .non => some false
  | _, _ => none
def isM (d e : D) (_ : Sto) : Option D := (isB d e).map bD
def isntM (d e : D) (_ : Sto) : Option D := (isB d e).map fun b => bD (!b)
theorem isB_rel {K : PySem.W.Frag} {W : Wd} {H : Hp} {d e : D} {b : Bool} {x y : V} (h : isB d e = some b) (r1 : RelD K W H d x) (r2 : RelD K W H e y) :
    (∃ p q, x = .bl p ∧ y = .bl q ∧ decide (p = q) = b) ∨ (y = .non ∧ decide (x = .non) = b) := by
  unfold isB at h
  split at h
  · cases h; cases r1; cases r2; exact .inl ⟨_, _, rfl, rfl, rfl⟩
  · cases h; cases r1; cases r2; exact .inr ⟨rfl, rfl⟩
  · cases h; cases r1; cases r2; exact .inr ⟨rfl, rfl⟩
  · cases h; cases r1; cases r2; exact .inr ⟨rfl, rfl⟩
  · cases h; cases r1; cases r2; exact .inr ⟨rfl, rfl⟩
  · cases h; obtain ⟨a, vs, rfl, _⟩ := r1; cases r2; exact .inr ⟨rfl, rfl⟩
  · cases h; obtain ⟨a, vs, rfl, _⟩ := r1; cases r2; exact .inr ⟨rfl, rfl⟩
  · cases h; obtain ⟨a, _, rfl⟩ := r1; cases r2; exact .inr ⟨rfl, rfl⟩
  · cases h
theorem o_is : OpR X (compareOp .Is) (rM X.K isM) := by
  have ho : OpR X (compareOp .Is) _ := OpR.or op_is_bl op_isN
  refine op_of ho fun W st d e x y H Q z R r1 r2 h q => ?_
  unfold isM at h
  cases e1 : isB d e with
  | none => rw [e1] at h; cases h
  | some b =>
    rw [e1] at h
    cases h
    rcases isB_rel e1 r1 r2 with ⟨p, k, rfl, rfl, h2⟩ | ⟨rfl, h2⟩
    · exact .inl ⟨p, k, rfl, rfl, by rw [h2]; exact q W H _ .refl R rfl⟩
    · exact .inr ⟨rfl, by rw [h2]; exact q W H _ .refl R rfl⟩
theorem o_isnt : OpR X (compareOp .IsNot) (rM X.K isntM) := by
  have ho : OpR X (compareOp .IsNot) _ := OpR.or op_isnot_bl op_notN
  refine op_of ho fun W st d e x y H Q z R r1 r2 h q => ?_
  unfold isntM at h
  cases e1 : isB d e with
  | none => rw [e1] at h; cases h
  | some b =>
    rw [e1] at h
    cases h
    rcases isB_rel e1 r1 r2 with ⟨p, k, rfl, rfl, h2⟩ | ⟨rfl, h2⟩
    · exact .inl ⟨p, k, rfl, rfl, by rw [h2]; exact q W H _ .refl R rfl⟩
    · exact .inr ⟨rfl, by rw [h2]; exact q W H _ .refl R rfl⟩
/-! ### in -/
def tV : T → Option V
  | .non => some .non
  | .bl b => some (.bl b)
  | .int i => some (.int i)
  | .str x => some (.str x)
  | _ => none
def tVs : List D → Option (List V)
  | [] => some []
  | .t x :: r => (tV x).bind fun v => (tVs r).map (v :: ·)
  | .r _ :: _ => none
  | .x .. :: _ => none
theorem tV_rel {K : PySem.W.Frag} {F : Addr → Prop} {H : Hp} {t : T} {v w : V} (h : tV t = some v) (r : RelT K F H t w) : w = v ∧ flatV v = true := by
  cases t <;> cases h <;> cases r <;> exact ⟨rfl, rfl⟩
theorem tVs_rel {K : PySem.W.Frag} {W : Wd} {H : Hp} : ∀ {ds : List D} {vs ws : List V}, tVs ds = some vs → RelDs K W H ds ws → ws = vs ∧ vs.all flatV = true
  | [], vs, ws, h, r => by cases h; cases r; exact ⟨rfl, rfl⟩
  | .r n :: ds, vs, ws, h, r => by cases h
  | .x .. :: ds, vs, ws, h, r => by cases h
  | .t x :: ds, vs, ws, h, r => by
    obtain ⟨w, u, rfl, r1, r2⟩ := r
    have h : ((tV x).bind fun v => (tVs ds).map (v :: ·)) = some vs := h
    cases e : tV x with
    | none => (rw [e] at h; cases h)
    | some v =>
      rw [e] at h
      have h : (tVs ds).map (v :: ·) = some vs := h
      cases e2 : tVs ds with
      | none => rw [e2] at h; cases h
      | some us =>
        rw [e2] at h
        cases h
        obtain ⟨e3, f3⟩ := tV_rel e r1
        obtain ⟨e4, f4⟩ := tVs_rel e2 r2
        subst e3; subst e4
        exact ⟨rfl, by rw [List.all_cons, f3, f4]; rfl⟩
def inB (d e : D) (st : Sto) : Option Bool := match d, e with
  | .t (.str x), .t (.str y) => some (!(Builtin.Str.occurrences y x 0 y.length 1).isEmpty)
  | .t x, e => (tV x).bind fun v => (items st e).bind fun ds => (tVs ds).map fun vs => inV v vs
  | _, _ => none
def inM (d e : D) (st : Sto) : Option D := (inB d e st).map bD
def notInM (d e : D) (st : Sto) : Option D := (inB d e st).map fun b => bD (!b)
theorem inB_rel {K : PySem.W.Frag} {W : Wd} {H : Hp} {st : Sto} (R : Rl K W st H) {d e : D} {b : Bool} {x y : V} (h : inB d e st = some b) (r1 : RelD K W H d x) (r2 : RelD K W H e y) :
    (∃ i j, x = .str i ∧ y = .str j ∧ (!(Builtin.Str.occurrences j i 0 j.length 1).isEmpty) = b) ∨ ∃ p xs, y = .ref p ∧ (SqL K H p xs ∨ SqT K H p xs) ∧ flatV x = true ∧ xs.all flatV = true ∧ inV x xs = b := by
  unfold inB at h
  split at h
  · cases h; cases r1; cases r2; exact .inl ⟨_, _, rfl, rfl, rfl⟩
  · rename_i t _
    right
    cases e1 : tV t with
    | none => rw [e1] at h; cases h
    | some v =>
      cases e2 : items st e with
      | none => rw [e1, e2] at h; cases h
      | some ds =>
        rw [e1, e2] at h
        have h : (tVs ds).map (fun vs => inV v vs) = some b := h
        cases e3 : tVs ds with
        | none => rw [e3] at h; cases h
        | some vs =>
          rw [e3] at h
          cases h
          obtain ⟨a, ws, rfl, sq, rr⟩ := items_seq R e2 r2
          obtain ⟨rfl, f1⟩ := tV_rel e1 r1
          obtain ⟨rfl, f2⟩ := tVs_rel e3 rr
          exact ⟨a, _, rfl, sq, f1, f2, rfl⟩
  · cases h
theorem o_in : OpR X (compareOp .In) (rM X.K inM) := by
  have ho : OpR X (compareOp .In) _ := OpR.or op_in_str op_in_seq
  refine op_of ho fun W st d e x y H Q z R r1 r2 h q => ?_
  unfold inM at h
  cases e1 : inB d e st with
  | none => rw [e1] at h; cases h
  | some b =>
    rw [e1] at h
    cases h
    rcases inB_rel R e1 r1 r2 with ⟨p, k, rfl, rfl, h2⟩ | ⟨p, xs, rfl, h1, h2, h3, h4⟩
    · exact .inl ⟨p, k, rfl, rfl, by rw [h2]; exact q W H _ .refl R rfl⟩
    · exact .inr ⟨p, xs, rfl, h1, h2, h3, by rw [h4]; exact q W H _ .refl R rfl⟩
theorem o_notIn : OpR X (compareOp .NotIn) (rM X.K notInM) := by
  have ho : OpR X (compareOp .NotIn) _ := OpR.or op_notIn_str op_notIn_seq
  refine op_of ho fun W st d e x y H Q z R r1 r2 h q => ?_
  unfold notInM at h
  cases e1 : inB d e st with
  | none => rw [e1] at h; cases h
  | some b =>
    rw [e1] at h
    cases h
    rcases inB_rel R e1 r1 r2 with ⟨p, k, rfl, rfl, h2⟩ | ⟨p, xs, rfl, h1, h2, h3, h4⟩
    · exact .inl ⟨p, k, rfl, rfl, by rw [h2]; exact q W H _ .refl R rfl⟩
    · exact .inr ⟨p, xs, rfl, h1, h2, h3, by rw [h4]; exact q W H _ .refl R rfl⟩
end
end Mi
/-! Mir4 -/
namespace Mi
open L2 PySem PySem.Spec PyProof.Rows
section
variable {X : Cx} {Wx : WX} {a b c e o : Expr} {fa fb f : Env → Sto → Res D} {fs : List (Env → Sto → Res D)} {es : List Expr} {pos p p2 : Pos}

/-! ### subscripts -/
def ixM (d e : D) (st : Sto) : Option D := match d, e with
  | .t (.str x), .t (.int i) => if x.length ≤ LIM then (atI x.cps.toList i).map fun c => sD ⟨#[c]⟩ else none
  | d, .t (.int i) => (items st d).bind fun ds => atI ds i
  | _, _ => none
theorem atI_rel {K : PySem.W.Frag} {W : Wd} {H : Hp} {ds : List D} {vs : List V} {i : Int} {z : D} (r : RelDs K W H ds vs) (h : atI ds i = some z) : ∃ v, atI vs i = some v ∧ RelD K W H z v := by
  unfold atI at h
  cases q : ixN ds.length i with
  | none => rw [q] at h; cases h
  | some j =>
    rw [q] at h
    obtain ⟨v, e1, r1⟩ := relDs_get r (show ds[j]? = some z from h)
    refine ⟨v, ?_, r1⟩
    unfold atI
    rw [relDs_len r, q]
    exact e1
theorem x_ix : IxR X (rM X.K ixM) := by
  intro value slice pins s σ H x y v u Q I rx ry ⟨W, st, d, e, R, r1, r2, z, h, q⟩ hs
  unfold ixM at h
  split at h
  · split at h
    · rename_i t i hl
      cases r1; cases r2
      cases e1 : atI t.cps.toList i with
      | none => rw [e1] at h; cases h
      | some c =>
        rw [e1] at h
        cases h
        exact ix_str value slice pins s σ H _ _ v u Q I rx ry ⟨t, i, c, rfl, rfl, lim_size hl, e1, q W H _ .refl R rfl⟩ hs
    · cases h
  · rename_i i _
    cases r2
    cases e1 : items st d with
    | none => rw [e1] at h; cases h
    | some ds =>
      rw [e1] at h
      obtain ⟨a, vs, rfl, sq, rr⟩ := items_seq R e1 r1
      obtain ⟨w, e2, r3⟩ := atI_rel rr h
      have qq := q W H _ .refl R r3
      rcases sq with sq | sq
      · exact ix_list value slice pins s σ H _ _ v u Q I rx ry ⟨a, vs, i, w, rfl, rfl, sq, e2, qq⟩ hs
      · exact ix_tup value slice pins s σ H _ _ v u Q I rx ry ⟨a, vs, i, w, rfl, rfl, sq, e2, qq⟩ hs
  · cases h
theorem re_ix {g : D → D → Sto → Option D} (hr : IxR X (rM X.K g)) (ha : RE X Wx a fa) (hb : RE X Wx b fb) (hs : PlainIx b := by exact fun _ _ => rfl) : RE X Wx (.Subscript a b pos) (bin g fa fb) :=
  PE.conv (pe_ix hr ha hb hs) fun _ _ _ h => two h
/-! ### slices -/
def cutG {α : Type} (xs : List α) (lo hi : Option Int) : List α := (xs.drop (HT.sIx xs.length 0 lo)).take (HT.sIx xs.length xs.length hi - HT.sIx xs.length 0 lo)
theorem cutG_V (xs : List V) (lo hi : Option Int) : cutG xs lo hi = cutV xs lo hi := rfl
theorem relTs_cut {K : PySem.W.Frag} {F : Addr → Prop} {H : Hp} {ts : List T} {vs : List V} {lo hi : Option Int} (r : RelTs K F H ts vs) : RelTs K F H (cutG ts lo hi) (cutV vs lo hi) := by
  unfold cutG cutV
  rw [relTs_len r]
  exact relTs_take _ (relTs_drop _ r)
def tO (K : PySem.W.Frag) (Wx : WX) (f : Env → Sto → Res (Option Int)) : TO := fun σ H Q => ∃ W env st, Rl K W st H ∧ EnvR K W H env σ ∧
  (f env st).Holds (fun o st' => ∀ W' H', Ext W H W' H' → Rl K W' st' H' → Q o H') (OkX K W H fun c o H' => Wx c o σ H')
abbrev RO (X : Cx) (Wx : WX) (e : Option Expr) (f : Env → Sto → Res (Option Int)) : Prop := PO X e (tO X.K Wx f)
theorem PO.conv {e : Option Expr} {t t' : TO} (h : PO X e t) (g : ∀ σ H Q, t' σ H Q → t σ H Q) : PO X e t' := ⟨fun pins s σ H Q I q => h.run pins s σ H Q I (g σ H Q q)⟩
def oNone (_ : Env) (st : Sto) : Res (Option Int) := .ok none st
def oSome (f : Env → Sto → Res D) (env : Env) (st : Sto) : Res (Option Int) := (f env st).bind fun d st1 => match d with
  | .t (.int i) => .ok (some i) st1
  | _ => .bad
theorem ro_none : RO X Wx none oNone := PO.conv po_none fun σ H Q ⟨W, env, st, R, Ev, h⟩ => h W H .refl R
theorem ro_some (he : RE X Wx e f) : RO X Wx (some e) (oSome f) := by
  refine PO.conv (po_some he) fun σ H Q ⟨W, env, st, R, Ev, h⟩ => ⟨W, env, st, R, Ev, split h (fun d st1 h1 W1 H1 v E1 R1 r1 => ?_) fun C fs st' hx => hx⟩
  split at h1
  · cases r1; exact ⟨_, rfl, h1 W1 H1 E1 R1⟩
  · exact h1.elim
def slM (d : D) (lo hi : Option Int) (st : Sto) : Option D := match d with
  | .t (.tup ts) => some (.t (.tup (cutG ts lo hi)))
  | d => (lsq st d).bind fun ds => (plains ds).map fun ts => .t (.lst (cutG ts lo hi))
def sliceM (f : Env → Sto → Res D) (fl fh : Env → Sto → Res (Option Int)) (env : Env) (st : Sto) : Res D := (f env st).bind fun d st1 => (fl env st1).bind fun lo st2 => (fh env st2).bind fun hi st3 => optR (slM d lo hi st3) st3
theorem sIx_all {n : Nat} {lo hi : Option Int} (h : HT.sIx n 0 lo = 0 ∧ HT.sIx n n hi = n) {α : Type} {xs : List α} (hl : xs.length = n) : cutG xs lo hi = xs := by
  unfold cutG
  rw [hl, h.1, h.2, List.drop_zero, Nat.sub_zero, ← hl, List.take_length]
theorem sl_any : SlR X (fun x lo hi H Q => ∃ W st d, Rl X.K W st H ∧ RelD X.K W H d x ∧ ∃ z, slM d lo hi st = some z ∧ OkD X.K W H Q z st) := by
  intro pins s σ H x v vl vu lo hi sl Q I rx hs pl pu ⟨W, st, d, R, r1, z, h, q⟩
  unfold slM at h
  split at h
  · rename_i ts
    cases h
    obtain ⟨a, vs, rfl, sq, rr⟩ := id r1
    have l := relTs_len rr
    refine sl_tupA pins s σ H _ v vl vu lo hi sl Q I rx hs pl pu ⟨a, vs, rfl, sq.sq, fun hw => ?_, fun _ p hp => ?_⟩
    · refine q W H _ .refl R ?_
      rw [sIx_all hw l.symm]
      exact r1
    · exact q W _ _ (R.more hp) (R.rest hp) ⟨p, _, rfl, Or.inl upd_same, (R.more hp).relTs R _ _ (relTs_cut rr)⟩
  · cases e1 : lsq st d with
    | none => rw [e1] at h; cases h
    | some ds =>
      rw [e1] at h
      have h : (plains ds).map (fun ts => D.t (.lst (cutG ts lo hi))) = some z := h
      cases e2 : plains ds with
      | none => rw [e2] at h; cases h
      | some ts =>
        rw [e2] at h
        cases h
        obtain ⟨a, vs, rfl, nt, rr⟩ := lsq_rel R e1 r1
        exact sl_list pins s σ H _ v vl vu lo hi sl Q I rx hs pl pu ⟨a, vs, rfl, nt, fun p hp => q (W.fix p) _ _ (Ext.fix W hp) (R.fix hp) ⟨p, _, rfl, .inr rfl, upd_same, (Ext.fix W hp).relTs R _ _ (relTs_cut (relTs_of e2 rr))⟩⟩
theorem re_slice {lo hi : Option Expr} {fl fh : Env → Sto → Res (Option Int)} (he : RE X Wx e f) (hl : RO X Wx lo fl) (hh : RO X Wx hi fh) : RE X Wx (.Subscript e (.Slice lo hi none p2) pos) (sliceM f fl fh) := by
  refine PE.conv (pe_slice sl_any he hl hh) fun σ H Q ⟨W, env, st, R, Ev, h⟩ => ⟨W, env, st, R, Ev, split h (fun d st1 h1 W1 H1 v E1 R1 r1 => ?_) fun C fs st' hx => hx⟩
  refine ⟨W1, env, st1, R1, Ev.mono E1 R, split h1 (fun lo st2 h2 W2 H2 E2 R2 => ?_) fun C fs st' hx => hx.mono E1⟩
  refine ⟨W2, env, st2, R2, (Ev.mono E1 R).mono E2 R1, split h2 (fun hi st3 h3 W3 H3 E3 R3 => ?_) fun C fs st' hx => hx.mono (E1.trans E2)⟩
  obtain ⟨z, e1, q⟩ := optR_holds h3
  exact ⟨W3, st3, d, R3, (E2.trans E3).relD R1 r1, z, e1, q.mono (E1.trans (E2.trans E3))⟩

/-! ### built-in functions and types by name -/
def rC (K : PySem.W.Frag) (g : List D → Sto → Option D) : List V → Hp → VK → Prop := fun xs H Q => ∃ W st ds, Rl K W st H ∧ RelDs K W H ds xs ∧ ∃ z, g ds st = some z ∧ OkD K W H Q z st
def callB (g : List D → Sto → Option D) (fs : List (Env → Sto → Res D)) (env : Env) (st : Sto) : Res D := (argsM fs env st).bind fun ds st1 => optR (g ds st1) st1
theorem callB_conv {K : PySem.W.Frag} {g : List D → Sto → Option D} {σ : L2.St} {H : Hp} {Q : VK} (h : tE K Wx (callB g fs) σ H Q) : tCB (rC K g) (tA K Wx (argsM fs)) σ H Q := by
  obtain ⟨W, env, st, R, Ev, h⟩ := h
  refine ⟨W, env, st, R, Ev, split h (fun ds st1 h1 W1 H1 vs E1 R1 r1 => ?_) fun C fs st' hx => hx⟩
  obtain ⟨z, e1, q⟩ := optR_holds h1
  exact ⟨W1, st1, ds, R1, r1, z, e1, q.mono E1⟩
theorem re_callB {x : Str} {id : String} {g : List D → Sto → Option D} (hc : CallR X (.builtin id) (rC X.K g)) (hg : Gl X x) (hm : X.mg x = none) (hv : bootBuiltins x = some (.builtin id)) (ha : RA X Wx (e :: es) (argsM fs)) (hn : x ≠ "__name__" := by decide) (hdb : (x == ("__debug__" : Str)) = false := by decide)
    (he : starEach (e :: es) X.env = (false, eval e X.env) :: starEach es X.env := by rfl) (hpl : (backTo pos (starEach es X.env)).any (·.1) = false := by rfl) : RE X Wx (.Call (.Name x p) (e :: es) [] pos) (callB g fs) :=
  PE.conv (pe_callB hc hg hm hv ha hn hdb he hpl) fun _ _ _ h => callB_conv h
theorem re_callTy {x : Str} {n : String} {g : List D → Sto → Option D} (hc : CallR X (.type n) (rC X.K g)) (hg : Gl X x) (hm : X.mg x = none) (hv : bootBuiltins x = some (.type n)) (ha : RA X Wx (e :: es) (argsM fs)) (hn : x ≠ "__name__" := by decide) (hdb : (x == ("__debug__" : Str)) = false := by decide)
    (he : starEach (e :: es) X.env = (false, eval e X.env) :: starEach es X.env := by rfl) (hpl : (backTo pos (starEach es X.env)).any (·.1) = false := by rfl) : RE X Wx (.Call (.Name x p) (e :: es) [] pos) (callB g fs) :=
  PE.conv (pe_callTy hc hg hm hv ha hn hdb he hpl) fun _ _ _ h => callB_conv h
theorem call_of {fv : Value} {g : List D → Sto → Option D} {r : List V → Hp → VK → Prop} (ho : CallR X fv r)
    (h : ∀ W st ds xs H Q z, Rl X.K W st H → RelDs X.K W H ds xs → g ds st = some z → OkD X.K W H Q z st → r xs H Q) : CallR X fv (rC X.K g) := by
  intro pins s σ H xs us Q I rx ⟨W, st, ds, R, r1, z, e1, q⟩
  exact ho pins s σ H xs us Q I rx (h W st ds xs H Q z R r1 e1 q)
theorem rel1 {K : PySem.W.Frag} {W : Wd} {H : Hp} {d : D} {xs : List V} (r : RelDs K W H [d] xs) : ∃ v, xs = [v] ∧ RelD K W H d v := by
  obtain ⟨v, u, rfl, r1, rfl⟩ := r
  exact ⟨v, rfl, r1⟩
theorem rel2 {K : PySem.W.Frag} {W : Wd} {H : Hp} {d e : D} {xs : List V} (r : RelDs K W H [d, e] xs) : ∃ v w, xs = [v, w] ∧ RelD K W H d v ∧ RelD K W H e w := by
  obtain ⟨v, u, rfl, r1, w, u2, rfl, r2, rfl⟩ := r
  exact ⟨v, w, rfl, r1, r2⟩
def lenB (ds : List D) (st : Sto) : Option D := match ds with
  | [.t (.str x)] => if x.length ≤ LIM then some (iD x.length) else none
  | [d] => (items st d).map fun is => iD is.length
  | _ => none
theorem c_len : CallR X (.builtin "len") (rC X.K lenB) := call_of call_len fun W st ds xs H Q z R r h q => by
  unfold lenB at h
  split at h
  · split at h
    · rename_i x hl
      cases h
      obtain ⟨v, rfl, r1⟩ := rel1 r
      cases r1
      exact ⟨_, _, rfl, ⟨lim_size hl, rfl⟩, q W H _ .refl R rfl⟩
    · cases h
  · rename_i d _
    obtain ⟨v, rfl, r1⟩ := rel1 r
    cases e1 : items st d with
    | none => rw [e1] at h; cases h
    | some is =>
      rw [e1] at h
      cases h
      obtain ⟨a, vs, rfl, sq, rr⟩ := items_seq R e1 r1
      refine ⟨_, is.length, rfl, ?_, q W H _ .refl R rfl⟩
      rcases sq with sq | sq
      · exact .inl ⟨vs, sq, (relDs_len rr).symm⟩
      · exact .inr ⟨vs, sq, (relDs_len rr).symm⟩
  · cases h
def absB (ds : List D) (_ : Sto) : Option D := match ds with
  | [.t (.int i)] => some (iD (if i < 0 then -i else i))
  | _ => none
theorem c_abs : CallR X (.builtin "abs") (rC X.K absB) := call_of call_abs fun W st ds xs H Q z R r h q => by
  unfold absB at h
  split at h
  · cases h; obtain ⟨v, rfl, r1⟩ := rel1 r; cases r1; exact ⟨_, rfl, q W H _ .refl R rfl⟩
  · cases h
def intB (ds : List D) (_ : Sto) : Option D := match ds with
  | [.t (.int i)] => some (iD i)
  | [.t (.bl k)] => some (iD (if k then 1 else 0))
  | _ => none
theorem c_int : CallR X (.type "int") (rC X.K intB) := call_of call_int1 fun W st ds xs H Q z R r h q => by
  unfold intB at h
  split at h
  · cases h; obtain ⟨v, rfl, r1⟩ := rel1 r; cases r1; exact .inl ⟨_, rfl, q W H _ .refl R rfl⟩
  · cases h; obtain ⟨v, rfl, r1⟩ := rel1 r; cases r1; exact .inr ⟨_, rfl, q W H _ .refl R rfl⟩
  · cases h
/-- whole numbers, truth values of a list -/
def intsOf : List D → Option (List Int)
  | [] => some []
  | .t (.int i) :: r => (intsOf r).map (i :: ·)
  | _ => none
def blsOf : List D → Option (List Bool)
  | [] => some []
  | .t (.bl i) :: r => (blsOf r).map (i :: ·)
  | _ => none
theorem intsOf_rel {K : PySem.W.Frag} {W : Wd} {H : Hp} : ∀ {ds : List D} {ns : List Int} {vs : List V}, intsOf ds = some ns → RelDs K W H ds vs → vs = ns.map V.int
  | [], ns, vs, h, r => by cases h; exact r
  | d :: ds, ns, vs, h, r => by
    obtain ⟨v, u, rfl, r1, r2⟩ := r
    unfold intsOf at h
    split at h
    · rename_i heq; cases heq
    · rename_i i r' heq
      cases heq
      cases e : intsOf ds with
      | none => (rw [e] at h; cases h)
      | some ms =>
        rw [e] at h
        cases h
        cases r1
        rw [intsOf_rel e r2]; rfl
    · cases h
theorem blsOf_rel {K : PySem.W.Frag} {W : Wd} {H : Hp} : ∀ {ds : List D} {ns : List Bool} {vs : List V}, blsOf ds = some ns → RelDs K W H ds vs → vs = ns.map V.bl
  | [], ns, vs, h, r => by cases h; exact r
  | d :: ds, ns, vs, h, r => by
    obtain ⟨v, u, rfl, r1, r2⟩ := r
    unfold blsOf at h
    split at h
    · rename_i heq; cases heq
    · rename_i i r' heq
      cases heq
      cases e : blsOf ds with
      | none => (rw [e] at h; cases h)
      | some ms =>
        rw [e] at h
        cases h
        cases r1
        rw [blsOf_rel e r2]; rfl
    · cases h
def allB (ds : List D) (st : Sto) : Option D := match ds with
  | [d] => (lsq st d).bind fun is => (blsOf is).map fun bs => bD (bs.all id)
  | _ => none
def anyB (ds : List D) (st : Sto) : Option D := match ds with
  | [d] => (lsq st d).bind fun is => (blsOf is).map fun bs => bD (bs.any id)
  | _ => none
theorem c_all (hc : X.calm = true) : CallR X (.builtin "all") (rC X.K allB) := call_of (cr_all hc) fun W st ds xs H Q z R r h q => by
  unfold allB at h
  split at h
  · rename_i d
    obtain ⟨v, rfl, r1⟩ := rel1 r
    cases e1 : lsq st d with
    | none => rw [e1] at h; cases h
    | some is =>
      rw [e1] at h
      have h : (blsOf is).map (fun bs => bD (bs.all id)) = some z := h
      cases e2 : blsOf is with
      | none => rw [e2] at h; cases h
      | some bs =>
        rw [e2] at h
        cases h
        obtain ⟨a, vs, rfl, sq, rr⟩ := lsq_rel R e1 r1
        exact ⟨a, bs, rfl, by rw [← blsOf_rel e2 rr]; exact sq, q W H _ .refl R rfl⟩
  · cases h
theorem c_any (hc : X.calm = true) : CallR X (.builtin "any") (rC X.K anyB) := call_of (cr_any hc) fun W st ds xs H Q z R r h q => by
  unfold anyB at h
  split at h
  · rename_i d
    obtain ⟨v, rfl, r1⟩ := rel1 r
    cases e1 : lsq st d with
    | none => rw [e1] at h; cases h
    | some is =>
      rw [e1] at h
      have h : (blsOf is).map (fun bs => bD (bs.any id)) = some z := h
      cases e2 : blsOf is with
      | none => rw [e2] at h; cases h
      | some bs =>
        rw [e2] at h
        cases h
        obtain ⟨a, vs, rfl, sq, rr⟩ := lsq_rel R e1 r1
        exact ⟨a, bs, rfl, by rw [← blsOf_rel e2 rr]; exact sq, q W H _ .refl R rfl⟩
  · cases h
def sumB (ds : List D) (st : Sto) : Option D := match ds with
  | [d] => (lsq st d).bind fun is => (intsOf is).map fun bs => iD bs.sum
  | _ => none
theorem c_sum (hc : X.calm = true) : CallR X (.builtin "sum") (rC X.K sumB) := call_of (cr_sum hc) fun W st ds xs H Q z R r h q => by
  unfold sumB at h
  split at h
  · rename_i d
    obtain ⟨v, rfl, r1⟩ := rel1 r
    cases e1 : lsq st d with
    | none => rw [e1] at h; cases h
    | some is =>
      rw [e1] at h
      have h : (intsOf is).map (fun bs => iD bs.sum) = some z := h
      cases e2 : intsOf is with
      | none => rw [e2] at h; cases h
      | some bs =>
        rw [e2] at h
        cases h
        obtain ⟨a, vs, rfl, sq, rr⟩ := lsq_rel R e1 r1
        exact ⟨a, bs, rfl, by rw [← intsOf_rel e2 rr]; exact sq, q W H _ .refl R rfl⟩
  · cases h
/-- the greatest, the least -/
def top : List Int → Int
  | [] => 0
  | [x] => x
  | x :: y :: r => top ((if x < y then y else x) :: r)
termination_by l => l.length
def bot : List Int → Int
  | [] => 0
  | [x] => x
  | x :: y :: r => bot ((if y < x then y else x) :: r)
termination_by l => l.length
theorem top_mem : ∀ (n : Nat) (l : List Int), l.length = n + 1 → top l ∈ l ∧ ∀ y ∈ l, y ≤ top l
  | 0, [x], _ => by rw [top]; exact ⟨by simp, fun y h => by simp at h; omega⟩
  | n + 1, x :: y :: r, h => by
    rw [top]
    by_cases c : x < y
    · rw [if_pos c]
      obtain ⟨h1, h2⟩ := top_mem n (y :: r) (by simpa using h)
      refine ⟨List.mem_cons_of_mem _ h1, fun z hz => ?_⟩
      have h3 := h2 y List.mem_cons_self
      rcases List.mem_cons.mp hz with e | e
      · omega
      · exact h2 z e
    · rw [if_neg c]
      obtain ⟨h1, h2⟩ := top_mem n (x :: r) (by simpa using h)
      have h3 := h2 x List.mem_cons_self
      refine ⟨?_, fun z hz => ?_⟩
      · rcases List.mem_cons.mp h1 with e | e
        · rw [e]; exact List.mem_cons_self
        · exact List.mem_cons_of_mem _ (List.mem_cons_of_mem _ e)
      · rcases List.mem_cons.mp hz with e | e
        · omega
        · (rcases List.mem_cons.mp e with e | e)
          · omega
          · exact h2 z (List.mem_cons_of_mem _ e)
theorem bot_mem : ∀ (n : Nat) (l : List Int), l.length = n + 1 → bot l ∈ l ∧ ∀ y ∈ l, bot l ≤ y
  | 0, [x], _ => by rw [bot]; exact ⟨by simp, fun y h => by simp at h; omega⟩
  | n + 1, x :: y :: r, h => by
    rw [bot]
    by_cases c : y < x
    · rw [if_pos c]
      obtain ⟨h1, h2⟩ := bot_mem n (y :: r) (by simpa using h)
      refine ⟨List.mem_cons_of_mem _ h1, fun z hz => ?_⟩
      have h3 := h2 y List.mem_cons_self
      rcases List.mem_cons.mp hz with e | e
      · omega
      · exact h2 z e
    · rw [if_neg c]
      obtain ⟨h1, h2⟩ := bot_mem n (x :: r) (by simpa using h)
      have h3 := h2 x List.mem_cons_self
      refine ⟨?_, fun z hz => ?_⟩
      · rcases List.mem_cons.mp h1 with e | e
        · rw [e]; exact List.mem_cons_self
        · exact List.mem_cons_of_mem _ (List.mem_cons_of_mem _ e)
      · rcases List.mem_cons.mp hz with e | e
        · omega
        · (rcases List.mem_cons.mp e with e | e)
          · omega
          · exact h2 z (List.mem_cons_of_mem _ e)
def maxB (ds : List D) (st : Sto) : Option D := match ds with
  | [.t (.int i), .t (.int j)] => some (iD (if j > i then j else i))
  | [d] => (lsq st d).bind fun is => (intsOf is).bind fun bs => if 0 < bs.length then some (iD (top bs)) else none
  | _ => none
def minB (ds : List D) (st : Sto) : Option D := match ds with
  | [.t (.int i), .t (.int j)] => some (iD (if j < i then j else i))
  | [d] => (lsq st d).bind fun is => (intsOf is).bind fun bs => if 0 < bs.length then some (iD (bot bs)) else none
  | _ => none
theorem c_max (hc : X.calm = true) : CallR X (.builtin "max") (rC X.K maxB) := call_of (CallR.or (call_max2 hc) (cr_max hc)) fun W st ds xs H Q z R r h q => by
  unfold maxB at h
  split at h
  · cases h; obtain ⟨v, w, rfl, r1, r2⟩ := rel2 r; cases r1; cases r2; exact .inl ⟨_, _, rfl, q W H _ .refl R rfl⟩
  · rename_i d
    obtain ⟨v, rfl, r1⟩ := rel1 r
    cases e1 : lsq st d with
    | none => rw [e1] at h; cases h
    | some is =>
      rw [e1] at h
      have h : (intsOf is).bind (fun bs => if 0 < bs.length then some (iD (top bs)) else none) = some z := h
      cases e2 : intsOf is with
      | none => rw [e2] at h; cases h
      | some bs =>
        rw [e2] at h
        have h : (if 0 < bs.length then some (iD (top bs)) else none) = some z := h
        split at h
        · rename_i hl
          cases h
          obtain ⟨a, vs, rfl, sq, rr⟩ := lsq_rel R e1 r1
          refine .inr ⟨a, bs, rfl, by rw [← intsOf_rel e2 rr]; exact sq, hl, fun m hm hu => ?_⟩
          obtain ⟨k1, k2⟩ := top_mem (bs.length - 1) bs (by omega)
          have em : m = top bs := Int.le_antisymm (k2 m hm) (hu _ k1)
          rw [em]
          exact q W H _ .refl R rfl
        · cases h
  · cases h
theorem c_min (hc : X.calm = true) : CallR X (.builtin "min") (rC X.K minB) := call_of (CallR.or (call_min2 hc) (cr_min hc)) fun W st ds xs H Q z R r h q => by
  unfold minB at h
  split at h
  · cases h; obtain ⟨v, w, rfl, r1, r2⟩ := rel2 r; cases r1; cases r2; exact .inl ⟨_, _, rfl, q W H _ .refl R rfl⟩
  · rename_i d
    obtain ⟨v, rfl, r1⟩ := rel1 r
    cases e1 : lsq st d with
    | none => rw [e1] at h; cases h
    | some is =>
      rw [e1] at h
      have h : (intsOf is).bind (fun bs => if 0 < bs.length then some (iD (bot bs)) else none) = some z := h
      cases e2 : intsOf is with
      | none => rw [e2] at h; cases h
      | some bs =>
        rw [e2] at h
        have h : (if 0 < bs.length then some (iD (bot bs)) else none) = some z := h
        split at h
        · rename_i hl
          cases h
          obtain ⟨a, vs, rfl, sq, rr⟩ := lsq_rel R e1 r1
          refine .inr ⟨a, bs, rfl, by rw [← intsOf_rel e2 rr]; exact sq, hl, fun m hm hu => ?_⟩
          obtain ⟨k1, k2⟩ := bot_mem (bs.length - 1) bs (by omega)
          have em : m = bot bs := Int.le_antisymm (hu _ k1) (k2 m hm)
          rw [em]
          exact q W H _ .refl R rfl
        · cases h
  · cases h
/-- tuple(xs), list(xs) -/
def tupB (ds : List D) (st : Sto) : Option D := match ds with
  | [.t (.tup ts)] => some (.t (.tup ts))
  | [d] => (lsq st d).bind fun is => (plains is).map fun ts => .t (.tup ts)
  | _ => none
theorem c_tup : CallR X (.type "tuple") (rC X.K tupB) := call_of call_tuple_of fun W st ds xs H Q z R r h q => by
  unfold tupB at h
  split at h
  · rename_i ts
    cases h
    obtain ⟨v, rfl, r1⟩ := rel1 r
    obtain ⟨a, vs, rfl, sq, rr⟩ := id r1
    exact ⟨a, vs, rfl, .inr ⟨sq.sq, q W H _ .refl R r1⟩⟩
  · rename_i d _
    obtain ⟨v, rfl, r1⟩ := rel1 r
    cases e1 : lsq st d with
    | none => rw [e1] at h; cases h
    | some is =>
      rw [e1] at h
      have h : (plains is).map (fun ts => D.t (.tup ts)) = some z := h
      cases e2 : plains is with
      | none => rw [e2] at h; cases h
      | some ts =>
        rw [e2] at h
        cases h
        obtain ⟨a, vs, rfl, sq, rr⟩ := lsq_rel R e1 r1
        have rt := relTs_of e2 rr
        exact ⟨a, vs, rfl, .inl ⟨sq, fun p hp => q W _ _ (R.more hp) (R.rest hp) ⟨p, _, rfl, Or.inl upd_same, (R.more hp).relTs R _ _ rt⟩⟩⟩
  · cases h
def lstB (ds : List D) (st : Sto) : Option D := match ds with
  | [d] => (items st d).bind fun is => (plains is).map fun ts => .t (.lst ts)
  | _ => none
theorem c_lst : CallR X (.type "list") (rC X.K lstB) := call_of call_list_of fun W st ds xs H Q z R r h q => by
  unfold lstB at h
  split at h
  · rename_i d
    obtain ⟨v, rfl, r1⟩ := rel1 r
    cases e1 : items st d with
    | none => rw [e1] at h; cases h
    | some is =>
      rw [e1] at h
      have h : (plains is).map (fun ts => D.t (.lst ts)) = some z := h
      cases e2 : plains is with
      | none => rw [e2] at h; cases h
      | some ts =>
        rw [e2] at h
        cases h
        obtain ⟨a, vs, rfl, sq, rr⟩ := items_seq R e1 r1
        have rt := relTs_of e2 rr
        exact ⟨a, vs, rfl, sq, fun p hp => q (W.fix p) _ _ (Ext.fix W hp) (R.fix hp) ⟨p, _, rfl, .inr rfl, upd_same, (Ext.fix W hp).relTs R _ _ rt⟩⟩
  · cases h
/-! ### isinstance -/
def tyName (st : Sto) (d : D) : Option String := match d with
  | .t .non => some "NoneType"
  | .t (.bl _) => some "bool"
  | .t (.int _) => some "int"
  | .t (.str _) => some "str"
  | .t (.tup _) => some "tuple"
  | .t (.lst _) => some "list"
  | .t (.scr _) => some "list"
  | .r n => (items st (.r n)).map fun _ => "list"
  | _ => none
def isaB (s n : String) : Option Bool := if n = "int" ∨ n = "str" ∨ n = "bool" ∨ n = "tuple" ∨ n = "list" ∨ n = "dict" ∨ n = "bytes" then some (decide (s = n) || (decide (s = "bool") && decide (n = "int"))) else none
def isaAll (s : String) : List T → Option Bool
  | [] => some false
  | .ty n :: r => (isaB s n).bind fun b => (isaAll s r).map fun c => b || c
  | _ => none
def isiB (ds : List D) (st : Sto) : Option D := match ds with
  | [d, .t (.ty n)] => (tyName st d).bind fun s => (isaB s n).map bD
  | [d, .t (.tup ts)] => (tyName st d).bind fun s => (isaAll s ts).map bD
  | _ => none
theorem isaB_ok {s n : String} {b : Bool} (h : isaB s n = some b) (hs : s = "NoneType" ∨ s = "bool" ∨ s = "int" ∨ s = "str" ∨ s = "tuple" ∨ s = "list") : kitB s n = some b := by
  unfold isaB at h
  split at h
  · rename_i hn
    cases h
    rcases hs with rfl | rfl | rfl | rfl | rfl | rfl <;> rcases hn with rfl | rfl | rfl | rfl | rfl | rfl | rfl <;> decide +kernel
  · cases h
theorem tyName_rel {K : PySem.W.Frag} {W : Wd} {H : Hp} {st : Sto} (R : Rl K W st H) {d : D} {s : String} {v : V} (h : tyName st d = some s) (r : RelD K W H d v) :
    (s = "NoneType" ∨ s = "bool" ∨ s = "int" ∨ s = "str" ∨ s = "tuple" ∨ s = "list") ∧ TyX K H v (.type s) := by
  cases d with
  | x => cases h
  | r n =>
    cases e1 : items st (.r n) with
    | none =>
      have h : (items st (.r n)).map (fun _ => "list") = some s := h
      rw [e1] at h; cases h
    | some is =>
      have h : (items st (.r n)).map (fun _ => "list") = some s := h
      rw [e1] at h; cases h
      refine ⟨by simp, ?_⟩
      obtain ⟨a, e, rfl⟩ := r
      have e1 : (match st[n]? with | some (.lst ds) => some ds | none => none) = some is := e1
      split at e1
      · rename_i ds' q
        obtain ⟨vs, q1, q2⟩ := R.live n a _ e q
        exact .base (.lst q1)
      · cases e1
  | t x =>
    cases x with
    | non => cases h; cases r; exact ⟨by simp, .base .non⟩
    | bl b => cases h; cases r; exact ⟨by simp, .base (.bl b)⟩
    | int b => cases h; cases r; exact ⟨by simp, .base (.int b)⟩
    | str b => cases h; cases r; exact ⟨by simp, .base (.str b)⟩
    | tup ts =>
      cases h
      obtain ⟨a, vs, rfl, sq, rr⟩ := r
      refine ⟨by simp, ?_⟩
      rcases sq with sq | ⟨o, its, n, hk, hc, _⟩
      · exact .base (.tup sq)
      · exact .kTuple hk hc
    | lst ts =>
      cases h
      obtain ⟨a, vs, rfl, _, sq, rr⟩ := r
      exact ⟨by simp, .base (.lst sq)⟩
    | scr ts =>
      cases h
      obtain ⟨a, vs, rfl, q, rr⟩ := r
      refine ⟨by simp, ?_⟩
      rcases q with ⟨o, q⟩ | ⟨o, its, n, hk, hc, _⟩
      · exact .base (.frz q)
      · exact .kList hk hc
    | glb a => cases h
    | ty n => cases h
theorem isaAll_ok {K : PySem.W.Frag} {F : Addr → Prop} {H : Hp} {s : String} (hs : s = "NoneType" ∨ s = "bool" ∨ s = "int" ∨ s = "str" ∨ s = "tuple" ∨ s = "list") : ∀ {ts : List T} {vs : List V} {b : Bool}, isaAll s ts = some b → RelTs K F H ts vs →
    ∃ us, Paired ClsV vs us ∧ PySem.W.kitAny K (.type s) us = some b
  | [], vs, b, h, r => by cases h; cases r; exact ⟨[], .nil, kitAny_nil⟩
  | t :: ts, vs, b, h, r => by
    obtain ⟨v, u, rfl, r1, r2⟩ := r
    cases t with
    | ty n =>
      cases r1
      have h : ((isaB s n).bind fun b => (isaAll s ts).map fun c => b || c) = some b := h
      cases e1 : isaB s n with
      | none => rw [e1] at h; cases h
      | some k =>
        rw [e1] at h
        have h : ((isaAll s ts).map fun c => k || c) = some b := h
        cases e2 : isaAll s ts with
        | none => rw [e2] at h; cases h
        | some c =>
          rw [e2] at h
          cases h
          obtain ⟨us, p1, p2⟩ := isaAll_ok hs e2 r2
          refine ⟨.type n :: us, .cons (.ty n) p1, kitAny_cons (kit_ty (isaB_ok e1 hs)) (fun hk => ?_) (fun hk => ?_)⟩
          · rw [hk]; exact p2
          · rw [hk]; rfl
    | _ => cases h
theorem c_isi : CallR X (.builtin "isinstance") (rC X.K isiB) := call_of (CallR.or call_isi (CallR.or call_isiT call_isiK)) fun W st ds xs H Q z R r h q => by
  unfold isiB at h
  split at h
  · rename_i d n
    obtain ⟨v, w, rfl, r1, r2⟩ := rel2 r
    cases r2
    cases e1 : tyName st d with
    | none => rw [e1] at h; cases h
    | some s =>
      rw [e1] at h
      have h : (isaB s n).map bD = some z := h
      cases e2 : isaB s n with
      | none => rw [e2] at h; cases h
      | some b =>
        rw [e2] at h
        cases h
        obtain ⟨hs, ty⟩ := tyName_rel R e1 r1
        exact .inl ⟨v, .ty n, _, _, b, rfl, .ty n, ty, kit_ty (isaB_ok e2 hs), q W H _ .refl R rfl⟩
  · rename_i d ts
    obtain ⟨v, w, rfl, r1, r2⟩ := rel2 r
    cases e1 : tyName st d with
    | none => rw [e1] at h; cases h
    | some s =>
      rw [e1] at h
      have h : (isaAll s ts).map bD = some z := h
      cases e2 : isaAll s ts with
      | none => rw [e2] at h; cases h
      | some b =>
        rw [e2] at h
        cases h
        obtain ⟨hs, ty⟩ := tyName_rel R e1 r1
        obtain ⟨a, vs, rfl, sq, rr⟩ := r2
        obtain ⟨us, p1, p2⟩ := isaAll_ok hs e2 rr
        rcases sq with sq | ⟨o, its, n, hk, hc, hd, hz, hv⟩
        · exact .inr (.inl ⟨v, a, vs, _, us, b, rfl, sq, p1, ty, p2, q W H _ .refl R rfl⟩)
        · have ev := ClsV.all p1 hv
          obtain ⟨oc, od, dt, sl⟩ := o
          simp only at hc hd
          subst hc hd
          exact .inr (.inr ⟨v, a, od, us, n, sl, _, b, rfl, by rw [hk, ← ev], ty, p2, q W H _ .refl R rfl⟩)
  · cases h
end
end Mi
/-! Mir5 -/
namespace Mi
open L2 PySem PySem.Spec PyProof.Rows
section
variable {X : Cx} {Wx : WX} {a b c e o : Expr} {fa fb f fo fi : Env → Sto → Res D} {fs : List (Env → Sto → Res D)} {es : List Expr} {pos p p2 : Pos}

/-! ### methods of lists and texts -/
def rMt (K : PySem.W.Frag) (g : D → List D → Sto → Option (D × Sto)) : V → List V → Hp → VK → Prop := fun x xs H Q => ∃ W st d ds, Rl K W st H ∧ RelD K W H d x ∧ RelDs K W H ds xs ∧ ∃ z, g d ds st = some z ∧ OkD K W H Q z.1 z.2
def tyOk (n : String) (st : Sto) (d : D) : Bool := match d with
  | .t (.str _) => decide (n = "str")
  | .t (.lst _) => decide (n = "list")
  | .t (.scr _) => decide (n = "list")
  | .r m => decide (n = "list") && (items st (.r m)).isSome
  | _ => false
theorem tyOk_rel {K : PySem.W.Frag} {W : Wd} {H : Hp} {st : Sto} (R : Rl K W st H) {n : String} {d : D} {v : V} (h : tyOk n st d = true) (r : RelD K W H d v) : tyV K n v H := by
  unfold tyOk at h
  split at h
  · cases r
    have h2 : n = "str" := of_decide_eq_true h
    exact h2
  · obtain ⟨a, vs, rfl, _, q, rr⟩ := r
    exact .inl ⟨of_decide_eq_true h, vs, SqL.of q⟩
  · obtain ⟨a, vs, rfl, q, rr⟩ := r
    exact .inl ⟨of_decide_eq_true h, vs, q.sq⟩
  · rw [Bool.and_eq_true] at h
    cases e1 : items st (.r _) with
    | none => rw [e1] at h; cases h.2
    | some ds =>
      obtain ⟨a, vs, rfl, sq, rr⟩ := lsq_rel R (show lsq st (.r _) = some ds from e1) r
      exact .inl ⟨of_decide_eq_true h.1, vs, sq⟩
  · cases h
def optS (o : Option (D × Sto)) : Res D := match o with
  | some z => .ok z.1 z.2
  | none => .bad
def methM (n : String) (g : D → List D → Sto → Option (D × Sto)) (fo : Env → Sto → Res D) (fs : List (Env → Sto → Res D)) (env : Env) (st : Sto) : Res D := (fo env st).bind fun d st1 =>
  if tyOk n st1 d = true then (argsM fs env st1).bind fun ds st2 => optS (g d ds st2) else .bad
theorem optS_holds {o : Option (D × Sto)} {A : D → Sto → Prop} {B : Addr → List (Str × T) → Sto → Prop} (h : (optS o).Holds A B) : ∃ z, o = some z ∧ A z.1 z.2 := by
  cases o with
  | none => exact h.elim
  | some z => exact ⟨z, rfl, h⟩
variable {name : Str} {apos cpos : Pos} {id n : String} {g : D → List D → Sto → Option (D × Sto)}
theorem re_bm (pa : PlainAttrs n) (slot : Slot n name id) (hty : typeOf (.builtin id) = pure (.type "method_descriptor")) (hm : MtR X id (rMt X.K g)) (ho : RE X Wx o fo) (ha : RA X Wx (e :: es) (argsM fs))
    (hbase : attributeBase o name X.env (eval o X.env) = eval o X.env := by rfl) (hfew : ((backTo cpos (starEach (e :: es) X.env)).all (fun x => !x.1) && (backToKw cpos (keywordEach [] X.env)).all (fun x => x.1.isSome) && decide ((e :: es).length + ([] : List Keyword).length + (if ([] : List Keyword).isEmpty then 0 else 1) < 30)) = true := by rfl) (hline : (apos.endLine == cpos.line) = true := by rfl)
    (hs : starEach (e :: es) X.env = (false, eval e X.env) :: starEach es X.env := by rfl) (hplain : (backTo cpos (starEach es X.env)).any (·.1) = false := by rfl) :
    RE X Wx (.Call (.Attribute o name apos) (e :: es) [] cpos) (methM n g fo fs) := by
  refine PE.conv (pe_bm pa slot hty hm ho ha hbase hfew hline hs hplain) fun σ H Q ⟨W, env, st, R, Ev, h⟩ => ⟨W, env, st, R, Ev, split h (fun d st1 h1 W1 H1 v E1 R1 r1 => ?_) fun C fs st' hx => hx⟩
  split at h1
  · rename_i ht
    refine ⟨tyOk_rel R1 ht r1, W1, env, st1, R1, Ev.mono E1 R, Mi.split h1 (fun ds st2 h2 W2 H2 vs E2 R2 r2 => ?_) fun C fs st' hx => hx.mono E1⟩
    obtain ⟨z, e1, q⟩ := optS_holds h2
    exact ⟨W2, st2, d, ds, R2, E2.relD R1 r1, r2, z, e1, q.mono (E1.trans E2)⟩
  · exact h1.elim
theorem re_bm0 (pa : PlainAttrs n) (slot : Slot n name id) (hty : typeOf (.builtin id) = pure (.type "method_descriptor")) (hm : MtR X id (rMt X.K g)) (ho : RE X Wx o fo)
    (hbase : attributeBase o name X.env (eval o X.env) = eval o X.env := by rfl) (hline : (apos.endLine == cpos.line) = true := by rfl) : RE X Wx (.Call (.Attribute o name apos) [] [] cpos) (methM n g fo []) := by
  refine PE.conv (pe_bm0 pa slot hty hm ho hbase hline) fun σ H Q ⟨W, env, st, R, Ev, h⟩ => ⟨W, env, st, R, Ev, split h (fun d st1 h1 W1 H1 v E1 R1 r1 => ?_) fun C fs st' hx => hx⟩
  split at h1
  · rename_i ht
    refine ⟨tyOk_rel R1 ht r1, ?_⟩
    obtain ⟨z, e1, q⟩ := optS_holds (show (optS (g d [] st1)).Holds _ _ from h1)
    exact ⟨W1, st1, d, [], R1, r1, rfl, z, e1, q.mono E1⟩
  · exact h1.elim
/-- l.append(x) -/
def appG (d : D) (ds : List D) (st : Sto) : Option (D × Sto) := match d, ds with
  | .r n, [x] => match st[n]? with
    | some (.lst xs) => if xs.length < LIM then some (.t .non, st.set n (.lst (xs ++ [x]))) else none
    | _ => none
  | _, _ => none
theorem m_append : MtR X "list.append" (rMt X.K appG) := by
  intro pins s σ H x xs v us Q I rx rs ⟨W, st, d, ds, R, r1, r2, z, h, q⟩
  unfold appG at h
  split at h
  · rename_i n y
    split at h
    · rename_i ys hn
      split at h
      · rename_i hl
        cases h
        obtain ⟨w, rfl, r3⟩ := rel1 r2
        obtain ⟨p, vs, rfl, hp, hH, rr⟩ := rel_lst R hn r1
        refine mt_append pins s σ H _ _ v us Q I rx rs ⟨p, vs, w, rfl, rfl, hH, ?_, ?_⟩
        · rw [relDs_len rr]; exact lim_lt (Nat.le_of_lt hl)
        · exact q W _ _ (Ext.put hp hH) (R.put (ds := ys) hp hH (relDs_append rr ⟨w, [], rfl, r3, rfl⟩)) rfl
      · cases h
    · cases h
  · cases h
/-- l.extend(xs) -/
def extG (d : D) (ds : List D) (st : Sto) : Option (D × Sto) := match d, ds with
  | .r n, [x] => match st[n]? with
    | some (.lst xs) => (litems st x).bind fun ys => if xs.length + ys.length ≤ LIM then some (.t .non, st.set n (.lst (xs ++ ys))) else none
    | _ => none
  | _, _ => none
theorem m_extend : MtR X "list.extend" (rMt X.K extG) := by
  intro pins s σ H x xs v us Q I rx rs ⟨W, st, d, ds, R, r1, r2, z, h, q⟩
  unfold extG at h
  split at h
  · rename_i n y
    split at h
    · rename_i ys hn
      cases e1 : litems st y with
      | none => rw [e1] at h; cases h
      | some zs =>
        rw [e1] at h
        have h : (if ys.length + zs.length ≤ LIM then some (D.t .non, st.set n (.lst (ys ++ zs))) else none) = some z := h
        split at h
        · rename_i hl
          cases h
          obtain ⟨w, rfl, r3⟩ := rel1 r2
          obtain ⟨p, vs, rfl, hp, hH, rr⟩ := rel_lst R hn r1
          obtain ⟨p2, ws, rfl, hH2, rr2⟩ := litems_rel R e1 r3
          refine mt_extend pins s σ H _ _ v us Q I rx rs ⟨p, p2, vs, ws, rfl, rfl, hH, hH2, ?_, ?_⟩
          · rw [relDs_len rr, relDs_len rr2]; exact lim_size hl
          · exact q W _ _ (Ext.put hp hH) (R.put (ds := ys) hp hH (relDs_append rr rr2)) rfl
        · cases h
    · cases h
  · cases h
/-- l.pop() -/
def popG (d : D) (ds : List D) (st : Sto) : Option (D × Sto) := match d, ds with
  | .r n, [] => match st[n]? with
    | some (.lst xs) => (xs[xs.length - 1]?).map fun y => (y, st.set n (.lst xs.dropLast))
    | _ => none
  | _, _ => none
theorem m_pop : MtR X "list.pop" (rMt X.K popG) := by
  intro pins s σ H x xs v us Q I rx rs ⟨W, st, d, ds, R, r1, r2, z, h, q⟩
  unfold popG at h
  split at h
  · rename_i n
    split at h
    · rename_i ys hn
      cases e1 : ys[ys.length - 1]? with
      | none => rw [e1] at h; cases h
      | some y =>
        rw [e1] at h
        cases h
        obtain rfl : xs = [] := r2
        obtain ⟨p, vs, rfl, hp, hH, rr⟩ := rel_lst R hn r1
        obtain ⟨w, e2, r3⟩ := relDs_get rr e1
        refine mt_pop pins s σ H _ _ v us Q I rx rs ⟨p, vs, w, rfl, rfl, hH, by rw [relDs_len rr]; exact e2, ?_⟩
        have E : Ext W H W (upd H p (.lst vs.dropLast)) := Ext.put hp hH
        exact q W _ _ E (R.put (ds := ys) hp hH (relDs_dropLast rr)) (E.relD R r3)
    · cases h
  · cases h
/-- l[i] = x -/
def setItM (fo fi f : Env → Sto → Res D) (env : Env) (st : Sto) : Out := (f env st).out env fun x s => (fo env s).out env fun d s1 => (fi env s1).out env fun i s2 => match d, i with
  | .r n, .t (.int k) => match s2[n]? with
    | some (.lst xs) => match ixN xs.length k with
      | some j => .nx env (s2.set n (.lst (xs.set j x)))
      | none => .bad
    | _ => .bad
  | _, _ => .bad
theorem rs_setItem {i : Expr} {tpos : Pos} (ho : RE X Wx o fo) (hi : RE X Wx i fi) (he : RE X Wx e f) (hs : swapsWithSole [.Subscript o i tpos] e pos.line X.env = pure false := by rfl) (hw : swappedStores [.Subscript o i tpos] e X.env = pure none := by rfl)
    (h1 : (assignEach [.Subscript o i tpos] X.env).map (·.2) = [assign (.Subscript o i tpos) X.env] := by rfl)
    (ha : ∀ v, assign (.Subscript o i tpos) X.env v = (do let ov ← holding [v] (eval o X.env); let iv ← holding [v, ov] (eval i X.env); standAt tpos; holding [v, ov, iv] (setItem ov iv v); release [v, ov, iv] []) := by intro _; rfl) : RS X Wx (.Assign [.Subscript o i tpos] e pos) (setItM fo fi f) := by
  refine PS.conv (ps_asg he (pg_sub ho hi set_list ha) hs hw h1) fun E σ H ⟨W, env, st, R, Ev, h⟩ => ⟨W, env, st, R, Ev, out_split h Ev R fun x s h1 W1 H1 v E1 R1 r1 => ?_⟩
  have Ev1 := Ev.mono E1 R
  refine ⟨W1, env, s, R1, Ev1, out_split (Out.Holds.mono h1 E1) Ev1 R1 fun d s1 h2 W2 H2 w E2 R2 r2 => ?_⟩
  have Ev2 := Ev1.mono E2 R1
  refine ⟨W2, env, s1, R2, Ev2, out_split (Out.Holds.mono h2 E2) Ev2 R2 fun i s2 h3 W3 H3 u E3 R3 r3 => ?_⟩
  split at h3
  · rename_i n k
    split at h3
    · rename_i xs hn
      split at h3
      · rename_i j hj
        cases r3
        obtain ⟨p, vs, e4, hp, hH, rr⟩ := rel_lst R3 hn (E3.relD R2 r2)
        subst e4
        refine ⟨p, vs, k, j, rfl, rfl, hH, by rw [relDs_len rr]; exact hj, ?_⟩
        have E4 : Ext W3 H3 W3 (upd H3 p (.lst (vs.set j v))) := Ext.put hp hH
        exact h3 W3 σ _ (E3.trans E4) (R3.put (ds := xs) hp hH (relDs_set j rr (E3.relD R2 (E2.relD R1 r1)))) ((Ev2.mono E3 R2).mono E4 R3)
      · exact h3.elim
    · exact h3.elim
  · exact h3.elim

/-! ### comprehensions -/
def wipeE (env : Env) : List Nat → Env
  | [] => env
  | v :: vs => (wipeE env vs).set v none
theorem wipeE_len (env : Env) : ∀ vs : List Nat, (wipeE env vs).length = env.length
  | [] => rfl
  | v :: vs => by unfold wipeE; rw [List.length_set, wipeE_len env vs]
theorem wipeE_some {env : Env} {i : Nat} {x : D} : ∀ {vs : List Nat}, (wipeE env vs)[i]? = some (some x) → env[i]? = some (some x) ∧ i ∉ vs
  | [], h => ⟨h, by simp⟩
  | v :: vs, h => by
    unfold wipeE at h
    by_cases hi : v = i
    · subst hi
      by_cases hv : v < (wipeE env vs).length
      · (rw [List.getElem?_set_self hv] at h; cases h)
      · (rw [List.getElem?_eq_none (by simpa using hv)] at h; cases h)
    · (rw [List.getElem?_set_ne hi] at h)
      obtain ⟨h1, h2⟩ := wipeE_some h
      (exact ⟨h1, by simp only [List.mem_cons, not_or]; exact ⟨fun e => hi e.symm, h2⟩⟩)
theorem EnvR.wipe {K : PySem.W.Frag} {W : Wd} {H : Hp} {env : Env} {σ : L2.St} (h : EnvR K W H env σ) (vs : List Nat) : EnvR K W H (wipeE env vs) (wipe σ vs) := by
  refine ⟨by rw [wipe_length, wipeE_len]; exact h.len, fun i d q => ?_⟩
  obtain ⟨h1, h2⟩ := wipeE_some q
  obtain ⟨v, e, r⟩ := h.get i d h1
  exact ⟨v, by rw [wipe_out h2]; exact e, r⟩
theorem wipe_in {σ : L2.St} {i : Nat} (hl : i < σ.length) : ∀ {vs : List Nat}, i ∈ vs → (wipe σ vs)[i]? = some none
  | v :: vs, h => by
    unfold wipe
    by_cases e : v = i
    · subst e; exact List.getElem?_set_self (by rw [wipe_length]; exact hl)
    · rw [List.getElem?_set_ne e]
      exact wipe_in hl ((List.mem_cons.mp h).resolve_left fun z => e z.symm)
theorem Agree.wipe {vs : List Nat} {σ σ' : L2.St} (h : Agree vs (L2.wipe σ vs) σ') : L2.wipe σ' vs = L2.wipe σ vs := by
  apply List.ext_getElem?
  intro i
  have hl : σ'.length = σ.length := by rw [h.1, wipe_length]
  by_cases hi : i ∈ vs
  · by_cases hb : i < σ.length
    · rw [wipe_in (by omega) hi, wipe_in hb hi]
    · rw [List.getElem?_eq_none (by rw [wipe_length]; omega), List.getElem?_eq_none (by rw [wipe_length]; omega)]
  · rw [wipe_out hi]
    exact h.2 i hi
def lcI (ga : D → Env → Option Env) (gt : Env → Sto → Res Bool) (fe : Env → Sto → Res D) (it : ItM) (env0 : Env) : Nat → Nat → Sto → List D → Option (List D × Sto)
  | 0, i, st, acc => match it.nth st i with
    | some none => some (acc, st)
    | _ => none
  | m + 1, i, st, acc => match it.nth st i with
    | some none => some (acc, st)
    | some (some d) => match ga d env0 with
      | some env1 => match gt env1 st with
        | .ok true st1 => match fe env1 st1 with
          | .ok z st2 => if acc.length < LIM then lcI ga gt fe it env0 m (i + 1) st2 (acc ++ [z]) else none
          | _ => none
        | .ok false st1 => lcI ga gt fe it env0 m (i + 1) st1 acc
        | _ => none
      | none => none
    | none => none
/-- [..]: a plain list; a list that will be changed -/
def lcM (us : List Nat) (fi : Env → Sto → Res ItM) (ga : D → Env → Option Env) (gt : Env → Sto → Res Bool) (fe : Env → Sto → Res D) (env : Env) (st : Sto) : Res D := (fi env st).bind fun it s =>
  match lcI ga gt fe it (wipeE env us) it.most 0 s [] with
  | some (acc, s2) => optR ((plains acc).map fun ts => .t (.lst ts)) s2
  | none => .bad
def lcN (us : List Nat) (fi : Env → Sto → Res ItM) (ga : D → Env → Option Env) (gt : Env → Sto → Res Bool) (fe : Env → Sto → Res D) (env : Env) (st : Sto) : Res D := (fi env st).bind fun it s =>
  match lcI ga gt fe it (wipeE env us) it.most 0 s [] with
  | some (acc, s2) => .ok (.r s2.length) (s2 ++ [.lst acc])
  | none => .bad
def W0 : WX := fun _ _ _ _ => False
/-- the world within a comprehension: the new list at L is nobody's -/
structure LcW (K : PySem.W.Frag) (W1 : Wd) (H1 : Hp) (L : Addr) (W : Wd) (st : Sto) (H : Hp) (acc : List D) (vs : List V) : Prop where
  E : Ext W1 H1 W H
  R : Rl K W st H
  at_ : H L = some (.lst vs)
  nr : L ∉ W.ρ
  nF : ¬ W.F L
  rr : RelDs K W H acc vs
theorem LcW.step {K : PySem.W.Frag} {W1 W W' : Wd} {H1 H H' : Hp} {L : Addr} {st st' : Sto} {acc : List D} {vs : List V} (w : LcW K W1 H1 L W st H acc vs) (E : Ext W H W' H') (R : Rl K W' st' H') : LcW K W1 H1 L W' st' H' acc vs := by
  refine ⟨w.E.trans E, R, E.keep _ _ w.at_ w.nr, fun hm => ?_, fun hm => ?_, E.relDs w.R w.rr⟩
  · rcases E.new _ hm with h | h
    · exact w.nr h
    · rw [w.at_] at h; cases h
  · rcases E.nF _ hm with h | h
    · exact w.nF h
    · rw [w.at_] at h; cases h
theorem LcW.put {K : PySem.W.Frag} {W1 W : Wd} {H1 H : Hp} {L : Addr} {st : Sto} {acc : List D} {vs : List V} {z : D} {y : V} (w : LcW K W1 H1 L W st H acc vs) (hL : H1 L = none) (r : RelD K W H z y) : LcW K W1 H1 L W st (upd H L (.lst (vs ++ [y]))) (acc ++ [z]) (vs ++ [y]) := by
  have k : KeepT W.F H W.F (upd H L (.lst (vs ++ [y]))) := ⟨fun _ h => h, fun a xs f q => by rw [upd_ne (fun e => w.nF (by rw [← e]; exact f))]; exact q, fun a xs q => by
    rw [upd_ne (fun e => by subst e; rw [w.at_] at q; cases q)]; exact q, fun a o xs q => by
    rw [upd_ne (fun e => by subst e; rw [w.at_] at q; cases q)]; exact q, fun a xs q => by
    rw [upd_ne (fun e => by subst e; rw [w.at_] at q; cases q)]; exact q⟩
  have R : Rl K W st (upd H L (.lst (vs ++ [y]))) := w.R.keep k rfl (fun a ha => upd_ne fun e => w.nr (by rw [← e]; exact ha)) w.R.sep fun a ha => by
    obtain ⟨xs, q⟩ := w.R.fz a ha
    exact ⟨xs, by rw [upd_ne (fun e => w.nF (by rw [← e]; exact ha))]; exact q⟩
  refine ⟨⟨w.E.pre, w.E.new, w.E.fF, w.E.nF, fun a u q hm => by rw [upd_ne (ne_of_none q hL)]; exact w.E.keep a u q hm, fun a u q => ?_⟩, R, upd_same, w.nr, w.nF, ?_⟩
  · obtain ⟨u', q'⟩ := w.E.there a u q
    exact ⟨u', by rw [upd_ne (ne_of_none q hL)]; exact q'⟩
  · exact k.relDs (List.prefix_refl _) (relDs_append w.rr ⟨y, [], rfl, r, rfl⟩)
/-- the core: from any world the turns lead to the end -/
theorem lc_run {K : PySem.W.Frag} {tg : TG} {tt : TT} {te : TE} {us : List Nat} {ga : D → Env → Option Env} {gt : Env → Sto → Res Bool} {fe : Env → Sto → Res D} {σ : L2.St} {W1 : Wd} {H1 : Hp} {J : It} {it : ItM} {env : Env} {s : Sto} {Q : VK}
    (hg : tg = tG K us ga) (ht : tt = tT K W0 gt) (he : te = tE K W0 fe) (R1 : Rl K W1 s H1) (Ev : EnvR K W1 H1 env σ) (j : JOk K J it W1 H1) {acc' : List D} {s' : Sto} (hr : lcI ga gt fe it (wipeE env us) it.most 0 s [] = some (acc', s'))
    (fin : ∀ L W H vs, H1 L = none → LcW K W1 H1 L W s' H acc' vs → Q (.ref L) H) :
    ∀ D, H1 D = none → ∃ Wn : Nat → Nat → Hp → Prop, (∃ m, Wn 0 m (upd H1 D (.lst []))) ∧ ∀ i m H, Wn i m H →
      (J.stop i H ∧ Q (.ref D) H) ∨ (J.go i H ∧ ∃ Nx : Hp → Prop, (∀ H', Nx H' → ∃ m', m' < m ∧ Wn (i + 1) m' H') ∧ ∀ x H', J.yld i H x H' → tg x (wipe σ us) H' fun σ2 H2 => wipe σ2 us = wipe σ us ∧ tt σ2 H2 fun b H3 => if b = true then te σ2 H3 fun y H4 => ∃ acc, H4 D = some (.lst acc) ∧ acc.length < sizeLine ∧ Nx (upd H4 D (.lst (acc ++ [y]))) else Nx H3) := by
  subst hg ht he
  intro L hL
  refine ⟨fun i m H => ∃ W st acc vs, LcW K W1 H1 L W st H acc vs ∧ lcI ga gt fe it (wipeE env us) m i st acc = some (acc', s'), ⟨it.most, W1, s, [], [], ⟨R1.more hL, R1.rest hL, upd_same, fun hm => ?_, fun hf => ?_, rfl⟩, hr⟩, ?_⟩
  · obtain ⟨u, q⟩ := R1.mem hm; rw [hL] at q; cases q
  · obtain ⟨u, q⟩ := R1.fz _ hf; rw [hL] at q; cases q
  rintro i m H ⟨W, st, acc, vs, w, h⟩
  obtain ⟨j1, j2⟩ := j W H st i w.E w.R
  have stop : it.nth st i = some none → lcI ga gt fe it (wipeE env us) m i st acc = some (acc, st) := fun q => by
    cases m with
    | zero => unfold lcI; rw [q]
    | succ m => unfold lcI; rw [q]
  cases q : it.nth st i with
  | none =>
    exfalso
    cases m with
    | zero => unfold lcI at h; rw [q] at h; cases h
    | succ m => unfold lcI at h; rw [q] at h; cases h
  | some od =>
    cases od with
    | none =>
      rw [stop q] at h
      cases h
      exact .inl ⟨j1 q, fin L W H vs hL w⟩
    | some d =>
      cases m with
      | zero => exfalso; unfold lcI at h; rw [q] at h; cases h
      | succ m =>
        obtain ⟨jg, jy⟩ := j2 d q
        refine .inr ⟨jg, fun H' => ∃ W st acc vs, LcW K W1 H1 L W st H' acc vs ∧ lcI ga gt fe it (wipeE env us) m (i + 1) st acc = some (acc', s'), fun H' h => ⟨m, Nat.lt_succ_self m, h⟩, fun x H3 hy => ?_⟩
        obtain ⟨W3, E3, R3, r3⟩ := jy x H3 hy
        have w3 := w.step E3 R3
        unfold lcI at h
        simp only [q] at h
        cases q2 : ga d (wipeE env us) with
        | none => rw [q2] at h; cases h
        | some env1 =>
          simp only [q2] at h
          refine ⟨W3, wipeE env us, st, d, env1, R3, (Ev.mono w3.E R1).wipe us, r3, q2, fun σ3 Ev3 ag => ⟨ag.wipe, W3, env1, st, R3, Ev3, ?_⟩⟩
          cases q3 : gt env1 st with
          | bad => simp only [q3] at h; cases h
          | exc C x y => simp only [q3] at h; cases h
          | ok k st1 =>
            intro W4 H4 E4 R4
            have w4 := w3.step E4 R4
            cases k with
            | false =>
              simp only [q3] at h
              exact ite_ff ⟨W4, st1, acc, vs, w4, h⟩
            | true =>
              simp only [q3] at h
              refine ite_tt ⟨W4, env1, st1, R4, Ev3.mono E4 R3, ?_⟩
              cases q4 : fe env1 st1 with
              | bad => simp only [q4] at h; cases h
              | exc C x y => simp only [q4] at h; cases h
              | ok z st2 =>
                simp only [q4] at h
                split at h
                · rename_i hl
                  intro W5 H5 y E5 R5 r5
                  have w5 := w4.step E5 R5
                  exact ⟨vs, w5.at_, by rw [relDs_len w5.rr]; exact lim_lt (Nat.le_of_lt hl), W5, st2, acc ++ [z], vs ++ [y], w5.put hL r5, h⟩
                · cases h
theorem LcW.fixed {K : PySem.W.Frag} {W1 W : Wd} {H1 H : Hp} {L : Addr} {st : Sto} {acc : List D} {vs : List V} (w : LcW K W1 H1 L W st H acc vs) (hL : H1 L = none) : Ext W1 H1 (W.fix L) H ∧ Rl K (W.fix L) st H ∧ KeepT W.F H (W.fix L).F H := by
  have k : KeepT W.F H (W.fix L).F H := ⟨fun _ h => .inl h, fun _ _ _ q => q, fun _ _ q => q, fun _ _ _ q => q, fun _ _ q => q⟩
  refine ⟨⟨w.E.pre, w.E.new, fun a h => .inl (w.E.fF a h), fun a h => ?_, w.E.keep, w.E.there⟩, ?_, k⟩
  · rcases h with h | h
    · exact w.E.nF a h
    · rw [h]; exact .inr hL
  · exact w.R.keep k rfl (fun _ _ => rfl) (fun a ha h => h.elim (w.R.sep a ha) fun e => w.nr (by rw [← e]; exact ha)) fun a ha => by
      rcases ha with ha | rfl
      · exact w.R.fz a ha
      · exact ⟨vs, w.at_⟩
theorem LcW.added {K : PySem.W.Frag} {W1 W : Wd} {H1 H : Hp} {L : Addr} {st : Sto} {acc : List D} {vs : List V} (w : LcW K W1 H1 L W st H acc vs) (hL : H1 L = none) : Ext W1 H1 (W.add L) H ∧ Rl K (W.add L) (st ++ [.lst acc]) H := by
  have k : KeepT W.F H (W.add L).F H := ⟨fun _ h => h, fun _ _ _ q => q, fun _ _ q => q, fun _ _ _ q => q, fun _ _ q => q⟩
  have pre : W.ρ <+: (W.add L).ρ := List.prefix_append _ _
  refine ⟨⟨w.E.pre.trans pre, fun a h => ?_, w.E.fF, w.E.nF, w.E.keep, w.E.there⟩, ?_, ?_, fun n a o h1 h2 => ?_, fun a ha h => ?_, w.R.fz⟩
  · (rcases List.mem_append.mp h with h | h)
    · exact w.E.new a h
    · rw [List.mem_singleton] at h; rw [h]; exact .inr hL
  · show (W.ρ ++ [L]).length = _
    rw [List.length_append, List.length_append, w.R.len]; rfl
  · show (W.ρ ++ [L]).Nodup
    rw [List.nodup_append]
    exact ⟨w.R.nd, by simp, fun a ha b hb e => by rw [List.mem_singleton] at hb; subst hb; subst e; exact w.nr ha⟩
  · have h1 : (W.ρ ++ [L])[n]? = some a := h1
    by_cases hn : n < W.ρ.length
    · rw [List.getElem?_append_left hn] at h1
      rw [List.getElem?_append_left (by rw [← w.R.len]; exact hn)] at h2
      have q := w.R.live n a o h1 h2
      cases o with
      | lst ds => obtain ⟨us, q1, q2⟩ := q; exact ⟨us, q1, k.relDs pre q2⟩
    · rw [List.getElem?_append_right (by omega)] at h1
      rw [List.getElem?_append_right (by rw [← w.R.len]; omega)] at h2
      have hz : n - W.ρ.length = 0 := by
        cases e : n - W.ρ.length with
        | zero => rfl
        | succ k => rw [e] at h1; simp at h1
      rw [hz] at h1
      rw [← w.R.len, hz] at h2
      have e1 : L = a := by simpa using h1
      have e2 : SO.lst acc = o := by simpa using h2
      subst e1; subst e2
      exact ⟨vs, w.at_, k.relDs pre w.rr⟩
  · (rcases List.mem_append.mp ha with ha | ha)
    · exact w.R.sep a ha h
    · rw [List.mem_singleton] at ha; subst ha; exact w.nF h
variable {elt tg iter : Expr} {ifs : List Expr} {scope : Scope} {own : List (Str × Nat)} {us : List Nat} {ga : D → Env → Option Env} {gt : Env → Sto → Res Bool} {fe : Env → Sto → Res D} {fit : Env → Sto → Res ItM}
abbrev RTs (X : Cx) (ifs : List Expr) (gt : Env → Sto → Res Bool) : Prop := PTs X ifs (tT X.K W0 gt)
def yesM (_ : Env) (st : Sto) : Res Bool := .ok true st
theorem rts_nil : RTs X [] yesM := ⟨fun pins s σ H Q I ⟨W, env, st, R, Ev, h⟩ => pts_nil.run pins s σ H Q I (h W H .refl R)⟩
theorem rts_one (h : RT X W0 c gt) : RTs X [c] gt := pts_one h
theorem re_lc (hc : X.calm = true) (hN : X.N.Nodup) (hi : RI X Wx tg iter fit) (ok : BlkOk X.N X.env.scope scope own)
    (hg : ∀ (s : Shared) (H : Hp) (C : Addr) (cl : List (Str × Addr)) (fp : List Addr), RG (X.blk s H scope (compEnvC scope cl C X.env) fp) (own.map (·.2)) tg ga) (ht : ∀ (s : Shared) (H : Hp) (C : Addr) (cl : List (Str × Addr)) (fp : List Addr), RTs (X.blk s H scope (compEnvC scope cl C X.env) fp) ifs gt)
    (he : ∀ (s : Shared) (H : Hp) (C : Addr) (cl : List (Str × Addr)) (fp : List Addr), RE (X.blk s H scope (compEnvC scope cl C X.env) fp) W0 elt fe) (hs : ∀ x, foldedSetIterable iter X.env x = pure x := by intro _; rfl) :
    RE X Wx (.ListComp elt [⟨tg, iter, ifs, 0⟩] scope pos) (lcM (own.map (·.2)) fit ga gt fe) := by
  refine PE.conv (pe_lc (g := tG X.K (own.map (·.2)) ga) (tt := tT X.K W0 gt) (te := tE X.K W0 fe) hc hN hi ok hg ht he hs) fun σ H Q ⟨W, env, st, R, Ev, h⟩ => ⟨W, env, st, R, Ev, split h (fun it s h1 W1 H1 J E1 R1 j => ?_) fun C fs st' hx => hx⟩
  split at h1
  · rename_i acc s2 hr
    obtain ⟨z, e1, q⟩ := optR_holds h1
    cases e2 : plains acc with
    | none => rw [e2] at e1; cases e1
    | some ts =>
      rw [e2] at e1
      cases e1
      refine lc_run rfl rfl rfl R1 (Ev.mono E1 R) j hr fun L W2 H2 vs hL w => ?_
      obtain ⟨a1, a2, a3⟩ := w.fixed hL
      exact q _ H2 _ (E1.trans a1) a2 ⟨L, vs, rfl, .inr rfl, w.at_, a3.relTs _ _ (relTs_of e2 w.rr)⟩
  · exact h1.elim
theorem re_lcN (hc : X.calm = true) (hN : X.N.Nodup) (hi : RI X Wx tg iter fit) (ok : BlkOk X.N X.env.scope scope own)
    (hg : ∀ (s : Shared) (H : Hp) (C : Addr) (cl : List (Str × Addr)) (fp : List Addr), RG (X.blk s H scope (compEnvC scope cl C X.env) fp) (own.map (·.2)) tg ga) (ht : ∀ (s : Shared) (H : Hp) (C : Addr) (cl : List (Str × Addr)) (fp : List Addr), RTs (X.blk s H scope (compEnvC scope cl C X.env) fp) ifs gt)
    (he : ∀ (s : Shared) (H : Hp) (C : Addr) (cl : List (Str × Addr)) (fp : List Addr), RE (X.blk s H scope (compEnvC scope cl C X.env) fp) W0 elt fe) (hs : ∀ x, foldedSetIterable iter X.env x = pure x := by intro _; rfl) :
    RE X Wx (.ListComp elt [⟨tg, iter, ifs, 0⟩] scope pos) (lcN (own.map (·.2)) fit ga gt fe) := by
  refine PE.conv (pe_lc (g := tG X.K (own.map (·.2)) ga) (tt := tT X.K W0 gt) (te := tE X.K W0 fe) hc hN hi ok hg ht he hs) fun σ H Q ⟨W, env, st, R, Ev, h⟩ => ⟨W, env, st, R, Ev, split h (fun it s h1 W1 H1 J E1 R1 j => ?_) fun C fs st' hx => hx⟩
  split at h1
  · rename_i acc s2 hr
    refine lc_run rfl rfl rfl R1 (Ev.mono E1 R) j hr fun L W2 H2 vs hL w => ?_
    obtain ⟨a1, a2⟩ := w.added hL
    exact h1 _ H2 _ (E1.trans a1) a2 ⟨L, by
      show (W2.ρ ++ [L])[s2.length]? = some L
      rw [← w.R.len, List.getElem?_append_right (Nat.le_refl _), Nat.sub_self]; rfl, rfl⟩
  · exact h1.elim
/-- x = [..] -/
theorem rs_setLc {i : Nat} {y : Str} {py spos : Pos} (hc : X.calm = true) (hN : X.N.Nodup) (hy : X.N[i]? = some y) (hyl : X.env.scope.names.lookup y = some .local)
    (hsw : swapsWith (.ListComp elt [⟨tg, iter, ifs, 0⟩] scope pos) (some (.Name y py)) spos.line X.env = pure true) (hi : RI X Wx tg iter fit) (ok : BlkOk X.N X.env.scope scope own)
    (hg : ∀ (s : Shared) (H : Hp) (C : Addr) (cl : List (Str × Addr)) (fp : List Addr), RG (X.blk s H scope (compEnvC scope cl C X.env) fp) (own.map (·.2)) tg ga) (ht : ∀ (s : Shared) (H : Hp) (C : Addr) (cl : List (Str × Addr)) (fp : List Addr), RTs (X.blk s H scope (compEnvC scope cl C X.env) fp) ifs gt)
    (he : ∀ (s : Shared) (H : Hp) (C : Addr) (cl : List (Str × Addr)) (fp : List Addr), RE (X.blk s H scope (compEnvC scope cl C X.env) fp) W0 elt fe) (hs : ∀ x, foldedSetIterable iter X.env x = pure x := by intro _; rfl) :
    RS X Wx (.Assign [.Name y py] (.ListComp elt [⟨tg, iter, ifs, 0⟩] scope pos) spos) (setM i (lcM (own.map (·.2)) fit ga gt fe)) := by
  refine PS.conv (ps_setLc (g := tG X.K (own.map (·.2)) ga) (tt := tT X.K W0 gt) (te := tE X.K W0 fe) hc hN hy hyl hsw hi ok hg ht he hs) fun E σ H ⟨W, env, st, R, Ev, h⟩ => ?_
  have hh := out_split h Ev R (A := fun d s => Out.Holds X.K Wx E W H (.nx (env.set i (some d)) s)) fun d s q => q
  refine ⟨W, env, st, R, Ev, split hh (fun it s h1 W1 H1 J E1 R1 j => ?_) fun C fs st' hx => hx⟩
  split at h1
  · rename_i acc s2 hr
    obtain ⟨z, e1, q⟩ := optR_holds h1
    cases e2 : plains acc with
    | none => rw [e2] at e1; cases e1
    | some ts =>
      rw [e2] at e1
      cases e1
      refine lc_run (Q := fun x H1 => gName _ x σ H1 E.nx) rfl rfl rfl R1 (Ev.mono E1 R) j hr fun L W2 H2 vs hL w => ?_
      obtain ⟨a1, a2, a3⟩ := w.fixed hL
      exact q _ _ H2 (E1.trans a1) a2 (((Ev.mono E1 R).mono a1 R1).set i ⟨L, vs, rfl, .inr rfl, w.at_, a3.relTs _ _ (relTs_of e2 w.rr)⟩)
  · exact h1.elim
theorem rs_setLcN {i : Nat} {y : Str} {py spos : Pos} (hc : X.calm = true) (hN : X.N.Nodup) (hy : X.N[i]? = some y) (hyl : X.env.scope.names.lookup y = some .local)
    (hsw : swapsWith (.ListComp elt [⟨tg, iter, ifs, 0⟩] scope pos) (some (.Name y py)) spos.line X.env = pure true) (hi : RI X Wx tg iter fit) (ok : BlkOk X.N X.env.scope scope own)
    (hg : ∀ (s : Shared) (H : Hp) (C : Addr) (cl : List (Str × Addr)) (fp : List Addr), RG (X.blk s H scope (compEnvC scope cl C X.env) fp) (own.map (·.2)) tg ga) (ht : ∀ (s : Shared) (H : Hp) (C : Addr) (cl : List (Str × Addr)) (fp : List Addr), RTs (X.blk s H scope (compEnvC scope cl C X.env) fp) ifs gt)
    (he : ∀ (s : Shared) (H : Hp) (C : Addr) (cl : List (Str × Addr)) (fp : List Addr), RE (X.blk s H scope (compEnvC scope cl C X.env) fp) W0 elt fe) (hs : ∀ x, foldedSetIterable iter X.env x = pure x := by intro _; rfl) :
    RS X Wx (.Assign [.Name y py] (.ListComp elt [⟨tg, iter, ifs, 0⟩] scope pos) spos) (setM i (lcN (own.map (·.2)) fit ga gt fe)) := by
  refine PS.conv (ps_setLc (g := tG X.K (own.map (·.2)) ga) (tt := tT X.K W0 gt) (te := tE X.K W0 fe) hc hN hy hyl hsw hi ok hg ht he hs) fun E σ H ⟨W, env, st, R, Ev, h⟩ => ?_
  have hh := out_split h Ev R (A := fun d s => Out.Holds X.K Wx E W H (.nx (env.set i (some d)) s)) fun d s q => q
  refine ⟨W, env, st, R, Ev, split hh (fun it s h1 W1 H1 J E1 R1 j => ?_) fun C fs st' hx => hx⟩
  split at h1
  · rename_i acc s2 hr
    refine lc_run (Q := fun x H1 => gName _ x σ H1 E.nx) rfl rfl rfl R1 (Ev.mono E1 R) j hr fun L W2 H2 vs hL w => ?_
    obtain ⟨a1, a2⟩ := w.added hL
    exact h1 _ _ H2 (E1.trans a1) a2 (((Ev.mono E1 R).mono a1 R1).set i ⟨L, by
      show (W2.ρ ++ [L])[s2.length]? = some L
      rw [← w.R.len, List.getElem?_append_right (Nat.le_refl _), Nat.sub_self]; rfl, rfl⟩)
  · exact h1.elim
end
end Mi
/-! Mir6 -/
namespace Mi
open L2 PySem PySem.Spec PyProof.Rows

/-! ### defs: a promise kept wherever nothing is being shown by repr -/
structure FnG (P : Program) (w : World) (K : PySem.W.Frag) (mg : Str → Option Value) (base : Heap) (k : Nat) (f : Addr) (fd : FuncData) (ps : List Str) (sp : Sp) : Prop where
  count : ∀ vs H Q E, sp vs H Q E → vs.length = ps.length
  go : ∀ (A : Around) (outer : List PySem.Env) (s : Shared) (H : Hp) (args : Args) (us : List Value) (vs : List V) (Q : VK) (E : XK),
    Room k A → A.guards = some [] → Env0 P w K mg base A outer s H → BindsTo s fd args (ps.zip us) → Vals vs us → sp vs H Q E →
    codeAny (model P w) A (.call (.ref f) args) (CR (L2.CX P w) outer P w H s Q E) s
theorem FnG.mono {P : Program} {w : World} {K : PySem.W.Frag} {mg : Str → Option Value} {base : Heap} {j k : Nat} {f : Addr} {fd : FuncData} {ps : List Str} {sp : Sp} (F : FnG P w K mg base j f fd ps sp) (h : j ≤ k) : FnG P w K mg base k f fd ps sp :=
  ⟨F.count, fun A outer s H args us vs Q E room => F.go A outer s H args us vs Q E (room.mono h)⟩
section
variable {P : Program} {w : World}  {K : PySem.W.Frag}  {mg : Str → Option Value}  {base : Heap}
/-- a def of the text keeps its promise if its body does -/
theorem def_ok {x qual : Str} {st : Stmt} {f : Addr} {fd : FuncData} {N ps : List Str} {k : Nat} {sp : Sp} (F : Fun K x qual st f fd) (S : FnScope N ps (defScope st)) (cnt : ∀ vs H Q E, sp vs H Q E → vs.length = ps.length)
    (body : ∀ (cd : Value) (A : Around) (outer : List PySem.Env) (s : Shared) (H : Hp) (vs : List V) (Q : VK) (E : XK), Room k (A.deeper (envOfC qual (defScope st) s.heap.objs.size f cd)) → A.guards = some [] → sp vs H Q E →
      ∃ t, PSs (cxOf (L2.CX P w) P w K mg base N qual (defScope st) f cd A outer s H E) (defBody st) t ∧ t ⟨fun _ H' => Q .non H', Q, fun _ _ => False, fun _ _ => False⟩ (L2.start N vs) H) : FnG P w K mg base (k + 1) f fd ps sp := by
  obtain ⟨oc, od, kV, doc, pm, an, cd, ct, osl, rfl, look, code⟩ := F.ex
  refine ⟨cnt, ?_⟩
  intro A outer s H args us vs Q E room gd e0 bnd rel ask
  have many := cnt vs H Q E ask
  have stay : ∀ b o, base.get? b = some o → s.heap.get? b = some o := fun b o q => (e0.bs b o q).left
  have inK : K.In s.heap := e0.mod.kin.keeps stay
  have places : ∀ y ∈ ps.zip us, (defScope st).names.lookup y.1 = some .local ∨
      ((defScope st).names.lookup y.1 = some .cell ∧ ((cellsFrom (s.heap.objs.size + 1) (defScope st).names []).lookup y.1).isSome = true) := by
    intro y hy
    have hm : y.1 ∈ ps := (List.of_mem_zip (a := y.1) (b := y.2) hy).left
    rcases S.par y.1 hm with q | q
    · exact Or.inl q
    · exact Or.inr ⟨q, PySem.W.cellsFrom_some _ _ _ (Or.inl q)⟩
  refine codeAny_call_function room.depth (inK f _ look) rfl
    S.co S.gen rfl (PySem.W.codeRec_of inK code) (bnd _ _ _ _ ?_)
  refine wpAny_newFunctionEnv_cells S.kind places ?_
  intro env he s1 x
  subst he
  refine ⟨(e0.mod.nolimit.keeps stay).keeps x.toInCall.keep, ?_⟩
  refine codeAny_func ?_
  obtain ⟨t, ht, hq⟩ := body cd A outer s H vs Q E (room.deeper _) gd ask
  have I0 := inv_start (CX := L2.CX P w) (E := E) S room.hd e0 many rel x
  have run := ht.run [] s1 (L2.start N vs) H _ I0 hq
  refine wpAny_mono run (fun fl s' hs => ?_) fun e s' q => q
  cases fl with
  | ret u =>
    (obtain ⟨v, σ', H', J, rv, q⟩ := hs)
    exact ⟨v, H', J.os, J.bare, J.base, J.hok, rv, q⟩
  | next =>
    obtain ⟨σ', H', J, q⟩ := hs
    exact ⟨.non, H', J.os, J.bare, J.base, J.hok, rfl, q⟩
  | brk => obtain ⟨_, _, _, q⟩ := hs; exact q.elim
  | cont => obtain ⟨_, _, _, q⟩ := hs; exact q.elim
end
section
variable {X : Cx} {Wx : WX} {k : Nat} {f : Addr} {fd : FuncData} {ps : List Str} {sp : Sp} {x : Str} {p pos : Pos} {e : Expr} {es : List Expr}
/-- the callee runs -/
theorem run_g {pins : List (Addr × Obj)} {σ : L2.St} {H : Hp} {s : Shared} {Q : VK} {us : List Value} {vs : List V} (G : FnG X.prog X.w X.K X.mg X.base k f fd ps sp) (room : Room k X.A) (gd : X.A.guards = some [])
    (tk : Takes X Wx) (hb : Binds X.K fd ps []) (I : Inv X pins σ H s) (r : Vals vs us) (h : sp vs H Q (fun c o H' => Wx c o σ H')) : wpAny (model X.prog X.w) X.A (call (.ref f) us) (EP X pins σ Q) X.xe s := by
  have many : us.length = ps.length := r.length.symm.trans (G.count _ _ _ _ h)
  have bnd := hb s us I.kIn (by rw [List.append_nil, many])
  rw [List.append_nil] at bnd
  have run := G.go X.A X.stack s H ⟨us, []⟩ us vs Q _ room gd I.env0 bnd r h
  refine wpAny_call (codeAny_mono run ?_)
  intro res s' hq
  cases res with
  | error e => exact passAt tk σ pins H s e s' I hq
  | ok fl =>
    cases fl with
    | ret u => exact I.after hq
    | next => exact hq.elim
    | brk => exact hq.elim
    | cont => exact hq.elim
def tCallG (sp : Sp) (Wx : WX) (t : TA) : TE := fun σ H Q => t σ H fun vs H1 => sp vs H1 Q fun c o H' => Wx c o σ H'
theorem pe_g (G : FnG X.prog X.w X.K X.mg X.base k f fd ps sp) (room : Room k X.A) (gd : X.A.guards = some []) (tk : Takes X Wx) (hg : Gl X x) (hm : X.mg x = some (.ref f)) (hk : PySem.W.keepIn X.K (.ref f) = true) (hb : Binds X.K fd ps [])
    {t : TA} (ha : PA X (e :: es) t) (hdb : (x == ("__debug__" : Str)) = false := by decide) (he : starEach (e :: es) X.env = (false, eval e X.env) :: starEach es X.env := by rfl)
    (hpl : (backTo pos (starEach es X.env)).any (·.1) = false := by rfl) : PE X (.Call (.Name x p) (e :: es) [] pos) (tCallG sp Wx t) := by
  (refine ⟨fun pins s σ H Q I h => ?_⟩)
  refine wpAny_Call_Name_kw (ld_glob I hg hm (PySem.W.callWith_K (h₀ := X.base) I.ok.mod.kin hk ?_ he hpl) hdb)
  refine thn (ha.run pos pins s σ H _ I h) ?_
  rintro us s1 ⟨vs, H1, I1, r, q⟩
  exact ⟨I1.kIn, run_g G room gd tk hb I1 r q⟩
theorem pe_g0 (G : FnG X.prog X.w X.K X.mg X.base k f fd ps sp) (room : Room k X.A) (gd : X.A.guards = some []) (tk : Takes X Wx) (hg : Gl X x) (hm : X.mg x = some (.ref f)) (hk : PySem.W.keepIn X.K (.ref f) = true) (hb : Binds X.K fd ps [])
    (hdb : (x == ("__debug__" : Str)) = false := by decide) : PE X (.Call (.Name x p) [] [] pos) (tCallG sp Wx tNil) := by
  (refine ⟨fun pins s σ H Q I h => ?_⟩)
  refine wpAny_Call_Name_kw (ld_glob I hg hm (PySem.W.callWith_K0 I.kIn hk ?_) hdb)
  exact run_g (us := []) (vs := []) G room gd tk hb I .nil h

/-! ### the two kinds of promises -/
inductive Rp where
  | ok (t : T) | exc (C : Addr) (fs : List (Str × T)) | bad
abbrev Fz (F : Addr → Prop) (H : Hp) : Prop := ∀ a, F a → ∃ xs, H a = some (.lst xs)
/-- a def of plain values: F says what it gives -/
def spP (K : PySem.W.Frag) (n : Nat) (F : List T → Rp) : Sp := fun vs H Q E => ∃ (S : Addr → Prop) (ts : List T), Fz S H ∧ RelTs K S H ts vs ∧ ts.length = n ∧ (match F ts with
  | .ok t => ∀ S' H' v, Ext ⟨[], S⟩ H ⟨[], S'⟩ H' → Fz S' H' → RelT K S' H' t v → Q v H'
  | .exc C fs => ∀ S' H' o, Ext ⟨[], S⟩ H ⟨[], S'⟩ H' → Fz S' H' → ExD K ⟨[], S'⟩ H' fs o → E (.ref C) o H'
  | .bad => False)
/-- a def that changes objects -/
def spG (K : PySem.W.Frag) (n : Nat) (F : List D → Sto → Res D) : Sp := fun vs H Q E => ∃ W st ds, Rl K W st H ∧ RelDs K W H ds vs ∧ ds.length = n ∧ (F ds st).Holds (OkD K W H Q) (OkX K W H E)
theorem spP_count {K : PySem.W.Frag} {n : Nat} {F : List T → Rp} {ps : List Str} (hn : ps.length = n) : ∀ vs H Q E, spP K n F vs H Q E → vs.length = ps.length := fun vs H Q E ⟨S, ts, _, r, l, _⟩ => by rw [relTs_len r, l, hn]
theorem spG_count {K : PySem.W.Frag} {n : Nat} {F : List D → Sto → Res D} {ps : List Str} (hn : ps.length = n) : ∀ vs H Q E, spG K n F vs H Q E → vs.length = ps.length := fun vs H Q E ⟨W, st, ds, _, r, l, _⟩ => by rw [relDs_len r, l, hn]

/-! ### their calls -/
def callP (F : List T → Rp) (fs : List (Env → Sto → Res D)) (env : Env) (st : Sto) : Res D := (argsM fs env st).bind fun ds st1 => match plains ds with
  | some ts => match F ts with
    | .ok t => .ok (.t t) st1
    | .exc C x => .exc C x st1
    | .bad => .bad
  | none => .bad
def callG (F : List D → Sto → Res D) (fs : List (Env → Sto → Res D)) (env : Env) (st : Sto) : Res D := (argsM fs env st).bind fun ds st1 => F ds st1
/-- behind a call of plain values the changed objects stand as they stood -/
theorem back {K : PySem.W.Frag} {W : Wd} {H H' : Hp} {st : Sto} {S' : Addr → Prop} (R : Rl K W st H) (E : Ext ⟨[], W.F⟩ H ⟨[], S'⟩ H') (fz : Fz S' H') : Ext W H ⟨W.ρ, S'⟩ H' ∧ Rl K ⟨W.ρ, S'⟩ st H' := by
  have E2 : Ext W H ⟨W.ρ, S'⟩ H' := ⟨List.prefix_refl _, fun a h => .inl h, E.fF, E.nF, fun a o h _ => E.keep a o h (by simp), E.there⟩
  refine ⟨E2, R.mono E2 rfl (fun a ha => ?_) (fun a ha h => ?_) fz⟩
  · obtain ⟨o, q⟩ := R.mem ha
    rw [q]; exact E.keep a o q (by simp)
  · rcases E.nF a h with h | h
    · exact R.sep a ha h
    · obtain ⟨o, q⟩ := R.mem ha
      have h : H a = none := h
      rw [q] at h; cases h
variable {fs : List (Env → Sto → Res D)}
theorem callP_conv {K : PySem.W.Frag} {n : Nat} {F : List T → Rp} {σ : L2.St} {H : Hp} {Q : VK} (hl : fs.length = n) (h : tE K Wx (callP F fs) σ H Q) : tCallG (spP K n F) Wx (tA K Wx (argsM fs)) σ H Q := by
  obtain ⟨W, env, st, R, Ev, h⟩ := h
  refine ⟨W, env, st, R, Ev, splitA h (fun ds st1 e0 h1 W1 H1 vs E1 R1 r1 => ?_) fun C fs st' hx => hx⟩
  split at h1
  · rename_i ts e1
    have rt := relTs_of e1 r1
    have l : ts.length = n := by
      have l1 := relTs_len rt
      have l2 := relDs_len r1
      have l3 := argsM_len e0
      omega
    refine ⟨W1.F, ts, R1.fz, rt, l, ?_⟩
    cases e2 : F ts with
    | ok t =>
      rw [e2] at h1
      intro S' H' v E' fz r'
      obtain ⟨a1, a2⟩ := back R1 E' fz
      exact h1 _ H' v (E1.trans a1) a2 r'
    | exc C x =>
      rw [e2] at h1
      intro S' H' o E' fz r'
      obtain ⟨a1, a2⟩ := back R1 E' fz
      refine h1 _ H' o (E1.trans a1) a2 ?_
      rcases r' with r' | ⟨a, us, q1, q2, q3⟩
      · exact .inl r'
      · refine .inr ⟨a, us, q1, q2, ?_⟩
        clear q2 q1 e2 h1
        induction x generalizing us with
        | nil => exact q3
        | cons y r ih =>
          obtain ⟨nm, t⟩ := y
          obtain ⟨v, u, c1, c2, c3⟩ := q3
          exact ⟨v, u, c1, c2, ih u c3⟩
    | bad => rw [e2] at h1; exact h1.elim
  · exact h1.elim
theorem callG_conv {K : PySem.W.Frag} {n : Nat} {F : List D → Sto → Res D} {σ : L2.St} {H : Hp} {Q : VK} (hl : fs.length = n) (h : tE K Wx (callG F fs) σ H Q) : tCallG (spG K n F) Wx (tA K Wx (argsM fs)) σ H Q := by
  obtain ⟨W, env, st, R, Ev, h⟩ := h
  refine ⟨W, env, st, R, Ev, splitA h (fun ds st1 e0 h1 W1 H1 vs E1 R1 r1 => ?_) fun C fs st' hx => hx⟩
  exact ⟨W1, st1, ds, R1, r1, by rw [argsM_len e0, hl], Res.Holds.imp h1 (fun _ _ q => q.mono E1) fun _ _ _ q => q.mono E1⟩
theorem re_callP {n : Nat} {F : List T → Rp} (G : FnG X.prog X.w X.K X.mg X.base k f fd ps (spP X.K n F)) (room : Room k X.A) (gd : X.A.guards = some []) (tk : Takes X Wx) (hg : Gl X x) (hm : X.mg x = some (.ref f)) (hk : PySem.W.keepIn X.K (.ref f) = true) (hb : Binds X.K fd ps [])
    (ha : RA X Wx (e :: es) (argsM fs)) (hl : fs.length = n := by rfl) (hdb : (x == ("__debug__" : Str)) = false := by decide) (he : starEach (e :: es) X.env = (false, eval e X.env) :: starEach es X.env := by rfl)
    (hpl : (backTo pos (starEach es X.env)).any (·.1) = false := by rfl) : RE X Wx (.Call (.Name x p) (e :: es) [] pos) (callP F fs) :=
  PE.conv (pe_g G room gd tk hg hm hk hb ha hdb he hpl) fun _ _ _ h => callP_conv hl h
theorem re_callG {n : Nat} {F : List D → Sto → Res D} (G : FnG X.prog X.w X.K X.mg X.base k f fd ps (spG X.K n F)) (room : Room k X.A) (gd : X.A.guards = some []) (tk : Takes X Wx) (hg : Gl X x) (hm : X.mg x = some (.ref f)) (hk : PySem.W.keepIn X.K (.ref f) = true) (hb : Binds X.K fd ps [])
    (ha : RA X Wx (e :: es) (argsM fs)) (hl : fs.length = n := by rfl) (hdb : (x == ("__debug__" : Str)) = false := by decide) (he : starEach (e :: es) X.env = (false, eval e X.env) :: starEach es X.env := by rfl)
    (hpl : (backTo pos (starEach es X.env)).any (·.1) = false := by rfl) : RE X Wx (.Call (.Name x p) (e :: es) [] pos) (callG F fs) :=
  PE.conv (pe_g G room gd tk hg hm hk hb ha hdb he hpl) fun _ _ _ h => callG_conv hl h
theorem re_callP0 {F : List T → Rp} (G : FnG X.prog X.w X.K X.mg X.base k f fd ps (spP X.K 0 F)) (room : Room k X.A) (gd : X.A.guards = some []) (tk : Takes X Wx) (hg : Gl X x) (hm : X.mg x = some (.ref f)) (hk : PySem.W.keepIn X.K (.ref f) = true) (hb : Binds X.K fd ps [])
    (hdb : (x == ("__debug__" : Str)) = false := by decide) : RE X Wx (.Call (.Name x p) [] [] pos) (callP F []) := by
  refine PE.conv (pe_g0 G room gd tk hg hm hk hb hdb) fun σ H Q h => ?_
  obtain ⟨W, env, st, R, Ev, q⟩ := callP_conv (fs := []) rfl h
  exact q W H [] .refl R rfl
end

/-! ### the body of a def -/
def startE (n : Nat) (ds : List D) : Env := ds.map some ++ List.replicate (n - ds.length) none
theorem startE_rel {K : PySem.W.Frag} {W : Wd} {H : Hp} {N : List Str} {ds : List D} {vs : List V} (r : RelDs K W H ds vs) : EnvR K W H (startE N.length ds) (L2.start N vs) := by
  have l := relDs_len r
  unfold startE L2.start
  refine ⟨by rw [List.length_append, List.length_append, List.length_map, List.length_map, List.length_replicate, List.length_replicate, l], fun i d q => ?_⟩
  by_cases hi : i < ds.length
  · rw [List.getElem?_append_left (by simpa using hi), List.getElem?_map] at q
    cases e : ds[i]? with
    | none => rw [e] at q; cases q
    | some d2 =>
      rw [e] at q
      cases q
      obtain ⟨v, e2, rv⟩ := relDs_get r e
      exact ⟨v, by rw [List.getElem?_append_left (by rw [List.length_map, l]; exact hi), List.getElem?_map, e2]; rfl, rv⟩
  · rw [List.getElem?_append_right (by simpa using hi), List.getElem?_replicate] at q
    split at q <;> cases q
/-- what a def of plain values hands back -/
def exitP (o : Out) : Rp := match o with
  | .rt (.t x) _ => .ok x
  | .rt (.r n) st => match st[n]? with
    | some (.lst ds) => match plains ds with
      | some ts => .ok (.lst ts)
      | none => .bad
    | _ => .bad
  | .nx _ _ => .ok .non
  | .exc C fs _ _ => .exc C fs
  | _ => .bad
def defP (n : Nat) (g : Env → Sto → Out) (ts : List T) : Rp := exitP (g (startE n (ts.map .t)) [])
/-- a def that changes objects -/
def exitG (o : Out) : Res D := match o with
  | .rt d st => .ok d st
  | .nx _ st => .ok (.t .non) st
  | .exc C fs _ st => .exc C fs st
  | _ => .bad
def defG (n : Nat) (g : Env → Sto → Out) (ds : List D) (st : Sto) : Res D := exitG (g (startE n ds) st)
/-- .. and leaves no new ones -/
def D.below (n : Nat) : D → Bool
  | .t _ => true
  | .x .. => true
  | .r m => decide (m < n)
def SO.below (n : Nat) : SO → Bool
  | .lst ds => ds.all (D.below n)
def trim (n : Nat) (d : D) (st : Sto) : Res D := if (st.take n).all (SO.below n) = true then (match d with
  | .t x => .ok (.t x) (st.take n)
  | .x .. => .bad
  | .r m => if m < n then .ok (.r m) (st.take n) else match st[m]? with
    | some (.lst ds) => match plains ds with
      | some ts => .ok (.t (.lst ts)) (st.take n)
      | none => .bad
    | _ => .bad) else .bad
def exitT (n : Nat) (o : Out) : Res D := match o with
  | .rt d st => trim n d st
  | .nx _ st => trim n (.t .non) st
  | .exc C fs _ st => if (st.take n).all (SO.below n) = true then .exc C fs (st.take n) else .bad
  | _ => .bad
def defT (n : Nat) (g : Env → Sto → Out) (ds : List D) (st : Sto) : Res D := exitT st.length (g (startE n ds) st)
section
variable {P : Program} {w : World} {K : PySem.W.Frag} {mg : Str → Option Value} {base : Heap} {x qual : Str} {st : Stmt} {f : Addr} {fd : FuncData} {N ps : List Str} {k : Nat} {g : Env → Sto → Out}
theorem relFs_F {K : PySem.W.Frag} {W W' : Wd} {H : Hp} (k : KeepT W.F H W'.F H) : ∀ {fs : List (Str × T)} {vs : List (Str × V)}, RelFs K W H fs vs → RelFs K W' H fs vs
  | [], vs, h => h
  | (n, t) :: r, vs, h => by
    obtain ⟨v, u, e, a, b⟩ := h
    exact ⟨v, u, e, k.relT t v a, relFs_F k b⟩
theorem exd_F {K : PySem.W.Frag} {W W' : Wd} {H : Hp} (k : KeepT W.F H W'.F H) {fs : List (Str × T)} {o : Option Addr} (h : ExD K W H fs o) : ExD K W' H fs o := by
  rcases h with h | ⟨a, vs, h1, h2, h3⟩
  · exact .inl h
  · exact .inr ⟨a, vs, h1, h2, relFs_F k h3⟩
abbrev WR (E : XK) : WX := fun c o _ H => E c o H
/-- the context of a body lets errors out as the def's promise says -/
theorem takes_def {cd : Value} {A : Around} {outer : List PySem.Env} {s : Shared} {H : Hp} {E : XK} : Takes (cxOf (L2.CX P w) P w K mg base N qual (defScope st) f cd A outer s H E) (WR E) := takes_of rfl rfl rfl rfl
theorem own_def {cd : Value} {A : Around} {outer : List PySem.Env} {s : Shared} {H : Hp} {E : XK} : PassesOwn (model P w) (A.deeper (envOfC qual (defScope st) s.heap.objs.size f cd)) (envOfC qual (defScope st) s.heap.objs.size f cd) (cxOf (L2.CX P w) P w K mg base N qual (defScope st) f cd A outer s H E).xe :=
  passes_of (X := cxOf (L2.CX P w) P w K mg base N qual (defScope st) f cd A outer s H E) (K := fun e s'' => L2.CX P w outer H s E e s'') rfl
theorem okP (F : Fun K x qual st f fd) (S : FnScope N ps (defScope st)) {n m : Nat} (hn : ps.length = n) (hm : N.length = m)
    (body : ∀ (cd : Value) (A : Around) (outer : List PySem.Env) (s : Shared) (H : Hp) (E : XK), Room k (A.deeper (envOfC qual (defScope st) s.heap.objs.size f cd)) → A.guards = some [] →
      RSs (cxOf (L2.CX P w) P w K mg base N qual (defScope st) f cd A outer s H E) (WR E) (defBody st) g) : FnG P w K mg base (k + 1) f fd ps (spP K n (defP m g)) := by
  refine def_ok F S (spP_count hn) fun cd A outer s H vs Q E room gd ask => ⟨_, body cd A outer s H E room gd, ?_⟩
  obtain ⟨S0, ts, fz, rt, hl, ask⟩ := ask
  have R0 : Rl K ⟨[], S0⟩ [] H := ⟨rfl, List.nodup_nil, fun n a o h _ => by simp at h, fun a h => absurd h (by simp), fz⟩
  refine ⟨⟨[], S0⟩, startE m (ts.map .t), [], R0, by rw [← hm]; exact startE_rel (relDs_t (W := ⟨[], S0⟩) rt), ?_⟩
  unfold defP at ask
  have toF : ∀ {W' : Wd} {H' : Hp} {S' : Addr → Prop}, Ext ⟨[], S0⟩ H W' H' → (∀ a, W'.F a → S' a) → (∀ a, S' a → W'.F a ∨ a ∈ W'.ρ) → Ext ⟨[], S0⟩ H ⟨[], S'⟩ H' := fun {W' H' S'} E h1 h2 =>
    ⟨List.prefix_refl _, fun a h => absurd h (by simp), fun a h => h1 a (E.fF a h), fun a h => (h2 a h).elim (E.nF a) fun h => (E.new a h).elim (fun z => absurd z (by simp)) .inr, E.keep, E.there⟩
  cases q : g (startE m (ts.map .t)) [] with
  | nx e s2 =>
    rw [q] at ask
    intro W' σ' H' E' R' _
    exact ask W'.F H' _ (toF E' (fun _ h => h) fun _ h => .inl h) R'.fz rfl
  | rt d s2 =>
    rw [q] at ask
    intro W' H' v E' R' r'
    cases d with
    | t y => exact ask W'.F H' v (toF E' (fun _ h => h) fun _ h => .inl h) R'.fz r'
    | x => exact ask.elim
    | r j =>
      obtain ⟨a, ea, rfl⟩ := r'
      have ask : (match exitP (.rt (.r j) s2) with
        | .ok t => ∀ S' H' v, Ext ⟨[], S0⟩ H ⟨[], S'⟩ H' → Fz S' H' → RelT K S' H' t v → Q v H'
        | .exc C fs => ∀ S' H' o, Ext ⟨[], S0⟩ H ⟨[], S'⟩ H' → Fz S' H' → ExD K ⟨[], S'⟩ H' fs o → E (.ref C) o H'
        | .bad => False) := ask
      unfold exitP at ask
      simp only at ask
      cases e1 : s2[j]? with
      | none => simp only [e1] at ask
      | some so =>
        cases so with
        | lst ds =>
          simp only [e1] at ask
          cases e2 : plains ds with
          | none => simp only [e2] at ask
          | some us =>
            simp only [e2] at ask
            obtain ⟨vs', h1, h2⟩ := R'.live j a _ ea e1
            have k : KeepT W'.F H' (fun b => W'.F b ∨ b = a) H' := ⟨fun _ h => .inl h, fun _ _ _ q => q, fun _ _ q => q, fun _ _ _ q => q, fun _ _ q => q⟩
            refine ask (fun b => W'.F b ∨ b = a) H' (.ref a) (toF E' (fun _ h => .inl h) fun b h => h.imp id fun e => by rw [e]; exact List.mem_of_getElem? ea) (fun b hb => ?_) ⟨a, vs', rfl, .inr rfl, h1, k.relTs _ _ (relTs_of e2 h2)⟩
            rcases hb with hb | rfl
            · exact R'.fz b hb
            · exact ⟨vs', h1⟩
  | exc C fs e s2 =>
    rw [q] at ask
    intro W' σ' H' o E' R' _ xx
    exact ask W'.F H' o (toF E' (fun _ h => h) fun _ h => .inl h) R'.fz (exd_F (K := K) (W := W') (W' := ⟨[], W'.F⟩) ⟨fun _ h => h, fun _ _ _ q => q, fun _ _ q => q, fun _ _ _ q => q, fun _ _ q => q⟩ xx)
  | bk e s2 => rw [q] at ask; exact ask.elim
  | ct e s2 => rw [q] at ask; exact ask.elim
  | bad => rw [q] at ask; exact ask.elim
theorem okG (F : Fun K x qual st f fd) (S : FnScope N ps (defScope st)) {n m : Nat} (hn : ps.length = n) (hm : N.length = m)
    (body : ∀ (cd : Value) (A : Around) (outer : List PySem.Env) (s : Shared) (H : Hp) (E : XK), Room k (A.deeper (envOfC qual (defScope st) s.heap.objs.size f cd)) → A.guards = some [] →
      RSs (cxOf (L2.CX P w) P w K mg base N qual (defScope st) f cd A outer s H E) (WR E) (defBody st) g) : FnG P w K mg base (k + 1) f fd ps (spG K n (defG m g)) := by
  refine def_ok F S (spG_count hn) fun cd A outer s H vs Q E room gd ask => ⟨_, body cd A outer s H E room gd, ?_⟩
  obtain ⟨W, s0, ds, R, r, hl, ask⟩ := ask
  refine ⟨W, startE m ds, s0, R, by rw [← hm]; exact startE_rel r, ?_⟩
  unfold defG at ask
  cases q : g (startE m ds) s0 with
  | nx e s2 => rw [q] at ask; exact fun W' σ' H' E' R' _ => ask W' H' _ E' R' rfl
  | rt d s2 => rw [q] at ask; exact ask
  | exc C fs e s2 => rw [q] at ask; exact fun W' σ' H' o E' R' _ xx => ask W' H' o E' R' xx
  | bk e s2 => rw [q] at ask; exact ask.elim
  | ct e s2 => rw [q] at ask; exact ask.elim
  | bad => rw [q] at ask; exact ask.elim
theorem below_rel {K : PySem.W.Frag} {W W' : Wd} {H : Hp} {n : Nat} (hp : W'.ρ = W.ρ.take n) (k : KeepT W.F H W'.F H) {d : D} {v : V} (hb : D.below n d = true) (r : RelD K W H d v) : RelD K W' H d v := by
  cases d with
  | t x => exact k.relT x v r
  | x a o C fs => exact ⟨r.1, k.exd r.2⟩
  | r m =>
    obtain ⟨a, e, rfl⟩ := r
    refine ⟨a, ?_, rfl⟩
    rw [hp, List.getElem?_take_of_lt (of_decide_eq_true hb)]
    exact e
theorem belows_rel {K : PySem.W.Frag} {W W' : Wd} {H : Hp} {n : Nat} (hp : W'.ρ = W.ρ.take n) (k : KeepT W.F H W'.F H) : ∀ {ds : List D} {vs : List V}, ds.all (D.below n) = true → RelDs K W H ds vs → RelDs K W' H ds vs
  | [], vs, _, h => h
  | d :: ds, vs, hb, h => by
    rw [List.all_cons, Bool.and_eq_true] at hb
    obtain ⟨v, u, e, a, b⟩ := h
    exact ⟨v, u, e, below_rel hp k hb.1 a, belows_rel hp k hb.2 b⟩
/-- the new objects are let go -/
theorem Rl.trim {K : PySem.W.Frag} {W W' : Wd} {H : Hp} {s : Sto} {n : Nat} (R : Rl K W s H) (hp : W'.ρ = W.ρ.take n) (k : KeepT W.F H W'.F H) (hb : (s.take n).all (SO.below n) = true) (hs : ∀ a ∈ W.ρ.take n, ¬ W'.F a) (hf : Fz W'.F H) : Rl K W' (s.take n) H := by
  refine ⟨by rw [hp, List.length_take, List.length_take, R.len], by rw [hp]; exact R.nd.sublist (List.take_sublist _ _), fun m a o h1 h2 => ?_, fun a ha => hs a (by rw [← hp]; exact ha), hf⟩
  rw [hp] at h1
  have hm : m < n := by
    have := (List.getElem?_eq_some_iff.mp h1).1
    rw [List.length_take] at this
    omega
  have hmem : o ∈ s.take n := List.mem_of_getElem? h2
  rw [List.getElem?_take_of_lt hm] at h1 h2
  have q := R.live m a o h1 h2
  have hbo : SO.below n o = true := List.all_eq_true.mp hb o hmem
  cases o with
  | lst ds => obtain ⟨vs, q1, q2⟩ := q; exact ⟨vs, q1, belows_rel hp k hbo q2⟩
theorem okT (F : Fun K x qual st f fd) (S : FnScope N ps (defScope st)) {n m : Nat} (hn : ps.length = n) (hm : N.length = m)
    (body : ∀ (cd : Value) (A : Around) (outer : List PySem.Env) (s : Shared) (H : Hp) (E : XK), Room k (A.deeper (envOfC qual (defScope st) s.heap.objs.size f cd)) → A.guards = some [] →
      RSs (cxOf (L2.CX P w) P w K mg base N qual (defScope st) f cd A outer s H E) (WR E) (defBody st) g) : FnG P w K mg base (k + 1) f fd ps (spG K n (defT m g)) := by
  refine def_ok F S (spG_count hn) fun cd A outer s H vs Q E room gd ask => ⟨_, body cd A outer s H E room gd, ?_⟩
  obtain ⟨W, s0, ds, R, r, hl, ask⟩ := ask
  refine ⟨W, startE m ds, s0, R, by rw [← hm]; exact startE_rel r, ?_⟩
  unfold defT at ask
  -- the world without the new objects
  have cut : ∀ {W' : Wd} {H' : Hp} {s2 : Sto} {S' : Addr → Prop}, Ext W H W' H' → Rl K W' s2 H' → (∀ a, W'.F a → S' a) → (∀ a, S' a → W'.F a ∨ (a ∈ W'.ρ ∧ a ∉ W.ρ)) → Fz S' H' → (s2.take s0.length).all (SO.below s0.length) = true →
      Ext W H ⟨W.ρ, S'⟩ H' ∧ Rl K ⟨W.ρ, S'⟩ (s2.take s0.length) H' := fun {W' H' s2 S'} E' R' h1 h2 fz hb => by
    have hp : W.ρ = W'.ρ.take s0.length := by
      obtain ⟨t, ht⟩ := E'.pre
      rw [← ht, ← R.len, List.take_left]
    refine ⟨⟨List.prefix_refl _, fun a h => .inl h, fun a h => h1 a (E'.fF a h), fun a h => ?_, E'.keep, E'.there⟩, R'.trim hp ⟨h1, fun _ _ _ q => q, fun _ _ q => q, fun _ _ _ q => q, fun _ _ q => q⟩ hb (fun a ha h => ?_) fz⟩
    · rcases h2 a h with h | ⟨h, hn⟩
      · exact E'.nF a h
      · exact (E'.new a h).elim (fun z => absurd z hn) .inr
    · rw [← hp] at ha
      rcases h2 a h with h | ⟨h, hn⟩
      · exact R'.sep a (by
          obtain ⟨t, ht⟩ := E'.pre
          rw [← ht]; exact List.mem_append_left _ ha) h
      · exact hn ha
  have fin : ∀ {d : D} {s2 : Sto}, (trim s0.length d s2).Holds (OkD K W H Q) (OkX K W H E) → OkD K W H Q d s2 := fun {d s2} ask W' H' v E' R' r' => by
    unfold Mi.trim at ask
    split at ask
    · rename_i hb
      cases d with
      | t y =>
        obtain ⟨a1, a2⟩ := cut (S' := W'.F) E' R' (fun _ h => h) (fun _ h => .inl h) R'.fz hb
        exact ask _ H' v a1 a2 r'
      | x => exact ask.elim
      | r j =>
        simp only at ask
        split at ask
        · rename_i hj
          obtain ⟨a1, a2⟩ := cut (S' := W'.F) E' R' (fun _ h => h) (fun _ h => .inl h) R'.fz hb
          obtain ⟨a, ea, rfl⟩ := r'
          refine ask _ H' (.ref a) a1 a2 ⟨a, ?_, rfl⟩
          obtain ⟨t, ht⟩ := E'.pre
          rw [← ht, List.getElem?_append_left (by rw [R.len]; exact hj)] at ea
          exact ea
        · rename_i hj
          obtain ⟨a, ea, rfl⟩ := r'
          cases e1 : s2[j]? with
          | none => simp only [e1] at ask; exact ask.elim
          | some so =>
            cases so with
            | lst ds =>
              simp only [e1] at ask
              cases e2 : plains ds with
              | none => simp only [e2] at ask; exact ask.elim
              | some us =>
                simp only [e2] at ask
                obtain ⟨vs', h1, h2⟩ := R'.live j a _ ea e1
                have na : a ∉ W.ρ := fun hm => by
                  obtain ⟨i, hi, e⟩ := List.getElem_of_mem hm
                  obtain ⟨t, ht⟩ := E'.pre
                  have e3 : W'.ρ[i]? = some a := by rw [← ht, List.getElem?_append_left hi, List.getElem?_eq_getElem hi, e]
                  obtain ⟨k1, z1⟩ := List.getElem?_eq_some_iff.mp e3
                  obtain ⟨k2, z2⟩ := List.getElem?_eq_some_iff.mp ea
                  have : i = j := (List.getElem_inj R'.nd).mp (z1.trans z2.symm)
                  rw [R.len] at hi
                  omega
                have k : KeepT W'.F H' (fun b => W'.F b ∨ b = a) H' := ⟨fun _ h => .inl h, fun _ _ _ q => q, fun _ _ q => q, fun _ _ _ q => q, fun _ _ q => q⟩
                obtain ⟨a1, a2⟩ := cut (S' := fun b => W'.F b ∨ b = a) E' R' (fun _ h => .inl h) (fun b h => h.imp id fun e => by rw [e]; exact ⟨List.mem_of_getElem? ea, na⟩) (fun b hb => by
                  rcases hb with hb | rfl
                  · exact R'.fz b hb
                  · exact ⟨vs', h1⟩) hb
                exact ask _ H' (.ref a) a1 a2 ⟨a, vs', rfl, .inr rfl, h1, k.relTs _ _ (relTs_of e2 h2)⟩
    · exact ask.elim
  cases q : g (startE m ds) s0 with
  | nx e s2 => rw [q] at ask; exact fun W' σ' H' E' R' _ => fin (d := .t .non) ask W' H' _ E' R' rfl
  | rt d s2 => rw [q] at ask; exact fin ask
  | exc C fs e s2 =>
    rw [q] at ask
    intro W' σ' H' o E' R' _ xx
    have ask : (if (s2.take s0.length).all (SO.below s0.length) = true then Res.exc (α := D) C fs (s2.take s0.length) else .bad).Holds (OkD K W H Q) (OkX K W H E) := ask
    split at ask
    · rename_i hb
      obtain ⟨a1, a2⟩ := cut (S' := W'.F) E' R' (fun _ h => h) (fun _ h => .inl h) R'.fz hb
      exact ask _ H' o a1 a2 (exd_F (K := K) (W := W') (W' := ⟨W.ρ, W'.F⟩) ⟨fun _ h => h, fun _ _ _ q => q, fun _ _ q => q, fun _ _ _ q => q, fun _ _ q => q⟩ xx)
    · exact ask.elim
  | bk e s2 => rw [q] at ask; exact ask.elim
  | ct e s2 => rw [q] at ask; exact ask.elim
  | bad => rw [q] at ask; exact ask.elim
end
end Mi
/-! Mir7 -/
namespace Mi
open L2 PySem PySem.Spec PyProof.Rows
section
variable {X : Cx} {Wx : WX} {k : Nat}
/-! ### str(x), repr(x) -/
def showB (p : PyData) : Option D := if p.showable = true ∧ p.hasDict = false ∧ p.depth ≤ 60 ∧ p.shown.length ≤ LIM then some (sD p.shown) else none
def strB (ds : List D) (st : Sto) : Option D := match ds with
  | [.t (.str x)] => some (sD x)
  | [.t (.int i)] => if i.natAbs.log2 < 1920 then some (sD (toString i)) else none
  | [.t (.tup ts)] => (pyT (.tup ts)).bind showB
  | [.t (.lst ts)] => (pyT (.lst ts)).bind showB
  | [.r n] => (pyD st (.r n)).bind showB
  | _ => none
theorem shown_call {fv : Value} (hf : ∀ (a : Addr) (d : PyData) (as : List Addr) (s : Shared) (Q : Value → Shared → Prop), Reads s.heap (.ref a) d as → d.showable = true → d.hasDict = false → d.depth ≤ 60 → d.shown.length ≤ sizeLine →
      (∀ h' u tk, (∀ b o, s.heap.get? b = some o → h'.get? b = some o) → Q (.str d.shown u) { s with heap := h', toks := tk }) → wpAny (model X.prog X.w) X.A (call fv [.ref a]) Q X.xe s) :
    CallR X fv (fun xs H Q => ∃ (a : Addr) (p : PyData), xs = [.ref a] ∧ Dp X.K H (.ref a) p ∧ p.showable = true ∧ p.hasDict = false ∧ p.depth ≤ 60 ∧ p.shown.length ≤ LIM ∧ Q (.str p.shown) H) := by
  intro pins s σ H xs us Q I r ⟨a, p, e, hd, h1, h2, h3, h4, q⟩
  subst e
  rw [Vals.ref1 r]
  obtain ⟨as, rd⟩ := Dp.reads I p (.ref a) (.ref a) hd rfl
  refine hf a p as s _ rd h1 h2 h3 (lim_size h4) fun h' u tk hk => ?_
  exact ⟨.str p.shown, H, I.kept hk, ⟨u, rfl⟩, q⟩
theorem c_str (room : Room k X.A) (gd : X.A.guards = some []) : CallR X (.type "str") (rC X.K strB) := by
  have hs : CallR X (.type "str") _ := shown_call (fv := .type "str") fun a d as s Q rd h1 h2 h3 h4 hq =>
    str_of_reads rd h1 (fun z => by rw [h2] at z; cases z) gd (by have := room.un; omega) (fun _ _ e => e) hq h4
  refine call_of (CallR.or SkE.call_str_str (CallR.or call_str_int hs)) fun W st ds xs H Q z R r h q => ?_
  have big : ∀ (d : D) (p : PyData), (∃ a, xs = [.ref a]) → (∃ v, xs = [v] ∧ Dp X.K H v p) → showB p = some z → ∃ (a : Addr) (p : PyData), xs = [.ref a] ∧ Dp X.K H (.ref a) p ∧ p.showable = true ∧ p.hasDict = false ∧ p.depth ≤ 60 ∧ p.shown.length ≤ LIM ∧ Q (.str p.shown) H := fun d p ⟨a, e1⟩ ⟨v, e2, hd⟩ hz => by
    unfold showB at hz
    split at hz
    · rename_i c
      cases hz
      rw [e1] at e2
      cases e2
      exact ⟨a, p, e1, hd, c.1, c.2.1, c.2.2.1, c.2.2.2, q W H _ .refl R rfl⟩
    · cases hz
  unfold strB at h
  split at h
  · cases h; obtain ⟨v, rfl, r1⟩ := rel1 r; cases r1; exact .inl ⟨_, rfl, q W H _ .refl R rfl⟩
  · split at h
    · rename_i i hl
      cases h; obtain ⟨v, rfl, r1⟩ := rel1 r; cases r1; exact .inr (.inl ⟨_, rfl, hl, q W H _ .refl R rfl⟩)
    · cases h
  · rename_i ts
    cases e1 : pyT (.tup ts) with
    | none => rw [e1] at h; cases h
    | some p =>
      rw [e1] at h
      obtain ⟨v, rfl, r1⟩ := rel1 r
      have hd := dp_of (.tup ts) p v e1 r1
      obtain ⟨a, vs, rfl, _⟩ := r1
      exact .inr (.inr (big (.t (.tup ts)) p ⟨a, rfl⟩ ⟨_, rfl, hd⟩ h))
  · rename_i ts
    cases e1 : pyT (.lst ts) with
    | none => rw [e1] at h; cases h
    | some p =>
      rw [e1] at h
      obtain ⟨v, rfl, r1⟩ := rel1 r
      have hd := dp_of (.lst ts) p v e1 r1
      obtain ⟨a, vs, rfl, _⟩ := r1
      exact .inr (.inr (big (.t (.lst ts)) p ⟨a, rfl⟩ ⟨_, rfl, hd⟩ h))
  · rename_i n
    cases e1 : pyD st (.r n) with
    | none => rw [e1] at h; cases h
    | some p =>
      rw [e1] at h
      obtain ⟨v, rfl, r1⟩ := rel1 r
      have hd := dpD_of R e1 r1
      obtain ⟨a, _, rfl⟩ := r1
      exact .inr (.inr (big (.r n) p ⟨a, rfl⟩ ⟨_, rfl, hd⟩ h))
  · cases h
def reprB (ds : List D) (st : Sto) : Option D := match ds with
  | [.t .non] => some (sD "None")
  | [.t (.bl b)] => some (sD (if b then "True" else "False"))
  | [.t (.str x)] => if (reprText x).length ≤ LIM then some (sD (reprText x)) else none
  | [.t (.int i)] => if i.natAbs.log2 < 1920 then some (sD (toString i)) else none
  | [.t (.tup ts)] => (pyT (.tup ts)).bind showB
  | [.t (.lst ts)] => (pyT (.lst ts)).bind showB
  | [.r n] => (pyD st (.r n)).bind showB
  | _ => none
theorem call_repr_flat : CallR X (.builtin "repr") (fun xs H Q => (xs = [.non] ∧ Q (.str "None") H) ∨ (∃ b, xs = [.bl b] ∧ Q (.str (if b then "True" else "False")) H) ∨ ∃ x, xs = [.str x] ∧ (reprText x).length ≤ LIM ∧ Q (.str (reprText x)) H) := by
  (intro pins s σ H xs us Q I r h)
  rcases h with ⟨rfl, q⟩ | ⟨b, rfl, q⟩ | ⟨x, rfl, hl, q⟩
  · cases r with
    | cons r1 rn => cases rn; cases r1; exact PySem.P.repr_of_none ⟨.str _, H, I.tok _, ⟨_, rfl⟩, q⟩
  · cases r with
    | cons r1 rn => cases rn; cases r1; exact PySem.P.repr_of_bool ⟨.str _, H, I.tok _, ⟨_, rfl⟩, q⟩
  · cases r with
    | cons r1 rn =>
      cases rn
      obtain ⟨t, rfl⟩ := r1
      exact PySem.P.repr_of_str ⟨.str _, H, I.tok _, ⟨_, rfl⟩, q⟩ (lim_size hl)
theorem c_reprU (room : X.A.units + 200 < cLine) (gd : X.A.guards = some []) : CallR X (.builtin "repr") (rC X.K reprB) := by
  have hs : CallR X (.builtin "repr") _ := shown_call (fv := .builtin "repr") fun a d as s Q rd h1 h2 h3 h4 hq =>
    repr_of_reads' rd h1 (fun z => by rw [h2] at z; cases z) gd (by omega) (fun _ _ e => e) hq h4
  refine call_of (CallR.or call_repr_flat (CallR.or SkE.call_repr_int hs)) fun W st ds xs H Q z R r h q => ?_
  have big : ∀ (d : D) (p : PyData), (∃ a, xs = [.ref a]) → (∃ v, xs = [v] ∧ Dp X.K H v p) → showB p = some z → ∃ (a : Addr) (p : PyData), xs = [.ref a] ∧ Dp X.K H (.ref a) p ∧ p.showable = true ∧ p.hasDict = false ∧ p.depth ≤ 60 ∧ p.shown.length ≤ LIM ∧ Q (.str p.shown) H := fun d p ⟨a, e1⟩ ⟨v, e2, hd⟩ hz => by
    unfold showB at hz
    split at hz
    · rename_i c
      cases hz
      rw [e1] at e2
      cases e2
      exact ⟨a, p, e1, hd, c.1, c.2.1, c.2.2.1, c.2.2.2, q W H _ .refl R rfl⟩
    · cases hz
  unfold reprB at h
  split at h
  · cases h; obtain ⟨v, rfl, r1⟩ := rel1 r; cases r1; exact .inl (.inl ⟨rfl, q W H _ .refl R rfl⟩)
  · cases h; obtain ⟨v, rfl, r1⟩ := rel1 r; cases r1; exact .inl (.inr (.inl ⟨_, rfl, q W H _ .refl R rfl⟩))
  · split at h
    · rename_i x hl
      cases h; obtain ⟨v, rfl, r1⟩ := rel1 r; cases r1; exact .inl (.inr (.inr ⟨_, rfl, hl, q W H _ .refl R rfl⟩))
    · cases h
  · split at h
    · rename_i i hl
      cases h; obtain ⟨v, rfl, r1⟩ := rel1 r; cases r1; exact .inr (.inl ⟨_, rfl, hl, q W H _ .refl R rfl⟩)
    · cases h
  · rename_i ts
    cases e1 : pyT (.tup ts) with
    | none => rw [e1] at h; cases h
    | some p =>
      rw [e1] at h
      obtain ⟨v, rfl, r1⟩ := rel1 r
      have hd := dp_of (.tup ts) p v e1 r1
      obtain ⟨a, vs, rfl, _⟩ := r1
      exact .inr (.inr (big (.t (.tup ts)) p ⟨a, rfl⟩ ⟨_, rfl, hd⟩ h))
  · rename_i ts
    cases e1 : pyT (.lst ts) with
    | none => rw [e1] at h; cases h
    | some p =>
      rw [e1] at h
      obtain ⟨v, rfl, r1⟩ := rel1 r
      have hd := dp_of (.lst ts) p v e1 r1
      obtain ⟨a, vs, rfl, _⟩ := r1
      exact .inr (.inr (big (.t (.lst ts)) p ⟨a, rfl⟩ ⟨_, rfl, hd⟩ h))
  · rename_i n
    cases e1 : pyD st (.r n) with
    | none => rw [e1] at h; cases h
    | some p =>
      rw [e1] at h
      obtain ⟨v, rfl, r1⟩ := rel1 r
      have hd := dpD_of R e1 r1
      obtain ⟨a, _, rfl⟩ := r1
      exact .inr (.inr (big (.r n) p ⟨a, rfl⟩ ⟨_, rfl, hd⟩ h))
  · cases h
/-! ### texts -/
theorem c_repr (room : Room k X.A) (gd : X.A.guards = some []) : CallR X (.builtin "repr") (rC X.K reprB) := c_reprU (by have := room.un; omega) gd
theorem relTs_strs {K : PySem.W.Frag} {F : Addr → Prop} {H : Hp} : ∀ ys : List Str, RelTs K F H (ys.map .str) (ys.map V.str)
  | [] => rfl
  | y :: ys => ⟨.str y, _, rfl, rfl, relTs_strs ys⟩
def splitG (d : D) (ds : List D) (st : Sto) : Option (D × Sto) := match d, ds with
  | .t (.str a), [.t (.str b)] => if (b.length == 0) = false ∧ a.length + 2 ≤ LIM then some (.t (.lst ((Txt.split a b).map .str)), st) else none
  | _, _ => none
theorem m_split : MtR X "str.split" (rMt X.K splitG) := by
  intro pins s σ H x xs v us Q I rx rs ⟨W, st, d, ds, R, r1, r2, z, h, q⟩
  unfold splitG at h
  split at h
  · rename_i a b
    split at h
    · rename_i c
      cases h
      obtain ⟨w, rfl, r3⟩ := rel1 r2
      cases r1; cases r3
      refine mt_split pins s σ H _ _ v us Q I rx rs ⟨a, b, rfl, rfl, c.1, lim_size c.2, fun p hp => ?_⟩
      exact q (W.fix p) _ _ (Ext.fix W hp) (R.fix hp) ⟨p, _, rfl, .inr rfl, upd_same, relTs_strs _⟩
    · cases h
  · cases h
/-- xs.count(y), flat -/
def rCntV (K : PySem.W.Frag) : V → List V → Hp → VK → Prop := fun x xs H Q => ∃ (p : Addr) (ys : List V) (y : V), x = .ref p ∧ xs = [y] ∧ SqL K H p ys ∧ flatV y = true ∧ ys.all flatV = true ∧ Q (.int ((ys.countP fun z => eqV z y : Nat) : Int)) H
theorem count_eqU {x : V} : ∀ {xs : List V} {us : List Value}, Vals xs us → xs.all flatV = true → us.countP (eqU x) = xs.countP fun y => eqV y x
  | _, _, .nil, _ => rfl
  | _, _, .cons r t, f => by
    (rw [List.all_cons, Bool.and_eq_true] at f)
    rw [List.countP_cons, List.countP_cons, count_eqU t f.2, eqU_of r f.1]
theorem mt_countV : MtR X "list.count" (rCntV X.K) := by
  intro pins s σ H x xs v us Q I rx rxs ⟨p, ys, y, e1, e2, hs, fy, fys, q⟩
  subst e1; subst e2
  cases rx
  (obtain ⟨u, rfl, ru⟩ := rxs.one)
  (obtain ⟨its, rv, ⟨⟨cls, dd, data, sl⟩, n, ho, hc, hdn, hd⟩, hlen⟩ := I.list hs)
  simp only at hc hd
  subst hc hd
  refine call_meets PySem.F.slot_list_count ⟨_, ho, rfl⟩ PySem.F.entry_list_count (PySem.F.args_list_count_2 _ _) (SeqAt.list_countAt p its.toArray n dd sl u (eqU y)) ⟨ho, fun z hz => mem_eqAt ru fy rv fys z (by simpa using hz), ?_⟩
  have e := count_eqU rv fys (x := y)
  refine ⟨.int ((ys.countP fun z => eqV z y : Nat) : Int), H, I.tok _, ⟨s.toks, ?_⟩, q⟩
  show Value.int ((its.toArray.toList.countP (eqU y) : Nat) : Int) s.toks = _
  rw [List.toList_toArray, e]
def countG (d : D) (ds : List D) (st : Sto) : Option (D × Sto) := match ds with
  | [.t y] => (tV y).bind fun w => (lsq st d).bind fun is => (tVs is).map fun vs => (iD ((vs.countP fun z => eqV z w : Nat) : Int), st)
  | _ => none
theorem m_count : MtR X "list.count" (rMt X.K countG) := by
  intro pins s σ H x xs v us Q I rx rs ⟨W, st, d, ds, R, r1, r2, z, h, q⟩
  unfold countG at h
  split at h
  · rename_i y
    cases e1 : tV y with
    | none => rw [e1] at h; cases h
    | some w =>
      cases e2 : lsq st d with
      | none => rw [e1, e2] at h; cases h
      | some is =>
        rw [e1, e2] at h
        have h : (tVs is).map (fun vs => (iD ((vs.countP fun z => eqV z w : Nat) : Int), st)) = some z := h
        cases e3 : tVs is with
        | none => rw [e3] at h; cases h
        | some vs =>
          rw [e3] at h
          cases h
          obtain ⟨u, rfl, r3⟩ := rel1 r2
          obtain ⟨a, ws, rfl, sq, rr⟩ := lsq_rel R e2 r1
          obtain ⟨rfl, f1⟩ := tV_rel e1 r3
          obtain ⟨rfl, f2⟩ := tVs_rel e3 rr
          exact mt_countV pins s σ H _ _ v us Q I rx rs ⟨a, _, _, rfl, rfl, sq, f1, f2, q W H _ .refl R rfl⟩
  · cases h
def strsOf : List D → Option (List Str)
  | [] => some []
  | .t (.str i) :: r => (strsOf r).map (i :: ·)
  | _ => none
theorem strsOf_rel {K : PySem.W.Frag} {W : Wd} {H : Hp} : ∀ {ds : List D} {ns : List Str} {vs : List V}, strsOf ds = some ns → RelDs K W H ds vs → vs = ns.map V.str
  | [], ns, vs, h, r => by cases h; exact r
  | d :: ds, ns, vs, h, r => by
    obtain ⟨v, u, rfl, r1, r2⟩ := r
    unfold strsOf at h
    split at h
    · rename_i heq; cases heq
    · rename_i i r' heq
      cases heq
      cases e : strsOf ds with
      | none => (rw [e] at h; cases h)
      | some ms =>
        rw [e] at h
        cases h
        cases r1
        rw [strsOf_rel e r2]; rfl
    · cases h
def joinG (d : D) (ds : List D) (st : Sto) : Option (D × Sto) := match d, ds with
  | .t (.str a), [y] => (items st y).bind fun is => (strsOf is).bind fun ys => if (ys.map (·.length)).sum + ys.length * a.length ≤ LIM then some (sD (Txt.join a ys), st) else none
  | _, _ => none
theorem m_join : MtR X "str.join" (rMt X.K joinG) := by
  intro pins s σ H x xs v us Q I rx rs ⟨W, st, d, ds, R, r1, r2, z, h, q⟩
  unfold joinG at h
  split at h
  · rename_i a y
    cases e1 : items st y with
    | none => rw [e1] at h; cases h
    | some is =>
      rw [e1] at h
      have h : ((strsOf is).bind fun ys => if (ys.map (·.length)).sum + ys.length * a.length ≤ LIM then some (sD (Txt.join a ys), st) else none) = some z := h
      cases e2 : strsOf is with
      | none => rw [e2] at h; cases h
      | some ys =>
        rw [e2] at h
        have h : (if (ys.map (·.length)).sum + ys.length * a.length ≤ LIM then some (sD (Txt.join a ys), st) else none) = some z := h
        split at h
        · rename_i c
          cases h
          obtain ⟨u, rfl, r3⟩ := rel1 r2
          cases r1
          obtain ⟨p, ws, rfl, sq, rr⟩ := items_seq R e1 r3
          have e3 := strsOf_rel e2 rr
          subst e3
          exact mt_join pins s σ H _ _ v us Q I rx rs ⟨a, p, ys, rfl, rfl, sq, Nat.le_trans c (by decide), q W H _ .refl R rfl⟩
        · cases h
  · cases h
end

/-! ### what the module has written -/
mutual
/-- the module's value says this -/
def repV (K : PySem.W.Frag) : Value → T → Bool
  | .none, .non => true
  | .bool b, .bl c => b == c
  | .int i _, .int j => i == j
  | .str x _, .str y => x == y
  | .type n, .ty m => n == m
  | .ref a, .glb b => a == b
  | .ref a, .tup ts => match K.lookup a with
    | some ⟨.type "tuple", _, .seq its _, _⟩ => decide (its.size ≤ sizeLine) && repVs K its.toList ts
    | _ => false
  | .ref a, .scr ts => match K.lookup a with
    | some ⟨.type "list", none, .seq its _, _⟩ => decide (its.size ≤ sizeLine) && repVs K its.toList ts
    | _ => false
  | _, _ => false
def repVs (K : PySem.W.Frag) : List Value → List T → Bool
  | [], [] => true
  | u :: us, t :: ts => repV K u t && repVs K us ts
  | _, _ => false
end
mutual
theorem repV_ok {K : PySem.W.Frag} : ∀ {u : Value} {t : T}, repV K u t = true → ∃ v, RelV v u ∧ ∀ F H, RelT K F H t v
  | u, .non, h => by cases u <;> first | exact ⟨.non, rfl, fun _ _ => rfl⟩ | (unfold repV at h; cases h)
  | u, .bl c, h => by
    cases u <;> first | (unfold repV at h; cases h; done) | skip
    rename_i b
    unfold repV at h
    have e : b = c := beq_iff_eq.mp h
    subst e
    exact ⟨.bl b, rfl, fun _ _ => rfl⟩
  | u, .int c, h => by
    cases u <;> first | (unfold repV at h; cases h; done) | skip
    rename_i b t
    unfold repV at h
    have e : b = c := beq_iff_eq.mp h
    subst e
    exact ⟨.int b, ⟨t, rfl⟩, fun _ _ => rfl⟩
  | u, .str c, h => by
    cases u <;> first | (unfold repV at h; cases h; done) | skip
    rename_i b t
    unfold repV at h
    have e : b = c := beq_iff_eq.mp h
    subst e
    exact ⟨.str b, ⟨t, rfl⟩, fun _ _ => rfl⟩
  | u, .ty c, h => by
    cases u <;> first | (unfold repV at h; cases h; done) | skip
    rename_i b
    unfold repV at h
    have e : b = c := beq_iff_eq.mp h
    subst e
    exact ⟨.ty b, rfl, fun _ _ => rfl⟩
  | u, .glb c, h => by
    cases u <;> first | (unfold repV at h; cases h; done) | skip
    rename_i b
    unfold repV at h
    have e : b = c := beq_iff_eq.mp h
    subst e
    exact ⟨.ref b, rfl, fun _ _ => rfl⟩
  | u, .lst c, h => by cases u <;> (unfold repV at h; cases h)
  | u, .tup ts, h => by
    cases u <;> first | (unfold repV at h; cases h; done) | skip
    rename_i a
    unfold repV at h
    split at h
    · rename_i dd its n sl hk
      rw [Bool.and_eq_true] at h
      obtain ⟨vs, h1, h2⟩ := repVs_ok h.2
      exact ⟨.ref a, rfl, fun F H => ⟨a, vs, rfl, .inr ⟨_, its, n, hk, rfl, rfl, of_decide_eq_true h.1, h1⟩, h2 F H⟩⟩
    · cases h
  | u, .scr ts, h => by
    cases u <;> first | (unfold repV at h; cases h; done) | skip
    rename_i a
    unfold repV at h
    split at h
    · rename_i its n sl hk
      rw [Bool.and_eq_true] at h
      obtain ⟨vs, h1, h2⟩ := repVs_ok h.2
      exact ⟨.ref a, rfl, fun F H => ⟨a, vs, rfl, .inr ⟨_, its, n, hk, rfl, rfl, rfl, of_decide_eq_true h.1, h1⟩, h2 F H⟩⟩
    · cases h
theorem repVs_ok {K : PySem.W.Frag} : ∀ {us : List Value} {ts : List T}, repVs K us ts = true → ∃ vs, Vals vs us ∧ ∀ F H, RelTs K F H ts vs
  | [], [], _ => ⟨[], .nil, fun _ _ => rfl⟩
  | u :: us, t :: ts, h => by
    unfold repVs at h
    rw [Bool.and_eq_true] at h
    obtain ⟨v, h1, h2⟩ := repV_ok h.1
    obtain ⟨vs, h3, h4⟩ := repVs_ok h.2
    exact ⟨v :: vs, .cons h1 h3, fun F H => ⟨v, vs, rfl, h2 F H, h4 F H⟩⟩
  | [], _ :: _, h => by unfold repVs at h; cases h
  | _ :: _, [], h => by unfold repVs at h; cases h
end
/-- a constant of the module -/
def Con (K : PySem.W.Frag) (mg : Str → Option Value) (x : Str) (t : T) : Prop := ∃ u v, mg x = some u ∧ RelV v u ∧ ∀ F H, RelT K F H t v
theorem con_of {K : PySem.W.Frag} {mg : Str → Option Value} {x : Str} {u : Value} {t : T} (hm : mg x = some u) (h : repV K u t = true) : Con K mg x t := by
  obtain ⟨v, h1, h2⟩ := repV_ok h
  exact ⟨u, v, hm, h1, h2⟩
/-- a table of the module: text keys -/
def tabEs (K : PySem.W.Frag) : List DictEntry → List (Str × T) → Bool
  | [], [] => true
  | e :: es, (x, t) :: r => (match e.key with | .str y _ => y == x | _ => false) && !e.refKey && repV K e.val t && tabEs K es r
  | _, _ => false
theorem tabEs_find {K : PySem.W.Frag} : ∀ {es : List DictEntry} {tb : List (Str × T)}, tabEs K es tb = true → (es.any (·.refKey) = false) ∧ ∀ z, match tb.lookup z with
    | some t => ∃ e, es.find? (·.key.isStr z) = some e ∧ repV K e.val t = true
    | none => es.find? (·.key.isStr z) = none
  | [], [], _ => ⟨rfl, fun _ => rfl⟩
  | e :: es, (x, t) :: r, h => by
    unfold tabEs at h
    rw [Bool.and_eq_true, Bool.and_eq_true, Bool.and_eq_true] at h
    (obtain ⟨⟨⟨h1, h2⟩, h3⟩, h4⟩ := h)
    obtain ⟨i1, i2⟩ := tabEs_find h4
    refine ⟨by rw [List.any_cons, i1]; cases q : e.refKey <;> simp [q] at h2 ⊢, fun z => ?_⟩
    split at h1
    · rename_i y tk hk
      have e1 : y = x := beq_iff_eq.mp h1
      subst e1
      have ks : e.key.isStr z = (y == z) := by rw [hk]; rfl
      by_cases hz : z = y
      · subst hz
        have l : List.lookup z ((z, t) :: r) = some t := by simp [List.lookup]
        rw [l]
        exact ⟨e, by rw [List.find?_cons, ks]; simp, h3⟩
      · have hb : (z == y) = false := by simpa using hz
        have hb2 : (y == z) = false := by simpa using fun q => hz (Eq.symm q)
        have l : List.lookup z ((y, t) :: r) = List.lookup z r := by simp [List.lookup, hb]
        rw [l]
        have q := i2 z
        rw [List.find?_cons, ks, hb2]
        exact q
    · cases h1
  | [], _ :: _, h => by unfold tabEs at h; cases h
  | _ :: _, [], h => by unfold tabEs at h; cases h
structure Tab (K : PySem.W.Frag) (w : World) (mg : Str → Option Value) (x : Str) (tb : List (Str × T)) : Prop where
  ex : ∃ d es n, mg x = some (.ref d) ∧ KDict K w d es n ∧ tabEs K es.toList tb = true
section
variable {X : Cx} {Wx : WX} {a b e : Expr} {fa : Env → Sto → Res D} {x : Str} {p pos : Pos} {tb : List (Str × T)}
theorem tab_ns {K : PySem.W.Frag} {w : World} {d : Addr} {es : Array DictEntry} {n : Nat} (D : KDict K w d es n) (h : tabEs K es.toList tb = true) (z : Str) : ∃ r, PySem.W.nsIn K d z = some r ∧ match tb.lookup z with
    | some t => ∃ u, r = some u ∧ repV K u t = true
    | none => r = none := by
  obtain ⟨h1, h2⟩ := tabEs_find h
  have h3 := h2 z
  unfold PySem.W.nsIn
  rw [D.at_]
  simp only
  cases q : tb.lookup z with
  | none =>
    rw [q] at h3
    simp only at h3
    rw [h3]
    simp only [h1]
    exact ⟨none, rfl, rfl⟩
  | some t =>
    rw [q] at h3
    obtain ⟨en, e1, e2⟩ := h3
    rw [e1]
    exact ⟨some en.val, rfl, en.val, rfl, e2⟩
/-- k in TABLE, k not in TABLE, TABLE[k] -/
def tabIn (tb : List (Str × T)) (fa : Env → Sto → Res D) (env : Env) (st : Sto) : Res D := (fa env st).bind fun d st1 => match d with
  | .t (.str z) => .ok (bD (tb.lookup z).isSome) st1
  | _ => .bad
def tabNotIn (tb : List (Str × T)) (fa : Env → Sto → Res D) (env : Env) (st : Sto) : Res D := (fa env st).bind fun d st1 => match d with
  | .t (.str z) => .ok (bD (!(tb.lookup z).isSome)) st1
  | _ => .bad
def tabIx (tb : List (Str × T)) (fa : Env → Sto → Res D) (env : Env) (st : Sto) : Res D := (fa env st).bind fun d st1 => match d with
  | .t (.str z) => optR ((tb.lookup z).map .t) st1
  | _ => .bad
theorem re_tabIn (Tb : Tab X.K X.w X.mg x tb) (hg : Gl X x) (ha : RE X Wx a fa) (hd : (x == ("__debug__" : Str)) = false := by decide) (hm : behindInMarks .In (.Name x p) = false := by rfl) : RE X Wx (.Compare a [.In] [.Name x p] pos) (tabIn tb fa) := by
  obtain ⟨d, es, n, hmg, D, ht⟩ := Tb.ex
  refine PE.conv (pe_cmpR (op_in_kd D) ha (pe_glob (v := .ref d) hg hmg rfl hd) hm) fun σ H Q ⟨W, env, st, R, Ev, h⟩ => ⟨W, env, st, R, Ev, split h (fun d0 st1 h1 W1 H1 v E1 R1 r1 => ?_) fun C fs st' hx => hx⟩
  split at h1
  · rename_i z
    cases r1
    obtain ⟨r, e1, e2⟩ := tab_ns D ht z
    refine ⟨z, r, rfl, rfl, e1, ?_⟩
    have er : r.isSome = (tb.lookup z).isSome := by
      cases q : tb.lookup z with
      | none => rw [q] at e2; simp only at e2; rw [e2]; rfl
      | some t => rw [q] at e2; obtain ⟨u, e3, _⟩ := e2; rw [e3]; rfl
    rw [er]
    exact h1 W1 H1 _ E1 R1 rfl
  · exact h1.elim
theorem re_tabNotIn (Tb : Tab X.K X.w X.mg x tb) (hg : Gl X x) (ha : RE X Wx a fa) (hd : (x == ("__debug__" : Str)) = false := by decide) (hm : behindInMarks .NotIn (.Name x p) = false := by rfl) : RE X Wx (.Compare a [.NotIn] [.Name x p] pos) (tabNotIn tb fa) := by
  obtain ⟨d, es, n, hmg, D, ht⟩ := Tb.ex
  refine PE.conv (pe_cmpR (op_notIn_kd D) ha (pe_glob (v := .ref d) hg hmg rfl hd) hm) fun σ H Q ⟨W, env, st, R, Ev, h⟩ => ⟨W, env, st, R, Ev, split h (fun d0 st1 h1 W1 H1 v E1 R1 r1 => ?_) fun C fs st' hx => hx⟩
  split at h1
  · rename_i z
    cases r1
    obtain ⟨r, e1, e2⟩ := tab_ns D ht z
    refine ⟨z, r, rfl, rfl, e1, ?_⟩
    have er : r.isSome = (tb.lookup z).isSome := by
      cases q : tb.lookup z with
      | none => rw [q] at e2; simp only at e2; rw [e2]; rfl
      | some t => rw [q] at e2; obtain ⟨u, e3, _⟩ := e2; rw [e3]; rfl
    rw [er]
    exact h1 W1 H1 _ E1 R1 rfl
  · exact h1.elim
/-- TABLE[k]: the subscript of a dict of the module -/
theorem ix_kd {d : Addr} {es : Array DictEntry} {n : Nat} (D : KDict X.K X.w d es n) : IxR X (fun x y H Q => ∃ (z : Str) (u0 : Value) (v0 : V), x = .ref d ∧ y = .str z ∧ PySem.W.nsIn X.K d z = some (some u0) ∧ RelV v0 u0 ∧ Q v0 H) := by
  (intro value slice pins s σ H x y v u Q I rx ry h hs)
  obtain ⟨z, u0, v0, e1, e2, e3, r, q⟩ := h
  subst e1; subst e2
  have ty := kd_type (H := H) (σ := σ) (pins := pins) (s := s) D I
  cases rx
  obtain ⟨t, rfl⟩ := ry
  have run : wpAny (model X.prog X.w) X.A (getItem (.ref d) (.str z t)) (fun r s' => r = u0 ∧ EP X pins σ Q r s') X.xe s :=
    wpAny_getItem_of (PySem.strKind_is X.prog X.w z t) (PySem.W.mapOf_K I.kIn D.at_ D.lit) (PySem.W.find_K D.at_ e3) ⟨rfl, v0, H, I.tok _, r, q⟩
  exact subscriptTail_builtinR (x := u0) ty PySem.F.slot_dict_getitem.lookup run hs
theorem re_tabIx (Tb : Tab X.K X.w X.mg x tb) (hg : Gl X x) (ha : RE X Wx a fa) (hd : (x == ("__debug__" : Str)) = false := by decide) (hs : PlainIx a := by exact fun _ _ => rfl) : RE X Wx (.Subscript (.Name x p) a pos) (tabIx tb fa) := by
  obtain ⟨d, es, n, hmg, D, ht⟩ := Tb.ex
  refine PE.conv (pe_ix (ix_kd D) (pe_glob (v := .ref d) hg hmg rfl hd) ha hs) fun σ H Q ⟨W, env, st, R, Ev, h⟩ => ⟨W, env, st, R, Ev, split h (fun d0 st1 h1 W1 H1 v E1 R1 r1 => ?_) fun C fs st' hx => hx⟩
  split at h1
  · rename_i z
    cases r1
    obtain ⟨w', e1, q⟩ := optR_holds h1
    obtain ⟨r, e2, e3⟩ := tab_ns D ht z
    cases e4 : tb.lookup z with
    | none => rw [e4] at e1; cases e1
    | some t =>
      rw [e4] at e1 e3
      cases e1
      obtain ⟨u0, rfl, e5⟩ := e3
      obtain ⟨v0, h2, h3⟩ := repV_ok e5
      exact ⟨z, u0, v0, rfl, rfl, e2, h2, q W1 H1 v0 E1 R1 (h3 _ _)⟩
  · exact h1.elim
end
end Mi
/-! Mir8 -/
namespace Mi
open PySem PySem.Spec PyProof.Rows L2 RZ
/-! ### the law's own call -/
def script (ns : List Int) : D := .t (.scr (ns.map .int))
theorem relTs_ints {K : PySem.W.Frag} {F : Addr → Prop} {H : Hp} : ∀ ns : List Int, RelTs K F H (ns.map .int) (ns.map V.int)
  | [] => rfl
  | n :: ns => ⟨.int n, _, rfl, rfl, relTs_ints ns⟩
theorem sp_script {K : PySem.W.Frag} {F : List D → Sto → Res D} {ns : List Int} {a : Addr} {H : Hp} (hs : LkAt K H a (ns.map V.int)) (h : ∃ st, F [script ns] [] = .ok (.t (.bl true)) st) : spG K 1 F [.ref a] H (fun v _ => v = .bl true) fun _ _ _ => False := by
  obtain ⟨st, e⟩ := h
  refine ⟨⟨[], fun _ => False⟩, [], [script ns], ⟨rfl, List.nodup_nil, fun n a o h _ => by simp at h, fun a h => absurd h (by simp), fun a h => h.elim⟩, ⟨_, [], rfl, ⟨a, _, rfl, hs, relTs_ints ns⟩, rfl⟩, rfl, ?_⟩
  rw [e]
  exact fun W' H' v _ _ r => r
/-- the law's def, called with the script, gives True and leaves what stood -/
theorem law_run {P : Program} {w : World} {K : PySem.W.Frag} {mg mb : Str → Option Value} {k : Nat} {fa a : Addr} {fd : FuncData} {x : Str} {F : List D → Sto → Res D} {s : Shared} {vs : List Value} {ns : List Int}
    (KX : K.In s.heap) (hns : s.heap.Ns mainGlobals mg) (hb : s.heap.Ns builtinsNs mb) (hbb : ∀ x : Str, x ≠ "__name__" → mb x = bootBuiltins x) (hlim : s.heap.NoLimit) (hg : s.gens = #[])
    (ha : s.heap.get? a = some { cls := .type "list", data := .seq vs.toArray }) (hi : IntsAre vs ns) (hl : ns.length ≤ sizeLine) (room : Room k callerA)
    (G : ∀ base : Heap, K.In base → base.Ns mainGlobals mg → FnG P w K mg base k fa fd [x] (spG K 1 F)) (bnd : ∀ (s : Shared) (u : Value), BindsTo s fd ⟨[u], []⟩ [(x, u)])
    (hF : ∃ st, F [script ns] [] = .ok (.t (.bl true)) st) :
    codeAny (model P w) callerA (.call (.ref fa) ⟨[.ref a], []⟩) (fun r s' => r = .ok (.ret (.bool true)) ∧ OldK s.heap s'.heap ∧ s'.os = s.os ∧ AllBare s'.gens) s := by
  have rv : Vals (ns.map V.int) vs := vals_ints hi
  have many : vs.length = ns.length := hi.length
  -- H: nothing is tracked but, where it is no object of the module, the script
  have main : ∀ H : Hp, (∀ b, b ≠ a → H b = none) → (H a = none ∨ (K.lookup a = none ∧ ∃ o, H a = some (.frz o (.lst (ns.map V.int))))) → LkAt K H a (ns.map V.int) → HOk P w H s.heap →
      codeAny (model P w) callerA (.call (.ref fa) ⟨[.ref a], []⟩) (fun r s' => r = .ok (.ret (.bool true)) ∧ OldK s.heap s'.heap ∧ s'.os = s.os ∧ AllBare s'.gens) s := by
    intro H hO hA hS hok
    have free : ∀ {b : Addr} {o : Obj}, s.heap.get? b = some o → (∃ es ep, o.data = .dict es ep) → H b = none := by
      rintro b o e ⟨es, ep, d⟩
      by_cases hba : b = a
      · rw [hba] at e
        rw [ha] at e
        cases e
        cases d
      · exact hO b hba
    have ns_of : ∀ {b : Addr} {m : Str → Option Value}, s.heap.Ns b m → (hidT s.heap H).Ns b m := by
      rintro b m ⟨o, es, ep, e, d, r⟩
      exact ⟨o, es, ep, hidT_get e (free e ⟨es, ep, d⟩), d, r⟩
    have kin : K.In (hidT s.heap H) := by
      intro b o e
      refine hidT_get (KX b o e) ?_
      by_cases hba : b = a
      · subst hba
        rcases hA with h | ⟨h, _⟩
        · exact h
        · rw [h] at e; cases e
      · exact hO b hba
    obtain ⟨mc, l1, l2⟩ := hlim
    have md : Mod K mg (hidT s.heap H) := ⟨kin, ns_of hns, ⟨mb, ns_of hb, hbb⟩, mc, ns_of l1, l2⟩
    have e0 : Env0 P w K mg (hidT s.heap H) callerA [] s H := ⟨rfl, md, fun b o e => of_hidT e, Nat.le_of_eq (hidT_size _ _), trivial, fun b hb => absurd hb (by intro z; cases z), hok, .of_eq hg⟩
    have run := (G _ kin (ns_of hns)).go callerA [] s H ⟨[.ref a], []⟩ [.ref a] [.ref a] (fun v _ => v = .bl true) (fun _ _ _ => False) room rfl e0 (bnd s (.ref a)) (.cons rfl .nil) (sp_script hS hF)
    refine codeAny_mono run ?_
    intro r s' h
    cases r with
    | error e =>
      have h : L2.CX P w [] H s (fun _ _ _ => False) e s' := h
      (obtain ⟨_, _, _, _, _, _, _, _, _, _, _, _, z⟩ := h)
      exact z.elim
    | ok fl =>
      cases fl with
      | next => exact h.elim
      | brk => exact h.elim
      | cont => exact h.elim
      | ret u =>
        (obtain ⟨v, H', os, bare, un, hok', r', q⟩ := h)
        subst q
        cases r'
        refine ⟨rfl, OldK.of_keep ?_, os, bare⟩
        intro b o e
        cases q : H b with
        | none => exact un.keep b o e q (by intro z; cases z) (by simp)
        | some y =>
          have hba : b = a := Classical.byContradiction fun n => by rw [hO b n] at q; cases q
          subst hba
          rcases hA with h | ⟨_, ob, h⟩
          · rw [h] at q; cases q
          · have h2 := un.frzs b ob _ h
            have e1 := (hok b _ h).1
            have e2 := (hok' b _ h2).1
            rw [e] at e1; cases e1
            exact e2
  cases hk : K.lookup a with
  | some o =>
    have e := KX a o hk
    rw [ha] at e
    cases e
    refine main (fun _ => none) (fun _ _ => rfl) (.inl rfl) (.inr ⟨_, vs.toArray, _, hk, rfl, rfl, rfl, by rw [List.size_toArray, many]; exact hl, by simpa using rv⟩) ?_
    intro b y z
    cases z
  | none =>
    have at_a : (fun b => if b = a then some (HO.frz { cls := .type "list", data := .seq vs.toArray } (.lst (ns.map V.int))) else none) a = some (HO.frz { cls := .type "list", data := .seq vs.toArray } (.lst (ns.map V.int))) := if_pos rfl
    refine main _ (fun b h => if_neg h) (.inr ⟨hk, _, at_a⟩) (.inl ⟨_, at_a⟩) ?_
    intro b y z
    by_cases hba : b = a
    · have z := (if_pos hba).symm.trans z
      cases z
      subst hba
      (exact ⟨ha, by rw [List.length_map]; exact hl, vs, _, rv, ha⟩)
    · have z := (if_neg hba).symm.trans z
      cases z
/-- the goal that k_head leaves -/
theorem law_end {l : PySem.W.OpenLaw} {n k : Nat} {q : Program} {loose : List Str} {XP : (Str → Option Value) → Heap → Prop} {YP : World → Heap → Prop} {d : DefRec} {K : Params → PySem.W.Frag} {x : Str} {F : World → List D → Sto → Res D}
    (hn : l.most = some n) (hn2 : n ≤ sizeLine) (hdf : d.params.defaults = []) (room : Room k callerA) (hY : ∀ (w : World) (h : Heap), YP w h → (K w.params).In h)
    (G : ∀ (w : World) (mg : Str → Option Value) (fa : Addr) (h : Heap), (K w.params).In h → h.Ns mainGlobals mg → mg d.name = some (.ref fa) →
      ∃ fd : FuncData, (∀ (s : Shared) (u : Value), BindsTo s fd ⟨[u], []⟩ [(x, u)]) ∧ ∀ base : Heap, (K w.params).In base → base.Ns mainGlobals mg → FnG l.prog w (K w.params) mg base k fa fd [x] (spG (K w.params) 1 (F w)))
    (hF : ∀ (w : World) (ns : List Int), ns.length ≤ n → ∃ st, F w [script ns] [] = .ok (.t (.bl true)) st) : PySem.W.WalkO q loose XP YP l.row.toRowW d [] (fun f vs => PySem.call f vs) := by
  refine Att.attach_call hn hdf ?_
  intro w s₀ s₁ mg mb fa o pm cd doc a vs ns Gr Y ho hd hcd hmg hobj hints hlen hg
  have KX := hY w _ Y
  obtain ⟨fd, bnd, g⟩ := G w mg fa _ KX Gr.T.g hmg
  exact law_run KX Gr.T.g Gr.T.b Gr.T.builtins Gr.T.nolimit hg hobj hints (Nat.le_trans hlen hn2) room g bnd (hF w ns hlen)

/-! ### zip of two lists, of two tuples -/
def zitems (st : Sto) (d e : D) : Option (List D × List D) := match d, e with
  | .t (.tup ts), .t (.tup us) => some (ts.map .t, us.map .t)
  | d, e => (lsq st d).bind fun a => (lsq st e).map fun b => (a, b)
def zipAt (a b : List D) (i : Nat) : Option (Option D) := match a[i]?, b[i]? with
  | some (.t x), some (.t y) => some (some (.t (.tup [x, y])))
  | some _, some _ => none
  | _, _ => some none
def zipIt (d e : D) (n : Nat) : ItM := ⟨fun st i => (zitems st d e).bind fun p => zipAt p.1 p.2 i, n⟩
theorem zipAt_none {a b : List D} {i : Nat} (h : zipAt a b i = some none) : a.length ≤ i ∨ b.length ≤ i := by
  unfold zipAt at h
  split at h
  · cases h
  · cases h
  · rename_i hno1 hno2
    cases ea : a[i]? with
    | none => exact .inl (List.getElem?_eq_none_iff.mp ea)
    | some x =>
      cases eb : b[i]? with
      | none => exact .inr (List.getElem?_eq_none_iff.mp eb)
      | some y => exact absurd eb (hno2 x y ea)
theorem zipAt_some {a b : List D} {i : Nat} {d : D} (h : zipAt a b i = some (some d)) : ∃ x y, a[i]? = some (.t x) ∧ b[i]? = some (.t y) ∧ d = .t (.tup [x, y]) := by
  unfold zipAt at h
  split at h
  · rename_i x y e1 e2
    cases h
    exact ⟨x, y, e1, e2, rfl⟩
  · cases h
  · cases h
theorem JOk.zipL {K : PySem.W.Frag} {W : Wd} {H : Hp} {st : Sto} {d e : D} {a b : Addr} {n : Nat} {as bs : List D} (R : Rl K W st H) (r1 : RelD K W H d (.ref a)) (r2 : RelD K W H e (.ref b)) (h1 : lsq st d = some as) (h2 : lsq st e = some bs) :
    JOk K (Itz K a b) (zipIt d e n) W H := by
  intro W' H' st' i E' R'
  have nt : ∀ ts, d ≠ .t (.tup ts) := fun ts z => by rw [z] at h1; cases h1
  have get : ∀ o, (zipIt d e n).nth st' i = some o → ∃ as bs vs ws, zipAt as bs i = some o ∧ SqL K H' a vs ∧ SqL K H' b ws ∧ RelDs K W' H' as vs ∧ RelDs K W' H' bs ws := fun o h => by
    have h : (zitems st' d e).bind (fun p => zipAt p.1 p.2 i) = some o := h
    have z : zitems st' d e = (lsq st' d).bind fun a => (lsq st' e).map fun b => (a, b) := by
      unfold zitems
      split
      · rename_i ts us; exact absurd rfl (nt _)
      · rfl
    rw [z] at h
    cases q1 : lsq st' d with
    | none => rw [q1] at h; cases h
    | some xs =>
      cases q2 : lsq st' e with
      | none => rw [q1, q2] at h; cases h
      | some ys =>
        rw [q1, q2] at h
        obtain ⟨a', vs, e1, s1, rr1⟩ := lsq_rel R' q1 (E'.relD R r1)
        obtain ⟨b', ws, e2, s2, rr2⟩ := lsq_rel R' q2 (E'.relD R r2)
        cases e1; cases e2
        exact ⟨xs, ys, vs, ws, h, s1, s2, rr1, rr2⟩
  refine ⟨fun h => ?_, fun dd h => ?_⟩
  · obtain ⟨as, bs, vs, ws, h, s1, s2, rr1, rr2⟩ := get _ h
    exact ⟨vs, ws, s1, s2, by rw [relDs_len rr1, relDs_len rr2]; exact zipAt_none h⟩
  · obtain ⟨as, bs, vs, ws, h, s1, s2, rr1, rr2⟩ := get _ h
    obtain ⟨x, y, q1, q2, rfl⟩ := zipAt_some h
    obtain ⟨v, e3, rv⟩ := relDs_get rr1 q1
    obtain ⟨w, e4, rw'⟩ := relDs_get rr2 q2
    refine ⟨⟨vs, ws, v, w, s1, s2, e3, e4⟩, fun z H2 hy => ?_⟩
    obtain ⟨p, v', w', rfl, hp, rfl, k1, k2⟩ := hy
    have e5 : v = v' := Option.some.inj (e3.symm.trans (k1 vs s1))
    have e6 : w = w' := Option.some.inj (e4.symm.trans (k2 ws s2))
    subst e5; subst e6
    have E2 : Ext W' H' W' (upd H' p (.tup [v, w])) := R'.more hp
    exact ⟨W', E2, R'.rest hp, p, [v, w], rfl, Or.inl upd_same, v, [w], rfl, E2.relT R' _ _ rv, w, [], rfl, E2.relT R' _ _ rw', rfl⟩
theorem JOk.zipT {K : PySem.W.Frag} {W : Wd} {H : Hp} {st : Sto} {ts us : List T} {a b : Addr} {n : Nat} (R : Rl K W st H) (r1 : RelD K W H (.t (.tup ts)) (.ref a)) (r2 : RelD K W H (.t (.tup us)) (.ref b)) :
    JOk K (ItzT K a b) (zipIt (.t (.tup ts)) (.t (.tup us)) n) W H := by
  intro W' H' st' i E' R'
  obtain ⟨a2, vs, z1, q1, rr1⟩ := E'.relD R r1
  obtain ⟨b2, ws, z2, q2, rr2⟩ := E'.relD R r2
  cases z1; cases z2
  have rd1 := relDs_t (K := K) (W := W') rr1
  have rd2 := relDs_t (K := K) (W := W') rr2
  refine ⟨fun h => ?_, fun dd h => ?_⟩
  · have h : zipAt (ts.map .t) (us.map .t) i = some none := h
    exact ⟨vs, ws, q1.sq, q2.sq, by rw [relDs_len rd1, relDs_len rd2]; exact zipAt_none h⟩
  · have h : zipAt (ts.map .t) (us.map .t) i = some (some dd) := h
    obtain ⟨x, y, c1, c2, rfl⟩ := zipAt_some h
    obtain ⟨v, e3, rv⟩ := relDs_get rd1 c1
    obtain ⟨w, e4, rw'⟩ := relDs_get rd2 c2
    refine ⟨⟨vs, ws, v, w, q1.sq, q2.sq, e3, e4⟩, fun z H2 hy => ?_⟩
    obtain ⟨p, v', w', rfl, hp, rfl, k1, k2⟩ := hy
    have e5 : v = v' := Option.some.inj (e3.symm.trans (k1 vs q1.sq))
    have e6 : w = w' := Option.some.inj (e4.symm.trans (k2 ws q2.sq))
    subst e5; subst e6
    have E2 : Ext W' H' W' (upd H' p (.tup [v, w])) := R'.more hp
    exact ⟨W', E2, R'.rest hp, p, [v, w], rfl, Or.inl upd_same, v, [w], rfl, E2.relT R' _ _ rv, w, [], rfl, E2.relT R' _ _ rw', rfl⟩
def zipOf (fs : List (Env → Sto → Res D)) (env : Env) (st : Sto) : Res ItM := (argsM fs env st).bind fun ds s => match ds with
  | [d, e] => optR ((zitems s d e).map fun p => zipIt d e p.1.length) s
  | _ => .bad
section
variable {X : Cx} {Wx : WX} {a b : Expr} {pos p tpos : Pos}
theorem ri_zip {elts : List Expr} {kk : Nat} {fs : List (Env → Sto → Res D)} (hg : Gl X "zip") (hm : X.mg "zip" = none) (ha : RA X Wx [a, b] (argsM fs))
    (hs : starEach [a, b] X.env = (false, eval a X.env) :: starEach [b] X.env := by rfl) (hpl : (backTo pos (starEach [b] X.env)).any (·.1) = false := by rfl) : RI X Wx (.Tuple elts kk tpos) (.Call (.Name "zip" p) [a, b] [] pos) (zipOf fs) := by
  refine PI.conv (pi_zipA hg hm ha hs hpl) fun σ H Q ⟨W, env, st, R, Ev, h⟩ => ⟨W, env, st, R, Ev, split h (fun ds s h1 W1 H1 vs E1 R1 r1 => ?_) fun C fs st' hx => hx⟩
  split at h1
  · rename_i d e
    obtain ⟨it, e1, q⟩ := optR_holds h1
    obtain ⟨v, w, rfl, rd, re⟩ := rel2 r1
    cases q2 : zitems s d e with
    | none => rw [q2] at e1; cases e1
    | some pr =>
      rw [q2] at e1
      cases e1
      unfold zitems at q2
      split at q2
      · rename_i ts us
        obtain ⟨a1, vs1, rfl, s1, rr1⟩ := id rd
        obtain ⟨b1, vs2, rfl, s2, rr2⟩ := id re
        exact ⟨a1, b1, vs1, vs2, rfl, .inr ⟨s1.sq, s2.sq, q W1 H1 _ E1 R1 (.zipT R1 rd re)⟩⟩
      · cases z1 : lsq s d with
        | none => rw [z1] at q2; cases q2
        | some xs =>
          cases z2 : lsq s e with
          | none => rw [z1, z2] at q2; cases q2
          | some ys =>
            obtain ⟨a1, vs1, rfl, s1, rr1⟩ := lsq_rel R1 z1 rd
            obtain ⟨b1, vs2, rfl, s2, rr2⟩ := lsq_rel R1 z2 re
            exact ⟨a1, b1, vs1, vs2, rfl, .inl ⟨s1, s2, q W1 H1 _ E1 R1 (.zipL R1 rd re z1 z2)⟩⟩
  · exact h1.elim
end
end Mi
/-! Mir9 -/
namespace Mi
open PySem PySem.Spec PyProof.Rows L2 RZ
section
variable {X : Cx} {Wx : WX} {a b e l tg : Expr} {f fa fb : Env → Sto → Res D} {pos : Pos} {x : Str}
/-- a constant of the module, by name -/
theorem re_con {t : T} (C : Con X.K X.mg x t) (hg : Gl X x) (hd : (x == ("__debug__" : Str)) = false := by decide) : RE X Wx (.Name x pos) (eC t) := by
  obtain ⟨u, v, h1, h2, h3⟩ := C
  exact re_glob hg h1 h2 h3 hd
/-- + of lists where the sum is changed later -/
def addN (d e : D) (st : Sto) : Option (D × Sto) := (litems st d).bind fun ds => (litems st e).bind fun es => if ds.length + es.length ≤ LIM then some (.r st.length, st ++ [.lst (ds ++ es)]) else none
def binN (g : D → D → Sto → Option (D × Sto)) (fa fb : Env → Sto → Res D) (env : Env) (st : Sto) : Res D := (fa env st).bind fun x st1 => (fb env st1).bind fun y st2 => optS (g x y st2)
theorem re_addN (ha : RE X Wx a fa) (hb : RE X Wx b fb) : RE X Wx (.BinOp a .Add b pos) (binN addN fa fb) := by
  refine PE.conv (pe_op op_cat ha hb) fun σ H Q ⟨W, env, st, R, Ev, h⟩ => ?_
  refine ⟨W, env, st, R, Ev, split h (fun d1 st1 h1 W1 H1 v E1 R1 r1 => ⟨W1, env, st1, R1, Ev.mono E1 R, split h1 (fun d2 st2 h2 W2 H2 w E2 R2 r2 => ?_) fun C fs st' hx => hx.mono E1⟩) fun C fs st' hx => hx⟩
  obtain ⟨z, e0, q⟩ := optS_holds h2
  unfold addN at e0
  cases e1 : litems st2 d1 with
  | none => rw [e1] at e0; cases e0
  | some ds =>
    cases e2 : litems st2 d2 with
    | none => rw [e1, e2] at e0; cases e0
    | some es =>
      rw [e1, e2] at e0
      have e0 : (if ds.length + es.length ≤ LIM then some (D.r st2.length, st2 ++ [SO.lst (ds ++ es)]) else none) = some z := e0
      split at e0
      · rename_i c
        cases e0
        obtain ⟨p1, vs, rfl, q1, rr1⟩ := litems_rel R2 e1 (E2.relD R1 r1)
        obtain ⟨p2, ws, rfl, q2, rr2⟩ := litems_rel R2 e2 r2
        have l1 := relDs_len rr1
        have l2 := relDs_len rr2
        refine ⟨p1, p2, vs, ws, rfl, rfl, q1, q2, lim_size (by omega), fun p hp => ?_⟩
        exact q (W2.add p) _ _ (E1.trans (E2.trans (Ext.add W2 hp))) (R2.add hp (relDs_append rr1 rr2)) ⟨p, by
          show (W2.ρ ++ [p])[st2.length]? = some p
          rw [← R2.len, List.getElem?_append_right (Nat.le_refl _), Nat.sub_self]; rfl, rfl⟩
      · cases e0
/-- a walk over whatever it is -/
def anyIt (d : D) (s : Sto) : Res ItM := match d with
  | .t (.str x) => .ok (strIt x) s
  | .t (.tup ts) => .ok (seqIt (.t (.tup ts)) ts.length) s
  | d => optR ((lsq s d).map fun ds => seqIt d ds.length) s
def anyOf (f : Env → Sto → Res D) (env : Env) (st : Sto) : Res ItM := (f env st).bind anyIt
theorem PI.or {t1 t2 : TI} (h1 : PI X tg l t1) (h2 : PI X tg l t2) : PI X tg l (fun σ H R => t1 σ H R ∨ t2 σ H R) := ⟨fun pins s σ H R I h => h.elim (h1.run pins s σ H R I) (h2.run pins s σ H R I)⟩
theorem any_is (f : Env → Sto → Res D) (env : Env) (st : Sto) : anyOf f env st = lstOf f env st ∨ anyOf f env st = tupOf f env st ∨ anyOf f env st = strOf f env st := by
  unfold anyOf lstOf tupOf strOf
  cases f env st with
  | bad => exact .inl rfl
  | exc C fs s => exact .inl rfl
  | ok d s =>
    cases d with
    | r n => exact .inl rfl
    | x => exact .inl rfl
    | t x => cases x <;> first | exact .inl rfl | exact .inr (.inl rfl) | exact .inr (.inr rfl)
theorem ri_any (h : RE X Wx l f) : RI X Wx tg l (anyOf f) := by
  refine PI.conv (PI.or (ri_list h) (PI.or (ri_tup h) (ri_str h))) fun σ H Q ⟨W, env, st, R, Ev, q⟩ => ?_
  rcases any_is f env st with z | z | z
  · exact .inl ⟨W, env, st, R, Ev, z ▸ q⟩
  · exact .inr (.inl ⟨W, env, st, R, Ev, z ▸ q⟩)
  · exact .inr (.inr ⟨W, env, st, R, Ev, z ▸ q⟩)
/-- a * b of whole numbers, or of a tuple and a number -/
def mulA (d e : D) (st : Sto) : Option D := match d with
  | .t (.tup _) => repM d e st
  | _ => mulM d e st
theorem o_mulA : OpR X (binaryOp .Mult) (rM X.K mulA) := by
  have ho : OpR X (binaryOp .Mult) _ := OpR.or (o_mul (X := X)) o_rep
  (intro pins s σ H x y v u Q I r1 r2 h)
  refine ho pins s σ H x y v u Q I r1 r2 ?_
  obtain ⟨W, st, d, e, R, q1, q2, z, e1, q⟩ := h
  unfold mulA at e1
  split at e1
  · exact .inr ⟨W, st, _, e, R, q1, q2, z, e1, q⟩
  · exact .inl ⟨W, st, d, e, R, q1, q2, z, e1, q⟩
end
/-! ### tables as tests -/
section
variable {X : Cx} {Wx : WX} {a : Expr} {fa : Env → Sto → Res D} {x : Str} {p pos : Pos} {tb : List (Str × T)}
theorem rt_tabIn (Tb : Tab X.K X.w X.mg x tb) (hg : Gl X x) (ha : RE X Wx a fa) (hd : (x == ("__debug__" : Str)) = false := by decide) (hm : behindInMarks .In (.Name x p) = false := by rfl) : RT X Wx (.Compare a [.In] [.Name x p] pos) (fun env st => blOf (tabIn tb fa env st)) := by
  obtain ⟨d, es, n, hmg, D, ht⟩ := Tb.ex
  refine PT.conv (pt_cmpR (op_in_kd D) ha (pe_glob (v := .ref d) hg hmg rfl hd) hm) fun σ H Q ⟨W, env, st, R, Ev, h⟩ => ⟨W, env, st, R, Ev, split (split h (A' := fun dd s => (match dd with | .t (.bl k) => OkB X.K W H Q k s | _ => False)) (fun dd s hh => ?_) fun C fs st' hx => hx) (fun d0 st1 h1 W1 H1 v E1 R1 r1 => ?_) fun C fs st' hx => hx⟩
  · split at hh
    · exact hh
    · exact hh.elim
  · split at h1
    · rename_i z
      cases r1
      obtain ⟨r, e1, e2⟩ := tab_ns D ht z
      refine ⟨z, r, rfl, rfl, e1, _, rfl, ?_⟩
      have er : r.isSome = (tb.lookup z).isSome := by
        cases q : tb.lookup z with
        | none => rw [q] at e2; simp only at e2; rw [e2]; rfl
        | some t => rw [q] at e2; obtain ⟨u, e3, _⟩ := e2; rw [e3]; rfl
      rw [er]
      exact h1 W1 H1 E1 R1
    · exact h1.elim
theorem rt_tabNotIn (Tb : Tab X.K X.w X.mg x tb) (hg : Gl X x) (ha : RE X Wx a fa) (hd : (x == ("__debug__" : Str)) = false := by decide) (hm : behindInMarks .NotIn (.Name x p) = false := by rfl) : RT X Wx (.Compare a [.NotIn] [.Name x p] pos) (fun env st => blOf (tabNotIn tb fa env st)) := by
  obtain ⟨d, es, n, hmg, D, ht⟩ := Tb.ex
  refine PT.conv (pt_cmpR (op_notIn_kd D) ha (pe_glob (v := .ref d) hg hmg rfl hd) hm) fun σ H Q ⟨W, env, st, R, Ev, h⟩ => ⟨W, env, st, R, Ev, split (split h (A' := fun dd s => (match dd with | .t (.bl k) => OkB X.K W H Q k s | _ => False)) (fun dd s hh => ?_) fun C fs st' hx => hx) (fun d0 st1 h1 W1 H1 v E1 R1 r1 => ?_) fun C fs st' hx => hx⟩
  · split at hh
    · exact hh
    · exact hh.elim
  · split at h1
    · rename_i z
      cases r1
      obtain ⟨r, e1, e2⟩ := tab_ns D ht z
      refine ⟨z, r, rfl, rfl, e1, _, rfl, ?_⟩
      have er : r.isSome = (tb.lookup z).isSome := by
        cases q : tb.lookup z with
        | none => rw [q] at e2; simp only at e2; rw [e2]; rfl
        | some t => rw [q] at e2; obtain ⟨u, e3, _⟩ := e2; rw [e3]; rfl
      rw [er]
      exact h1 W1 H1 E1 R1
    · exact h1.elim
end
/-! ### no call is left -/
section
variable {P : Program} {w : World} {K : PySem.W.Frag} {mg : Str → Option Value} {base : Heap} {k n : Nat} {f : Addr} {fd : FuncData} {ps : List Str}
theorem badP (hn : ps.length = n) : FnG P w K mg base k f fd ps (spP K n fun _ => .bad) :=
  ⟨spP_count hn, fun A outer s H args us vs Q E room gd e0 bd rel ⟨_, _, _, _, _, z⟩ => z.elim⟩
theorem badG (hn : ps.length = n) : FnG P w K mg base k f fd ps (spG K n fun _ _ => .bad) :=
  ⟨spG_count hn, fun A outer s H args us vs Q E room gd e0 bd rel ⟨_, _, _, _, _, _, z⟩ => z.elim⟩
end
end Mi
/-! Mx -/
namespace Mi
open L2 PySem PySem.Spec PyProof.Rows

/-! ### own exceptions: raised, caught, looked at -/
/-- what the module must say of an own exception class with one field n -/
structure XCls (K : PySem.W.Frag) (C : Addr) (n : Str) : Prop where
  oex : OexC K C
  xf : XfC K C
  no : PySem.W.findIn K (.ref C) n = some none
  ca : (PySem.W.findIn K (.ref C) "__class__" = some (some (.builtin "object.__class__")))
  sp : PySem.W.specialIn K (.builtin "object.__class__") "__get__" = some (some (.builtin "getset_descriptor.__get__"))
  tk : PySem.W.takesIn K (.builtin "object.__class__") = some true
  mr : PySem.W.mroIn K C (.type "object") = some true
/-- the promise of an own __init__ that keeps its argument in the field n -/
def spI (n : Str) (C : Addr) : Sp := fun vs H Q E => ∃ a y, vs = [.ref a, y] ∧ H a = some (exo a C none) ∧ ∀ dx, H dx = none → dx ≠ a → Q .non (upd (upd H dx (exd dx [(n, y)])) a (exo a C (some dx)))
section
variable {P : Program} {w : World}  {K : PySem.W.Frag}  {mg : Str → Option Value} {base : Heap}
theorem init_ok {qual n sf vl : Str} {st : Stmt} {f C : Addr} {fd : FuncData} {p1 p2 p3 p4 : Pos} (F : Fun K "__init__" qual st f fd) (S : FnScope [sf, vl] [sf, vl] (defScope st)) (X : XCls K C n)
    (hb : defBody st = [.Assign [.Attribute (.Name sf p1) n p2] (.Name vl p3) p4])
    (h0 : (defScope st).names.lookup sf = some .local) (h1 : (defScope st).names.lookup vl = some .local) (d0 : (sf == ("__debug__" : Str)) = false) (c0 : (sf == ("__classdict__" : Str)) = false) (d1 : (vl == ("__debug__" : Str)) = false) (c1 : (vl == ("__classdict__" : Str)) = false)
    (hs : ∀ env, swapsWith (.Name vl p3) (some (.Attribute (.Name sf p1) n p2)) p4.line env = pure false) : FnOk P w K mg base CX0 1 f fd [sf, vl] (spI n C) := by
  refine Fun.ok (k := 0) F S (fun vs H Q E ⟨a, y, e, _⟩ => by rw [e]; rfl) fun cd A outer s H vs Q E room ⟨a, y, e, ha, q⟩ => ?_
  refine ⟨_, (by rw [hb]; exact pss_one (ps_ost (pe_var (i := 0) rfl (.inl h0) d0 c0) (pe_var (i := 1) rfl (.inl h1) d1 c1) (hs _))), ?_⟩
  subst e
  refine ⟨y, rfl, .ref a, rfl, a, C, rfl, X.oex, X.no, .inl ⟨ha, fun dx hd ne => q dx hd ne⟩⟩
end
section
variable {X : Cx} {Wx : WX} {e : Expr} {f : Env → Sto → Res D} {x n : Str} {p pos pos' : Pos}
/-- raise C(e) -/
def raiseM (C : Addr) (n : Str) (f : Env → Sto → Res D) (env : Env) (st : Sto) : Out := (f env st).out env fun d s => match d with
  | .t t => .exc C [(n, t)] env s
  | _ => .bad
theorem rs_raise {C fI : Addr} {fd : FuncData} {ps : List Str} {k : Nat} (hc : X.calm = true) (tk : Takes X Wx) (T : XCls X.K C n) (iC : PySem.W.findIn X.K (.ref C) "__init__" = some (some (.ref fI))) (tI : PySem.W.typeIn X.K (.ref fI) = some (.type "function"))
    (F1 : FnOk X.prog X.w X.K X.mg X.base CX0 k fI fd ps (spI n C)) (hr : Room (k + 1) X.A) (hb : Binds X.K fd ps []) (hg : Gl X x) (hm : X.mg x = some (.ref C)) (he : RE X Wx e f)
    (hdb : (x == ("__debug__" : Str)) = false := by decide) (hse : starEach [e] X.env = (false, eval e X.env) :: starEach [] X.env := by rfl) (hpl : (backTo pos (starEach [] X.env)).any (·.1) = false := by rfl) :
    RS X Wx (.Raise (some (.Call (.Name x p) [e] [] pos)) none pos') (raiseM C n f) := by
  refine PS.conv (ps_raise hc tk (pmk_oex T.oex iC tI F1 hr hb .nil pass0 hg hm (ra_cons he ra_nil hse) hdb hse hpl)) fun D σ H ⟨W, env, st, R, Ev, h⟩ => ?_
  refine ⟨W, env, st, R, Ev, ?_⟩
  have sp := out_split (A := fun d s => (match d with
    | .t t => Out.exc C [(n, t)] env s
    | _ => Out.bad).Holds X.K Wx D W H) (show ((f env st).out env fun d s => match d with
    | .t t => .exc C [(n, t)] env s
    | _ => Out.bad).Holds X.K Wx D W H from h) Ev R fun d s hh => hh
  show ((f env st).bind fun d st1 => (argsM [] env st1).bind fun ds st2 => .ok (d :: ds) st2).Holds _ _
  cases q : f env st with
  | bad => rw [q] at sp; exact sp
  | exc C' fs s => rw [q] at sp; exact sp
  | ok d s =>
    rw [q] at sp
    cases d with
    | r n => exact sp.elim
    | x => exact sp.elim
    | t t =>
      intro W1 H1 vs E1 R1 r1
      obtain ⟨y, u, e1, ry, ru⟩ := r1
      cases ru
      subst e1
      refine ⟨by simp, fun a ha => ⟨a, y, rfl, upd_same, fun dx hd ne => ⟨rfl, dx, [(n, y)], upd_same, by rw [upd_ne ne, upd_same], ?_, ?_⟩⟩⟩
      · rw [upd_ne ne] at hd; exact hd
      · rw [upd_ne ne] at hd
        have e2 : upd (del (upd (upd (upd H1 a (exo a C none)) dx (exd dx [(n, y)])) a (exo a C (some dx))) a) dx (.xd [(n, y)]) = upd H1 dx (.xd [(n, y)]) := by
          funext b
          by_cases hb : b = dx
          · rw [hb, upd_same, upd_same]
          · rw [upd_ne hb, upd_ne hb]
            by_cases hb2 : b = a
            · rw [hb2, del_same, ha]
            · rw [del_ne hb2, upd_ne hb2, upd_ne hb, upd_ne hb2]
        rw [e2]
        have E2 : Ext W1 H1 W1 (upd H1 dx (.xd [(n, y)])) := R1.more hd
        exact sp W1 σ _ (some dx) (E1.trans E2) (R1.rest hd) (Ev.mono (E1.trans E2) R) (.inr ⟨dx, [(n, y)], rfl, upd_same, y, [], rfl, E2.relT R1 t y ry, rfl⟩)
/-! ### try .. except C as n -/
/-- the name is gone behind the suite -/
def unset (i : Nat) : Out → Out
  | .nx e s => .nx (e.set i none) s
  | .bk e s => .bk (e.set i none) s
  | .ct e s => .ct (e.set i none) s
  | .rt d s => .rt d s
  | _ => .bad
theorem EnvR.unset {K : PySem.W.Frag} {W : Wd} {H : Hp} {env : Env} {σ : L2.St} (h : EnvR K W H env σ) (i : Nat) : EnvR K W H (env.set i none) (σ.set i none) := by
  refine ⟨by rw [List.length_set, List.length_set]; exact h.len, fun j d q => ?_⟩
  by_cases hj : i = j
  · subst hj
    by_cases hl : i < env.length
    · rw [List.getElem?_set_self hl] at q; cases q
    · rw [List.getElem?_eq_none (by rw [List.length_set]; omega)] at q; cases q
  · rw [List.getElem?_set_ne hj] at q
    obtain ⟨u, e1, r1⟩ := h.get j d q
    exact ⟨u, by rw [List.getElem?_set_ne hj]; exact e1, r1⟩
theorem unset_holds {K : PySem.W.Frag} {E : Ends} {W : Wd} {H : Hp} {i : Nat} {o : Out} (h : (unset i o).Holds K Wx E W H) :
    o.Holds K W0 { nx := fun σ' H' => E.nx (σ'.set i none) H', rt := E.rt, bk := fun σ' H' => E.bk (σ'.set i none) H', ct := fun σ' H' => E.ct (σ'.set i none) H' } W H := by
  cases o with
  | nx e s => exact fun W' σ' H' E' R' V' => h W' _ H' E' R' (V'.unset i)
  | bk e s => exact fun W' σ' H' E' R' V' => h W' _ H' E' R' (V'.unset i)
  | ct e s => exact fun W' σ' H' E' R' V' => h W' _ H' E' R' (V'.unset i)
  | rt d s => exact h
  | exc => exact h.elim
  | bad => exact h.elim
open Classical in
/-- body, and the suite where it lets out an exception of the class that isC knows: the same wherever that exception stands -/
noncomputable def tryAs (i : Nat) (isC : Addr → Option Bool) (body : Env → Sto → Out) (S : Addr → Option Addr → Addr → Env → Sto → Out) (env : Env) (st : Sto) : Out := match body env st with
  | .exc C fs e s => match isC C with
    | some true => if ∀ a o, unset i (S a o C (e.set i (some (.x a o C fs))) s) = unset i (S 0 none C (e.set i (some (.x 0 none C fs))) s) then unset i (S 0 none C (e.set i (some (.x 0 none C fs))) s) else .bad
    | some false => .exc C fs e s
    | none => .bad
  | o => o
theorem rs_tryAs {D : Addr} {i : Nat} {body suite : List Stmt} {b₀ : Stmt} {np : Pos} {isC : Addr → Option Bool} {gb : Env → Sto → Out} {S : Addr → Option Addr → Addr → Env → Sto → Out} (hs : X.stack = X.env :: X.outer) (hf : X.env.frame = some X.env.locals) (hN : X.N.Nodup) (hi : X.N[i]? = some n)
    (hln : X.env.kindOf n = some .local) (hg : Gl X x) (hm : X.mg x = some (.ref D)) (tk : Takes X Wx) (hx : ∀ C b, isC C = some b → PySem.W.exmOne X.K (.ref C) (.ref D) = some b)
    (hb : ∀ (W : WX) (pn : List (Addr × Obj)) (xe : Value → Shared → Prop), Takes (X.tr pn xe) W → PassesOwn (model X.prog X.w) X.A X.env xe → RSs (X.tr pn xe) W body gb)
    (hsu : ∀ (a : Addr) (oe : Obj) (C : Addr) (d : Option Addr) (pn : List (Addr × Obj)), isC C = some true → Zc (.ref C) d oe → (∃ vs, oe.data = .fields vs) → RSs (X.suite a ((a, oe) :: pn)) W0 (b₀ :: suite) (S a d C))
    (hdb : (x == ("__debug__" : Str)) = false := by decide) :
    RS X Wx (.Try body [.ExceptHandler (some (.Name x np)) (some n) (b₀ :: suite) pos'] [] [] pos) (tryAs i isC gb S) := by
  refine PS.conv (ps_try_as (tb := fun W => tS X.K W gb) (ts := fun a cls d => fun D σ H => ∃ C, cls = .ref C ∧ isC C = some true ∧ tS X.K W0 (S a d C) D σ H) hs hf hN hi hln ⟨hg, hdb, .inl hm⟩ tk hb (fun a oe cls d pn hz hfl => ?_)) fun E σ H ⟨W, env, st, R, Ev, h⟩ => ⟨W, env, st, R, Ev, ?_⟩
  · refine ⟨fun pins s σ H D I ⟨C, e, hC, h⟩ => ?_⟩
    subst e
    exact (hsu a oe C d pn hC hz hfl).run pins s σ H D I h
  · unfold tryAs at h
    cases q : gb env st with
    | nx e s => rw [q] at h; exact h
    | bk e s => rw [q] at h; exact h
    | ct e s => rw [q] at h; exact h
    | rt d s => rw [q] at h; exact h
    | bad => rw [q] at h; exact h
    | exc C fs e s =>
      rw [q] at h
      intro W' σ' H' o E' R' V' xx
      cases q2 : isC C with
      | none => simp only [q2] at h; exact h.elim
      | some b =>
        refine ⟨b, hx C b q2, fun hbt a ha => ?_, fun hbf => ?_⟩
        · subst hbt
          simp only [q2] at h
          split at h
          · rename_i all
            refine ⟨C, rfl, q2, W', e.set i (some (.x a o C fs)), s, R', V'.set i ⟨rfl, xx⟩, ?_⟩
            exact Out.Holds.mono (o := S a o C (e.set i (some (.x a o C fs))) s) (unset_holds (by rw [all a o]; exact h)) E'
          · exact h.elim
        · subst hbf
          simp only [q2] at h
          exact h W' σ' H' o E' R' V' xx
/-! ### the caught exception -/
/-- e.n -/
def xfM (a0 : Addr) (o0 : Option Addr) (C0 : Addr) (n : Str) (f : Env → Sto → Res D) (env : Env) (st : Sto) : Res D := (f env st).bind fun d s => match d with
  | .x a o C fs => if a = a0 ∧ o = o0 ∧ C = C0 then optR ((fs.lookup n).map .t) s else .bad
  | _ => .bad
theorem relFs_get {K : PySem.W.Frag} {W : Wd} {H : Hp} {n : Str} : ∀ {fs : List (Str × T)} {vs : List (Str × V)} {t : T}, RelFs K W H fs vs → fs.lookup n = some t → ∃ v, vs.lookup n = some v ∧ RelT K W.F H t v
  | [], vs, t, h, e => by cases e
  | (m, u) :: r, vs, t, h, e => by
    obtain ⟨v, w, rfl, a, b⟩ := h
    rw [L2.lookup_put]
    by_cases hn : n = m
    · subst hn
      rw [if_pos rfl]
      have e : some u = some t := by rw [← e]; simp [List.lookup]
      cases e
      exact ⟨v, rfl, a⟩
    · rw [if_neg hn]
      have hnm : (n == m) = false := by simpa using hn
      have e : r.lookup n = some t := by rw [← e]; simp [List.lookup, hnm]
      exact relFs_get b e
theorem re_xf {a C : Addr} {oe : Obj} {d : Option Addr} {pn : List (Addr × Obj)} (T : XCls X.K C n) (hz : Zc (.ref C) d oe) (hf : ∃ vs, oe.data = .fields vs) (he : RE (X.suite a ((a, oe) :: pn)) Wx e f)
    (hb : attributeBase e n X.env (eval e X.env) = eval e X.env := by rfl) : RE (X.suite a ((a, oe) :: pn)) Wx (.Attribute e n pos) (xfM a d C n f) := by
  refine PE.conv (pe_xf T.xf T.no hz hf he hb) fun σ H Q ⟨W, env, st, R, Ev, h⟩ => ⟨W, env, st, R, Ev, split h (fun z s h1 W1 H1 v E1 R1 r1 => ?_) fun C fs st' hx => hx⟩
  cases z with
  | t => exact h1.elim
  | r => exact h1.elim
  | x a1 o1 C1 fs =>
    dsimp only at h1
    split at h1
    · rename_i c
      obtain ⟨rfl, rfl, rfl⟩ := c
      obtain ⟨u, e1, q⟩ := optR_holds h1
      cases e2 : fs.lookup n with
      | none => rw [e2] at e1; cases e1
      | some t =>
        rw [e2] at e1
        cases e1
        obtain ⟨rfl, xx⟩ := r1
        rcases xx with rfl | ⟨dd, vs, rfl, h2, h3⟩
        · cases e2
        · obtain ⟨y, l, ry⟩ := relFs_get h3 e2
          exact ⟨rfl, rfl, dd, vs, y, rfl, h2, l, q W1 H1 y E1 R1 ry⟩
    · exact h1.elim
/-- isinstance(e, B) -/
def isXB (a0 : Addr) (o0 : Option Addr) (C0 : Addr) (kt : Addr → Addr → Option Bool) (ds : List D) (_ : Sto) : Option D := match ds with
  | [.x a o C (_ :: _), .t (.glb B)] => if a = a0 ∧ o = o0 ∧ C = C0 then (kt C B).map bD else none
  | _ => none
theorem c_isX {a C : Addr} {oe : Obj} {d : Option Addr} {pn : List (Addr × Obj)} {kt : Addr → Addr → Option Bool} (T : XCls X.K C n) (hz : Zc (.ref C) d oe) (hf : ∃ vs, oe.data = .fields vs) (hk : ∀ B b, kt C B = some b → PySem.W.kitOne X.K (.ref C) (.ref B) = some b) :
    CallR (X.suite a ((a, oe) :: pn)) (.builtin "isinstance") (rC X.K (isXB a d C kt)) := by
  intro pins s σ H xs us Q I r ⟨W, st, ds, R, r1, z, e1, q⟩
  unfold isXB at e1
  split at e1
  · rename_i a1 o1 C1 f1 fr B
    split at e1
    · rename_i c
      obtain ⟨rfl, rfl, rfl⟩ := c
      cases e2 : kt C1 B with
      | none => rw [e2] at e1; cases e1
      | some b =>
        rw [e2] at e1
        cases e1
        obtain ⟨v, w, rfl, ra, rb⟩ := rel2 r1
        cases rb
        obtain ⟨rfl, xx⟩ := ra
        cases r with
        | cons rx rr =>
          cases rr with
          | cons rt rr =>
            cases rr
            cases rx
            cases rt
            obtain ⟨hget, _⟩ := I.pin (a1, oe) (List.mem_append.mpr (.inl List.mem_cons_self))
            obtain ⟨vs, hv⟩ := hf
            rcases xx with z | ⟨dd, ws, rfl, h2, h3⟩
            · cases z
            · have hx : ObjOk X.prog X.w H s.heap dd (.xd ws) := I.hok dd _ h2
              obtain ⟨mA, hns, hr⟩ := hx
              obtain ⟨od, ho, hl⟩ := (lookIn_ns hns)
              have J : PySem.W.InstAt s.heap a1 oe C1 (some od) := ⟨hget, hz.1, by unfold PySem.W.notCls; rw [hv] <;> rfl, by rw [hz.2]; exact ho⟩
              have Z := PySem.W.kitx_exc (x := a1) (ox := oe) (od := some od) (by obtain ⟨cd, hc, _⟩ := PySem.W.any_some T.xf.hdC; rw [hc]; rfl) T.xf.ga T.xf.gg T.xf.exC T.ca T.sp T.tk T.mr
              exact PySem.W.kia_one Z I.kIn J (hk B b e2) (fun z => nomatch z) fun tk => ⟨.bl b, H, I.kept (t' := tk) fun _ _ z => z, rfl, q W H _ .refl R rfl⟩
    · cases e1
  · cases e1
theorem re_cls {B : Addr} {x : Str} (hg : Gl X x) (hm : X.mg x = some (.ref B)) (hd : (x == ("__debug__" : Str)) = false := by decide) : RE X Wx (.Name x pos) (eC (.glb B)) := re_glob hg hm (v := .ref B) rfl (fun _ _ => rfl) hd
end
/-! ### tables of classes -/
def lkB (C : Addr) : List (Addr × Bool) → Option Bool
  | [] => none
  | (a, b) :: r => if C = a then some b else lkB C r
def AllB (P : Addr → Bool → Prop) : List (Addr × Bool) → Prop
  | [] => True
  | (a, b) :: r => P a b ∧ AllB P r
theorem lkB_all {P : Addr → Bool → Prop} {C : Addr} {b : Bool} : ∀ {l : List (Addr × Bool)}, AllB P l → lkB C l = some b → P C b
  | [], _, h => by cases h
  | (a, c) :: r, hl, h => by
    have h : (if C = a then some c else lkB C r) = some b := h
    by_cases e : C = a
    · rw [if_pos e] at h
      cases h
      rw [e]
      exact hl.1
    · rw [if_neg e] at h
      exact lkB_all hl.2 h
def kt1 (B0 : Addr) (l : List (Addr × Bool)) (C B : Addr) : Option Bool := if B = B0 then lkB C l else none
theorem kt1_ok {K : PySem.W.Frag} {B0 : Addr} {l : List (Addr × Bool)} (h : AllB (fun C b => PySem.W.kitOne K (.ref C) (.ref B0) = some b) l) {C : Addr} : ∀ B b, kt1 B0 l C B = some b → PySem.W.kitOne K (.ref C) (.ref B) = some b := fun B b e => by
  unfold kt1 at e
  split at e
  · rename_i z
    subst z
    exact lkB_all h e
  · cases e
theorem un2 {k : Nat} {A : Around} (room : Room k A) : A.units + 200 < cLine := by have := room.un; omega
theorem un3 {X : Cx} {k : Nat} {a : Addr} {pn : List (Addr × Obj)} (room : Room k X.A) : (X.suite a pn).A.units + 200 < cLine := by have := room.un; show X.A.units + 200 < cLine; omega
theorem uns3 {X : Cx} {k : Nat} {a : Addr} {pn : List (Addr × Obj)} (room : Room k X.A) : (X.suite a pn).A.units + 64 < cLine := by have := room.un; show X.A.units + 64 < cLine; omega
def clsB : Stmt → List Stmt
  | .ClassDef (body := b) .. => (b)
  | _ => []
/-- the goal that k_head leaves: the mirror may ask for the addresses of the classes -/
theorem law_endX {l : PySem.W.OpenLaw} {n k : Nat} {q : Program} {loose : List Str} {XP : (Str → Option Value) → Heap → Prop} {YP : World → Heap → Prop} {d : DefRec} {K : Params → PySem.W.Frag} {x : Str} {α : Type} {m : α → List D → Sto → Res D}
    (hn : l.most = some n) (hn2 : n ≤ sizeLine) (hdf : d.params.defaults = []) (room : Room k callerA) (hY : ∀ (w : World) (h : Heap), YP w h → (K w.params).In h)
    (G : ∀ (w : World) (mg : Str → Option Value) (fa : Addr) (h : Heap), (K w.params).In h → h.Ns mainGlobals mg → mg d.name = some (.ref fa) →
      ∃ (xc : α) (fd : FuncData), (∀ (s : Shared) (u : Value), BindsTo s fd ⟨[u], []⟩ [(x, u)]) ∧ ∀ base : Heap, (K w.params).In base → base.Ns mainGlobals mg → FnG l.prog w (K w.params) mg base k fa fd [x] (spG (K w.params) 1 (m xc)))
    (hF : ∀ (xc : α) (ns : List Int), ns.length ≤ n → ∃ st, m xc [script ns] [] = .ok (.t (.bl true)) st) : PySem.W.WalkO q loose XP YP l.row.toRowW d [] (fun f vs => PySem.call f vs) := by
  refine Att.attach_call hn hdf ?_
  intro w s₀ s₁ mg mb fa o pm cd doc a vs ns Gr Y ho hd hcd hmg hobj hints hlen hg
  have KX := hY w _ Y
  obtain ⟨xc, fd, bnd, g⟩ := G w mg fa _ KX Gr.T.g hmg
  exact law_run KX Gr.T.g Gr.T.b Gr.T.builtins Gr.T.nolimit hg hobj hints (Nat.le_trans hlen hn2) room g bnd (hF xc ns hlen)
end Mi
/-! Ev -/
namespace Mi
open PySem PySem.Spec PyProof.Rows L2 RZ
/-! ### how mirrors are worked out -/
theorem Res.bind_ok {α β : Type} (a : α) (st : Sto) (k : α → Sto → Res β) : (Res.ok a st).bind k = k a st := rfl
theorem Res.out_ok {α : Type} (a : α) (st : Sto) (env : Env) (k : α → Sto → Out) : (Res.ok a st).out env k = k a st := rfl
theorem optR_ok {α : Type} (a : α) (st : Sto) : optR (some a) st = .ok a st := rfl
def lcL (ga : D → Env → Option Env) (gt : Env → Sto → Res Bool) (fe : Env → Sto → Res D) (env0 : Env) : List D → Sto → List D → Option (List D × Sto)
  | [], st, acc => some (acc, st)
  | d :: r, st, acc => match ga d env0 with
    | some env1 => match gt env1 st with
      | .ok true st1 => match fe env1 st1 with
        | .ok z st2 => if acc.length < LIM then lcL ga gt fe env0 r st2 (acc ++ [z]) else none
        | _ => none
      | .ok false st1 => lcL ga gt fe env0 r st1 acc
      | _ => none
    | none => none
theorem lcI_eq {ga : D → Env → Option Env} {gt : Env → Sto → Res Bool} {fe : Env → Sto → Res D} {env0 : Env} {it : ItM} {ds : List D} (h : ∀ st i, it.nth st i = some ds[i]?) :
    ∀ (m i : Nat) (st : Sto) (acc : List D), ds.length ≤ m + i → lcI ga gt fe it env0 m i st acc = lcL ga gt fe env0 (ds.drop i) st acc
  | 0, i, st, acc, hl => by
    have e : ds[i]? = none := List.getElem?_eq_none_iff.mpr (by omega)
    have e2 : ds.drop i = [] := List.drop_eq_nil_of_le (by omega)
    unfold lcI
    rw [h, e, e2]
    rfl
  | m + 1, i, st, acc, hl => by
    unfold lcI
    rw [h]
    by_cases hi : i < ds.length
    · rw [List.getElem?_eq_getElem hi, List.drop_eq_getElem_cons hi]
      have ih := lcI_eq (ga := ga) (gt := gt) (fe := fe) (env0 := env0) h m (i + 1)
      rw [lcL]
      dsimp only
      cases ga ds[i] env0 with
      | none => rfl
      | some env1 =>
        dsimp only
        cases gt env1 st with
        | bad => rfl
        | exc _ _ _ => rfl
        | ok b st1 =>
          cases b with
          | false => exact ih st1 acc (by omega)
          | true =>
            dsimp only
            cases fe env1 st1 with
            | bad => rfl
            | exc _ _ _ => rfl
            | ok z st2 =>
              dsimp only
              by_cases c : acc.length < LIM
              · rw [if_pos c, if_pos c]; exact ih st2 _ (by omega)
              · rw [if_neg c, if_neg c]
    · have e : ds[i]? = none := List.getElem?_eq_none_iff.mpr (by omega)
      have e2 : ds.drop i = [] := List.drop_eq_nil_of_le (by omega)
      rw [e, e2]
      rfl
theorem lcL_pure {ga : D → Env → Option Env} {gt : Env → Sto → Res Bool} {fe : Env → Sto → Res D} {env0 : Env} {st : Sto} {p : T → Bool} {g : T → T} :
    ∀ (ts : List T) (acc : List D), acc.length + ts.length ≤ LIM → (∀ t ∈ ts, ∃ env1, ga (.t t) env0 = some env1 ∧ gt env1 st = .ok (p t) st ∧ (p t = true → fe env1 st = .ok (.t (g t)) st)) →
      lcL ga gt fe env0 (ts.map .t) st acc = some (acc ++ ((ts.filter p).map g).map .t, st)
  | [], acc, _, _ => by simp [lcL]
  | t :: r, acc, hl, h => by
    obtain ⟨env1, h1, h2, h3⟩ := h t List.mem_cons_self
    have hr := fun acc h4 => lcL_pure r acc h4 fun x hx => h x (List.mem_cons_of_mem _ hx)
    rw [List.length_cons] at hl
    show (match ga (.t t) env0 with
      | some env1 => match gt env1 st with
        | .ok true st1 => match fe env1 st1 with
          | .ok z st2 => if acc.length < LIM then lcL ga gt fe env0 (r.map .t) st2 (acc ++ [z]) else none
          | _ => none
        | .ok false st1 => lcL ga gt fe env0 (r.map .t) st1 acc
        | _ => none
      | none => none) = _
    rw [h1]
    simp only
    rw [h2]
    cases hp : p t with
    | false =>
      simp only
      rw [hr acc (by omega), List.filter_cons, hp]
      rfl
    | true =>
      simp only
      rw [h3 hp]
      simp only
      rw [if_pos (by omega), hr _ (by rw [List.length_append, List.length_singleton]; omega), List.filter_cons, hp]
      simp
theorem lcM_T {us : List Nat} {fi : Env → Sto → Res ItM} {ga : D → Env → Option Env} {gt : Env → Sto → Res Bool} {fe : Env → Sto → Res D} {env : Env} {st s : Sto} {it : ItM} {ts : List T} {p : T → Bool} {g : T → T}
    (hi : fi env st = .ok it s) (hit : ∀ st i, it.nth st i = some (ts.map D.t)[i]?) (hm : it.most = ts.length) (hl : ts.length ≤ LIM)
    (h : ∀ t ∈ ts, ∃ env1, ga (.t t) (wipeE env us) = some env1 ∧ gt env1 s = .ok (p t) s ∧ (p t = true → fe env1 s = .ok (.t (g t)) s)) :
    lcM us fi ga gt fe env st = .ok (.t (.lst ((ts.filter p).map g))) s := by
  unfold lcM
  rw [hi, Res.bind_ok, lcI_eq hit _ _ _ _ (by rw [List.length_map, hm]; omega), List.drop_zero, lcL_pure ts [] (by rw [List.length_nil]; omega) h]
  simp only [List.nil_append, plains_map]
  rfl
/-- no test -/
theorem lcM_all {us : List Nat} {fi : Env → Sto → Res ItM} {ga : D → Env → Option Env} {fe : Env → Sto → Res D} {env : Env} {st s : Sto} {it : ItM} {ts : List T} {g : T → T}
    (hi : fi env st = .ok it s) (hit : ∀ st i, it.nth st i = some (ts.map D.t)[i]?) (hm : it.most = ts.length) (hl : ts.length ≤ LIM)
    (h : ∀ t ∈ ts, ∃ env1, ga (.t t) (wipeE env us) = some env1 ∧ fe env1 s = .ok (.t (g t)) s) :
    lcM us fi ga yesM fe env st = .ok (.t (.lst (ts.map g))) s := by
  have e := lcM_T (us := us) (ga := ga) (gt := yesM) (fe := fe) (p := fun _ => true) (g := g) hi hit hm hl fun t ht => by
    obtain ⟨e1, a, b⟩ := h t ht
    exact ⟨e1, a, rfl, fun _ => b⟩
  rw [e, List.filter_eq_self.mpr (fun _ _ => rfl)]
def forL (ga : D → Env → Option Env) (body : Env → Sto → Out) : List D → Env → Sto → Out
  | [], env, st => .nx env st
  | d :: r, env, st => match ga d env with
    | some env1 => match body env1 st with
      | .nx e s => forL ga body r e s
      | .ct e s => forL ga body r e s
      | .bk e s => .nx e s
      | .rt d s => .rt d s
      | .exc C fs e s => .exc C fs e s
      | .bad => .bad
    | none => .bad
theorem forI_eq {ga : D → Env → Option Env} {body : Env → Sto → Out} {it : ItM} {ds : List D} (h : ∀ st i, it.nth st i = some ds[i]?) :
    ∀ (m i : Nat) (env : Env) (st : Sto), ds.length ≤ m + i → forI ga body it m i env st = forL ga body (ds.drop i) env st
  | 0, i, env, st, hl => by
    have e : ds[i]? = none := List.getElem?_eq_none_iff.mpr (by omega)
    have e2 : ds.drop i = [] := List.drop_eq_nil_of_le (by omega)
    unfold forI
    rw [h, e, e2]
    rfl
  | m + 1, i, env, st, hl => by
    unfold forI
    rw [h]
    by_cases hi : i < ds.length
    · rw [List.getElem?_eq_getElem hi, List.drop_eq_getElem_cons hi]
      have ih := forI_eq (ga := ga) (body := body) h m (i + 1)
      rw [forL]
      dsimp only
      cases ga ds[i] env with
      | none => rfl
      | some env1 =>
        dsimp only
        cases body env1 st with
        | nx e s => exact ih e s (by omega)
        | ct e s => exact ih e s (by omega)
        | _ => rfl
    · have e : ds[i]? = none := List.getElem?_eq_none_iff.mpr (by omega)
      have e2 : ds.drop i = [] := List.drop_eq_nil_of_le (by omega)
      rw [e, e2]
      rfl
theorem forM_eq {fi : Env → Sto → Res ItM} {ga : D → Env → Option Env} {body : Env → Sto → Out} {env : Env} {st s : Sto} {it : ItM} {ds : List D} (hi : fi env st = .ok it s) (h : ∀ st i, it.nth st i = some ds[i]?) (hm : ds.length ≤ it.most) :
    forM' fi ga body env st = forL ga body ds env s := by
  unfold forM'
  rw [hi, Res.out_ok, forI_eq h _ _ _ _ (by omega), List.drop_zero]
/-- the walks -/
theorem nth_tup (ts : List T) (n : Nat) : ∀ st i, (seqIt (.t (.tup ts)) n).nth st i = some (ts.map D.t)[i]? := fun _ _ => rfl
theorem nth_lst (ts : List T) (n : Nat) : ∀ st i, (seqIt (.t (.lst ts)) n).nth st i = some (ts.map D.t)[i]? := fun _ _ => rfl
def chars (x : Str) : List T := x.cps.toList.map fun c => .str ⟨#[c]⟩
theorem nth_str (x : Str) : ∀ st i, (strIt x).nth st i = some ((chars x).map D.t)[i]? := fun st i => by
  unfold strIt chars
  rw [List.map_map, List.getElem?_map, Array.getElem?_toList]
  rfl
theorem any_tup {f : Env → Sto → Res D} {env : Env} {st s : Sto} {ts : List T} (h : f env st = .ok (.t (.tup ts)) s) : anyOf f env st = .ok (seqIt (.t (.tup ts)) ts.length) s := by unfold anyOf; rw [h]; rfl
theorem any_lst {f : Env → Sto → Res D} {env : Env} {st s : Sto} {ts : List T} (h : f env st = .ok (.t (.lst ts)) s) : anyOf f env st = .ok (seqIt (.t (.lst ts)) ts.length) s := by
  unfold anyOf; rw [h]
  show optR (some (seqIt _ (ts.map D.t).length)) s = _
  rw [List.length_map]
  rfl
theorem any_str {f : Env → Sto → Res D} {env : Env} {st s : Sto} {x : Str} (h : f env st = .ok (.t (.str x)) s) : anyOf f env st = .ok (strIt x) s := by unfold anyOf; rw [h]; rfl
/-- tests in a row -/
theorem exitP_rt (t : T) (s : Sto) : exitP (.rt (.t t) s) = .ok t := rfl
end Mi
/-! K02 -/
namespace K02
open L2 RZ Mi PySem PySem.Spec PyProof.Rows
noncomputable section
def topS (i : Nat) : Stmt := PySem.Challenge.pw_interruptruns_k02_least_and_most_ticks.main.body.getD i (.Pass ⟨0, 0, 0, 0⟩)
abbrev s_is_integer : Stmt := topS 6
theorem sc_is_integer : FnScope ["value"] ["value"] (defScope s_is_integer) := ⟨rfl, rfl, rfl, by decide +kernel, rfl, by decide +kernel, by decide +kernel⟩
abbrev s_is_between : Stmt := topS 7
theorem sc_is_between : FnScope ["value", "least", "most"] ["value", "least", "most"] (defScope s_is_between) := ⟨rfl, rfl, rfl, by decide +kernel, rfl, by decide +kernel, by decide +kernel⟩
abbrev s_is_name : Stmt := topS 8
theorem sc_is_name : FnScope ["value", "letter"] ["value"] (defScope s_is_name) := ⟨rfl, rfl, rfl, by decide +kernel, rfl, by decide +kernel, by decide +kernel⟩
abbrev s_is_statement : Stmt := topS 14
theorem sc_is_statement : FnScope ["value", "forms", "form", "part"] ["value"] (defScope s_is_statement) := ⟨rfl, rfl, rfl, by decide +kernel, rfl, by decide +kernel, by decide +kernel⟩
abbrev s_is_part : Stmt := topS 15
theorem sc_is_part : FnScope ["form", "value"] ["form", "value"] (defScope s_is_part) := ⟨rfl, rfl, rfl, by decide +kernel, rfl, by decide +kernel, by decide +kernel⟩
abbrev s_inner_bodies : Stmt := topS 16
theorem sc_inner_bodies : FnScope ["statement", "forms", "form", "part"] ["statement"] (defScope s_inner_bodies) := ⟨rfl, rfl, rfl, by decide +kernel, rfl, by decide +kernel, by decide +kernel⟩
abbrev s_all_statements : Stmt := topS 17
theorem sc_all_statements : FnScope ["value", "found", "waiting", "statement", "body", "level", "inner"] ["value"] (defScope s_all_statements) := ⟨rfl, rfl, rfl, by decide +kernel, rfl, by decide +kernel, by decide +kernel⟩
abbrev s_tick_bounds : Stmt := topS 18
theorem sc_tick_bounds : FnScope ["body", "least", "most", "statement", "low", "high"] ["body"] (defScope s_tick_bounds) := ⟨rfl, rfl, rfl, by decide +kernel, rfl, by decide +kernel, by decide +kernel⟩
abbrev s_statement_bounds : Stmt := topS 19
theorem sc_statement_bounds : FnScope ["statement", "bounds", "body", "low", "high"] ["statement"] (defScope s_statement_bounds) := ⟨rfl, rfl, rfl, by decide +kernel, rfl, by decide +kernel, by decide +kernel⟩
abbrev s_is_body : Stmt := topS 22
theorem sc_is_body : FnScope ["value", "found", "branches", "passes", "one", "body"] ["value"] (defScope s_is_body) := ⟨rfl, rfl, rfl, by decide +kernel, rfl, by decide +kernel, by decide +kernel⟩
abbrev s_least_ticks : Stmt := topS 23
theorem sc_least_ticks : FnScope ["body"] ["body"] (defScope s_least_ticks) := ⟨rfl, rfl, rfl, by decide +kernel, rfl, by decide +kernel, by decide +kernel⟩
abbrev s_most_ticks : Stmt := topS 24
theorem sc_most_ticks : FnScope ["body"] ["body"] (defScope s_most_ticks) := ⟨rfl, rfl, rfl, by decide +kernel, rfl, by decide +kernel, by decide +kernel⟩
abbrev s_uses_ticks : Stmt := topS 25
theorem sc_uses_ticks : FnScope ["body"] ["body"] (defScope s_uses_ticks) := ⟨rfl, rfl, rfl, by decide +kernel, rfl, by decide +kernel, by decide +kernel⟩
abbrev s_law_pool : Stmt := topS 27
theorem sc_law_pool : FnScope ["_law_script", "_law_k", "_law_cell", "_law_mixed"] ["_law_script", "_law_k"] (defScope s_law_pool) := ⟨rfl, rfl, rfl, by decide +kernel, rfl, by decide +kernel, by decide +kernel⟩
abbrev s_law_take : Stmt := topS 28
theorem sc_law_take : FnScope ["_law_pool_here", "_law_many", "_law_found"] ["_law_pool_here", "_law_many"] (defScope s_law_take) := ⟨rfl, rfl, rfl, by decide +kernel, rfl, by decide +kernel, by decide +kernel⟩
abbrev s_law_line : Stmt := topS 29
theorem sc_law_line : FnScope ["_law_pool_here", "_law_sources", "_law_jobs", "_law_cells", "_law_depth", "_law_first", "_law_second", "_law_way", "_law_name"] ["_law_pool_here", "_law_sources", "_law_jobs", "_law_cells", "_law_depth"] (defScope s_law_line) := ⟨rfl, rfl, rfl, by decide +kernel, rfl, by decide +kernel, by decide +kernel⟩
abbrev s_law_lines : Stmt := topS 30
theorem sc_law_lines : FnScope ["_law_pool_here", "_law_sources", "_law_jobs", "_law_cells", "_law_depth", "_law_most", "_law_lines_here", "_law_turn"] ["_law_pool_here", "_law_sources", "_law_jobs", "_law_cells", "_law_depth", "_law_most"] (defScope s_law_lines) := ⟨rfl, rfl, rfl, by decide +kernel, rfl, by decide +kernel, by decide +kernel⟩
abbrev s_law_body : Stmt := topS 31
theorem sc_law_body : FnScope ["_law_pool_here", "_law_sources", "_law_jobs", "_law_cells", "_law_most", "_law_turn", "_law_body_here", "_law_words"] ["_law_pool_here", "_law_sources", "_law_jobs", "_law_cells", "_law_most"] (defScope s_law_body) := ⟨rfl, rfl, rfl, by decide +kernel, rfl, by decide +kernel, by decide +kernel⟩
abbrev s_law_is_name : Stmt := topS 32
theorem sc_law_is_name : FnScope ["_law_value", "_law_sign"] ["_law_value"] (defScope s_law_is_name) := ⟨rfl, rfl, rfl, by decide +kernel, rfl, by decide +kernel, by decide +kernel⟩
abbrev s_law_is_from : Stmt := topS 33
theorem sc_law_is_from : FnScope ["_law_value", "_law_low", "_law_high"] ["_law_value", "_law_low", "_law_high"] (defScope s_law_is_from) := ⟨rfl, rfl, rfl, by decide +kernel, rfl, by decide +kernel, by decide +kernel⟩
abbrev s_law_inner : Stmt := topS 34
theorem sc_law_inner : FnScope ["_law_line_here"] ["_law_line_here"] (defScope s_law_inner) := ⟨rfl, rfl, rfl, by decide +kernel, rfl, by decide +kernel, by decide +kernel⟩
abbrev s_law_is_line : Stmt := topS 35
theorem sc_law_is_line : FnScope ["_law_line_here", "_law_depth", "_law_word", "_law_size"] ["_law_line_here", "_law_depth"] (defScope s_law_is_line) := ⟨rfl, rfl, rfl, by decide +kernel, rfl, by decide +kernel, by decide +kernel⟩
abbrev s_law_right : Stmt := topS 36
theorem sc_law_right : FnScope ["_law_value", "_law_depth", "_law_one"] ["_law_value", "_law_depth"] (defScope s_law_right) := ⟨rfl, rfl, rfl, by decide +kernel, rfl, by decide +kernel, by decide +kernel⟩
abbrev s_law_all : Stmt := topS 37
theorem sc_law_all : FnScope ["_law_body_here", "_law_found", "_law_line_here", "_law_inner_here"] ["_law_body_here"] (defScope s_law_all) := ⟨rfl, rfl, rfl, by decide +kernel, rfl, by decide +kernel, by decide +kernel⟩
abbrev s_law_is_body : Stmt := topS 38
theorem sc_law_is_body : FnScope ["_law_value", "_law_words", "_law_line_here"] ["_law_value"] (defScope s_law_is_body) := ⟨rfl, rfl, rfl, by decide +kernel, rfl, by decide +kernel, by decide +kernel⟩
abbrev s_law_ticks : Stmt := topS 39
theorem sc_law_ticks : FnScope ["_law_body_here", "_law_line_here", "_law_least", "_law_most", "_law_parts", "_law_inner_here"] ["_law_body_here"] (defScope s_law_ticks) := ⟨rfl, rfl, rfl, by decide +kernel, rfl, by decide +kernel, by decide +kernel⟩
abbrev s_law_refused : Stmt := topS 40
theorem sc_law_refused : FnScope ["_law_value", "_law_found", "_law_way", "e"] ["_law_value"] (defScope s_law_refused) := ⟨rfl, rfl, rfl, by decide +kernel, rfl, by decide +kernel, by decide +kernel⟩
abbrev s_law : Stmt := topS 41
theorem sc_law : FnScope ["_law_script", "_law_deep", "_law_value", "_law_k", "_law_pool_here", "_law_body_here", "_law_some"] ["_law_script"] (defScope s_law) := ⟨rfl, rfl, rfl, by decide +kernel, rfl, by decide +kernel, by decide +kernel⟩
structure XC where
  InvalidBody : Addr
  RunError : Addr
abbrev s_init_InvalidBody : Stmt := (clsB (topS 2)).getD 0 (.Pass ⟨0, 0, 0, 0⟩)
theorem sc_init_InvalidBody : FnScope ["self", "value"] ["self", "value"] (defScope s_init_InvalidBody) := ⟨rfl, rfl, rfl, by decide +kernel, rfl, by decide +kernel, by decide +kernel⟩
def c_MOST_LETTERS : T := (.int 8)
def c_LETTERS : T := (.str "abcdefghijklmnopqrstuvwxyz")
def c_MOST_LEVELS : T := (.int 4)
def c_MOST_STATEMENTS : T := (.int 40)
def c_MOST_BRANCHES : T := (.int 6)
def t_MOST : List (Str × T) := [("ticks", (.int 20)), ("passes", (.int 5)), ("level", (.int 9)), ("delay", (.int 50))]
def t_FORMS : List (Str × T) := [("run", (.tup [(.str "ticks")])), ("either", (.tup [(.str "body"), (.str "body")])), ("when", (.tup [(.str "counter"), (.str "body"), (.str "body")])), ("loop", (.tup [(.str "passes"), (.str "body")])), ("mask", (.tup [(.str "level")])), ("unmask", (.tup [])), ("answer", (.tup [(.str "source")])), ("raise", (.tup [(.str "source")])), ("arm", (.tup [(.str "source"), (.str "delay")])), ("post", (.tup [(.str "task")])), ("add", (.tup [(.str "counter")])), ("take", (.tup [(.str "counter")]))]
def b_is_integer : Mi.Env → Sto → Out :=
  retM (andV (callB isiB [eVar 0, eC (.ty "int")]) (notV (callB isiB [eVar 0, eC (.ty "bool")])))
def m_is_integer : List T → Rp := defP 1 (b_is_integer)
def b_is_between : Mi.Env → Sto → Out :=
  retM (andV (callP m_is_integer [eVar 0]) (chain leM leM (eVar 1) (eVar 0) (eVar 2)))
def m_is_between : List T → Rp := defP 3 (b_is_between)
def c_is_name_1 : Mi.Env → Sto → Res D :=
  lcM [1] (anyOf (eVar 0)) (gN 1) (yesM) (bin inM (eVar 1) (eC c_LETTERS))
def b_is_name : Mi.Env → Sto → Out :=
  seqM (ifM (orM (notM (truM (callB isiB [eVar 0, eC (.ty "str")]))) (notM (fun env st => blOf (chain leM leM (eC (.int 1)) (callB lenB [eVar 0]) (eC c_MOST_LETTERS) env st)))) (retM (eC (.bl false))) (nxM))
    (retM (callB allB [c_is_name_1]))
def m_is_name : List T → Rp := defP 2 (b_is_name)
def b_is_part : Mi.Env → Sto → Out :=
  seqM (ifM (fun env st => blOf (bin eqM (eVar 0) (eC (.str "body")) env st)) (retM (callB isiB [eVar 1, eC (.ty "tuple")])) (nxM))
    (seqM (ifM (fun env st => blOf (tabIn t_MOST (eVar 0) env st)) (retM (callP m_is_between [eVar 1, eC (.int 1), tabIx t_MOST (eVar 0)])) (nxM))
    (retM (callP m_is_name [eVar 1])))
def m_is_part : List T → Rp := defP 2 (b_is_part)
def c_is_statement_1 : Mi.Env → Sto → Res D :=
  lcM [2, 3] (zipOf [eVar 1, sliceM (eVar 0) (oSome (eC (.int 1))) (oNone)]) (gT 2 (gsCons (gN 2) (gsCons (gN 3) (gsNil)))) (yesM) (callP m_is_part [eVar 2, eVar 3])
def b_is_statement : Mi.Env → Sto → Out :=
  seqM (ifM (orM (notM (truM (callB isiB [eVar 0, eC (.ty "tuple")]))) (notM (truM (eVar 0)))) (retM (eC (.bl false))) (nxM))
    (seqM (ifM (orM (notM (truM (callB isiB [bin ixM (eVar 0) (eC (.int 0)), eC (.ty "str")]))) (fun env st => blOf (tabNotIn t_FORMS (bin ixM (eVar 0) (eC (.int 0))) env st))) (retM (eC (.bl false))) (nxM))
    (seqM (setM 1 (tabIx t_FORMS (bin ixM (eVar 0) (eC (.int 0)))))
    (seqM (ifM (fun env st => blOf (bin neM (callB lenB [eVar 0]) (bin addM (eC (.int 1)) (callB lenB [eVar 1])) env st)) (retM (eC (.bl false))) (nxM))
    (retM (callB allB [c_is_statement_1])))))
def m_is_statement : List T → Rp := defP 4 (b_is_statement)
def c_inner_bodies_1 : Mi.Env → Sto → Res D :=
  lcM [2, 3] (zipOf [eVar 1, sliceM (eVar 0) (oSome (eC (.int 1))) (oNone)]) (gT 2 (gsCons (gN 2) (gsCons (gN 3) (gsNil)))) (fun env st => blOf (bin eqM (eVar 2) (eC (.str "body")) env st)) (eVar 3)
def b_inner_bodies : Mi.Env → Sto → Out :=
  seqM (setM 1 (tabIx t_FORMS (bin ixM (eVar 0) (eC (.int 0)))))
    (retM (c_inner_bodies_1))
def m_inner_bodies : List T → Rp := defP 4 (b_inner_bodies)
def c_all_statements_1 : Mi.Env → Sto → Res D :=
  lcM [6] (anyOf (callP m_inner_bodies [eVar 3])) (gN 6) (yesM) (tupM [eVar 6, bin addM (eVar 5) (eC (.int 1))])
def l_all_statements_2 : Mi.Env → Sto → Out :=
  forM' (anyOf (eVar 4)) (gN 3)
    (seqM (ifM (notM (truM (callP m_is_statement [eVar 3]))) (retM (eC .non)) (nxM))
    (seqM (dropM (methM "list" appG (eVar 1) [eVar 3]))
    (dropM (methM "list" extG (eVar 2) [c_all_statements_1]))))
def l_all_statements_3 : Mi.Env → Sto → Out :=
  whileI (truM (eVar 2))
    (seqM (asgM (methM "list" popG (eVar 2) []) (gT 2 (gsCons (gN 4) (gsCons (gN 5) (gsNil)))))
    (seqM (ifM (orM (notM (truM (callB isiB [eVar 4, eC (.ty "tuple")]))) (fun env st => blOf (bin gtM (eVar 5) (eC c_MOST_LEVELS) env st))) (retM (eC .non)) (nxM))
    (seqM (ifM (fun env st => blOf (bin gtM (bin addM (callB lenB [eVar 1]) (callB lenB [eVar 4])) (eC c_MOST_STATEMENTS) env st)) (retM (eC .non)) (nxM))
    (l_all_statements_2)))) 200
def b_all_statements : Mi.Env → Sto → Out :=
  seqM (setM 1 (newM []))
    (seqM (setM 2 (newM [tupM [eVar 0, eC (.int 1)]]))
    (seqM (l_all_statements_3)
    (retM (eVar 1))))
def m_all_statements : List T → Rp := defP 7 (b_all_statements)
def l_tick_bounds_1 (r_tick_bounds : List T → Rp) (r_statement_bounds : List T → Rp) : Mi.Env → Sto → Out :=
  forM' (anyOf (eVar 0)) (gN 3)
    (seqM (asgM (callP r_statement_bounds [eVar 3]) (gT 2 (gsCons (gN 4) (gsCons (gN 5) (gsNil)))))
    (seqM (augM 1 iaddM (eVar 4))
    (augM 2 iaddM (eVar 5))))
def b_tick_bounds (r_tick_bounds : List T → Rp) (r_statement_bounds : List T → Rp) : Mi.Env → Sto → Out :=
  seqM (setM 1 (eC (.int 0)))
    (seqM (setM 2 (eC (.int 0)))
    (seqM (l_tick_bounds_1 r_tick_bounds r_statement_bounds)
    (retM (tupM [eVar 1, eVar 2]))))
def c_statement_bounds_1 (r_tick_bounds : List T → Rp) (r_statement_bounds : List T → Rp) : Mi.Env → Sto → Res D :=
  lcM [2] (anyOf (callP m_inner_bodies [eVar 0])) (gN 2) (yesM) (callP r_tick_bounds [eVar 2])
def c_statement_bounds_2 (r_tick_bounds : List T → Rp) (r_statement_bounds : List T → Rp) : Mi.Env → Sto → Res D :=
  lcM [3, 4] (anyOf (eVar 1)) (gT 2 (gsCons (gN 3) (gsCons (gN 4) (gsNil)))) (yesM) (eVar 3)
def c_statement_bounds_3 (r_tick_bounds : List T → Rp) (r_statement_bounds : List T → Rp) : Mi.Env → Sto → Res D :=
  lcM [3, 4] (anyOf (eVar 1)) (gT 2 (gsCons (gN 3) (gsCons (gN 4) (gsNil)))) (yesM) (eVar 4)
def b_statement_bounds (r_tick_bounds : List T → Rp) (r_statement_bounds : List T → Rp) : Mi.Env → Sto → Out :=
  seqM (ifM (fun env st => blOf (bin eqM (bin ixM (eVar 0) (eC (.int 0))) (eC (.str "run")) env st)) (retM (tupM [bin ixM (eVar 0) (eC (.int 1)), bin ixM (eVar 0) (eC (.int 1))])) (nxM))
    (seqM (setM 1 (c_statement_bounds_1 r_tick_bounds r_statement_bounds))
    (seqM (ifM (notM (truM (eVar 1))) (retM (tupM [eC (.int 0), eC (.int 0)])) (nxM))
    (seqM (ifM (fun env st => blOf (bin eqM (bin ixM (eVar 0) (eC (.int 0))) (eC (.str "loop")) env st)) (retM (tupM [eC (.int 0), bin mulA (bin ixM (eVar 0) (eC (.int 1))) (bin ixM (bin ixM (eVar 1) (eC (.int 0))) (eC (.int 1)))])) (nxM))
    (retM (tupM [callB minB [c_statement_bounds_2 r_tick_bounds r_statement_bounds], callB maxB [c_statement_bounds_3 r_tick_bounds r_statement_bounds]])))))
def g_tick_bounds : Nat → (List T → Rp) × (List T → Rp)
  | 0 => (fun _ => .bad, fun _ => .bad)
  | n + 1 => (defP 6 (b_tick_bounds ((g_tick_bounds n).1) ((g_tick_bounds n).2)), defP 5 (b_statement_bounds ((g_tick_bounds n).1) ((g_tick_bounds n).2)))
def b_uses_ticks : Mi.Env → Sto → Out :=
  retM (bin geM (bin ixM (callP ((g_tick_bounds 12).1) [eVar 0]) (eC (.int 0))) (eC (.int 1)))
def m_uses_ticks : List T → Rp := defP 1 (b_uses_ticks)
def c_is_body_1 : Mi.Env → Sto → Res D :=
  lcM [4] (anyOf (eVar 1)) (gN 4) (fun env st => blOf (bin inM (bin ixM (eVar 4) (eC (.int 0))) (tupM [eC (.str "either"), eC (.str "loop")]) env st)) (eVar 4)
def c_is_body_2 : Mi.Env → Sto → Res D :=
  lcM [4] (anyOf (eVar 1)) (gN 4) (fun env st => blOf (bin eqM (bin ixM (eVar 4) (eC (.int 0))) (eC (.str "loop")) env st)) (bin ixM (eVar 4) (eC (.int 2)))
def c_is_body_3 : Mi.Env → Sto → Res D :=
  lcM [5] (anyOf (eVar 3)) (gN 5) (yesM) (callP m_uses_ticks [eVar 5])
def b_is_body : Mi.Env → Sto → Out :=
  seqM (setM 1 (callP m_all_statements [eVar 0]))
    (seqM (ifM (fun env st => blOf (bin isM (eVar 1) (eC .non) env st)) (retM (eC (.bl false))) (nxM))
    (seqM (setM 2 (c_is_body_1))
    (seqM (setM 3 (c_is_body_2))
    (retM (andV (bin leM (callB lenB [eVar 2]) (eC c_MOST_BRANCHES)) (callB allB [c_is_body_3]))))))
def m_is_body : List T → Rp := defP 6 (b_is_body)
def b_least_ticks (xc : XC) : Mi.Env → Sto → Out :=
  seqM (ifM (notM (truM (callP m_is_body [eVar 0]))) (raiseM xc.InvalidBody "value" (eVar 0)) (nxM))
    (retM (bin ixM (callP ((g_tick_bounds 12).1) [eVar 0]) (eC (.int 0))))
def m_least_ticks (xc : XC) : List T → Rp := defP 1 (b_least_ticks xc)
def b_most_ticks (xc : XC) : Mi.Env → Sto → Out :=
  seqM (ifM (notM (truM (callP m_is_body [eVar 0]))) (raiseM xc.InvalidBody "value" (eVar 0)) (nxM))
    (retM (bin ixM (callP ((g_tick_bounds 12).1) [eVar 0]) (eC (.int 1))))
def m_most_ticks (xc : XC) : List T → Rp := defP 1 (b_most_ticks xc)
def b_law_pool : Mi.Env → Sto → Out :=
  seqM (setM 2 (eC (.int 0)))
    (seqM (ifM (fun env st => blOf (bin ltM (eVar 1) (callB lenB [eVar 0]) env st)) (setM 2 (callB absB [bin ixM (eVar 0) (eVar 1)])) (nxM))
    (seqM (setM 3 (bin modM (callB intB [bin mulA (bin addM (bin addM (bin addM (bin modM (callB intB [eVar 2]) (eC (.int 2147483629))) (bin mulA (bin mulA (eC (.int 7919)) (eVar 1)) (eVar 1))) (bin mulA (eC (.int 31)) (eVar 1))) (eC (.int 17))) (eC (.int 48271))]) (eC (.int 2147483647))))
    (retM (newM [bin mulA (eVar 2) (callB intB [bin geM (eVar 2) (bin powM (eC (.int 10)) (eC (.int 18)))]), bin modM (callB intB [bin mulA (eVar 3) (eVar 3)]) (eC (.int 2147483629))]))))
def m_law_pool : List D → Sto → Res D := defG 4 (b_law_pool)
def b_law_take : Mi.Env → Sto → Out :=
  seqM (ifM (fun env st => blOf (bin gtM (bin ixM (eVar 0) (eC (.int 0))) (eC (.int 0)) env st)) (seqM (setM 2 (bin modM (callB intB [bin ixM (eVar 0) (eC (.int 0))]) (eVar 1)))
    (seqM (setItM (eVar 0) (eC (.int 0)) (bin fdivM (callB intB [bin ixM (eVar 0) (eC (.int 0))]) (eVar 1)))
    (retM (eVar 2)))) (nxM))
    (seqM (setItM (eVar 0) (eC (.int 1)) (bin modM (callB intB [bin addM (bin mulA (bin ixM (eVar 0) (eC (.int 1))) (eC (.int 48271))) (eC (.int 12345))]) (eC (.int 2147483647))))
    (retM (bin modM (callB intB [bin fdivM (bin modM (callB intB [bin mulA (bin ixM (eVar 0) (eC (.int 1))) (bin ixM (eVar 0) (eC (.int 1)))]) (eC (.int 2147483629))) (eC (.int 64))]) (eVar 1))))
def m_law_take : List D → Sto → Res D := defG 3 (b_law_take)
def b_law_line (r_law_line : List D → Sto → Res D) (r_law_lines : List D → Sto → Res D) : Mi.Env → Sto → Out :=
  seqM (parM 7 8 [callG m_law_take [eVar 0, eC (.int 11)], bin ixM (eVar 1) (callG m_law_take [eVar 0, callB lenB [eVar 1]])])
    (seqM (ifM (fun env st => blOf (bin ltM (eVar 7) (eC (.int 4)) env st)) (retM (tupM [eC (.str "run"), bin ixM (lstM [eC (.int 1), eC (.int 1), eC (.int 2), eC (.int 3)]) (eVar 7)])) (nxM))
    (seqM (ifM (fun env st => blOf (bin eqM (eVar 7) (eC (.int 4)) env st)) (retM (bin ixM (lstM [tupM [eC (.str "mask"), bin addM (eC (.int 1)) (callG m_law_take [eVar 0, eC (.int 9)])], tupM [eC (.str "unmask")]]) (callG m_law_take [eVar 0, eC (.int 2)]))) (nxM))
    (seqM (ifM (fun env st => blOf (bin eqM (eVar 7) (eC (.int 5)) env st)) (retM (bin ixM (lstM [tupM [eC (.str "raise"), eVar 8], tupM [eC (.str "arm"), eVar 8, bin addM (eC (.int 1)) (callG m_law_take [eVar 0, eC (.int 4)])], tupM [eC (.str "answer"), eVar 8]]) (callG m_law_take [eVar 0, eC (.int 3)]))) (nxM))
    (seqM (ifM (andM (fun env st => blOf (bin eqM (eVar 7) (eC (.int 6)) env st)) (fun env st => blOf (bin neM (eVar 2) (lstM []) env st))) (retM (tupM [eC (.str "post"), bin ixM (eVar 2) (callG m_law_take [eVar 0, callB lenB [eVar 2]])])) (nxM))
    (seqM (ifM (andM (fun env st => blOf (bin eqM (eVar 7) (eC (.int 7)) env st)) (fun env st => blOf (bin neM (eVar 3) (lstM []) env st))) (retM (tupM [bin ixM (lstM [eC (.str "add"), eC (.str "take")]) (callG m_law_take [eVar 0, eC (.int 2)]), bin ixM (eVar 3) (callG m_law_take [eVar 0, callB lenB [eVar 3]])])) (nxM))
    (seqM (ifM (orM (fun env st => blOf (bin gtM (eVar 4) (eC (.int 2)) env st)) (fun env st => blOf (bin ltM (eVar 7) (eC (.int 8)) env st))) (retM (tupM [eC (.str "answer"), eVar 8])) (nxM))
    (seqM (setM 5 (callG r_law_lines [eVar 0, eVar 1, eVar 2, eVar 3, bin addM (eVar 4) (eC (.int 1)), eC (.int 3)]))
    (seqM (setM 6 (callG r_law_lines [eVar 0, eVar 1, eVar 2, eVar 3, bin addM (eVar 4) (eC (.int 1)), eC (.int 2)]))
    (seqM (ifM (fun env st => blOf (bin eqM (eVar 7) (eC (.int 8)) env st)) (retM (tupM [eC (.str "either"), eVar 5, eVar 6])) (nxM))
    (seqM (ifM (andM (fun env st => blOf (bin eqM (eVar 7) (eC (.int 9)) env st)) (fun env st => blOf (bin neM (eVar 3) (lstM []) env st))) (retM (tupM [eC (.str "when"), bin ixM (eVar 3) (callG m_law_take [eVar 0, callB lenB [eVar 3]]), eVar 5, eVar 6])) (nxM))
    (retM (tupM [eC (.str "loop"), bin addM (eC (.int 1)) (callG m_law_take [eVar 0, eC (.int 3)]), bin addM (tupM [tupM [eC (.str "run"), eC (.int 1)]]) (eVar 5)]))))))))))))
def l_law_lines_1 (r_law_line : List D → Sto → Res D) (r_law_lines : List D → Sto → Res D) : Mi.Env → Sto → Out :=
  forM' (rng1 [callG m_law_take [eVar 0, eVar 5]]) (gN 7)
    (dropM (methM "list" appG (eVar 6) [callG r_law_line [eVar 0, eVar 1, eVar 2, eVar 3, eVar 4]]))
def b_law_lines (r_law_line : List D → Sto → Res D) (r_law_lines : List D → Sto → Res D) : Mi.Env → Sto → Out :=
  seqM (setM 6 (newM []))
    (seqM (l_law_lines_1 r_law_line r_law_lines)
    (retM (callB tupB [eVar 6])))
def g_law_line : Nat → (List D → Sto → Res D) × (List D → Sto → Res D)
  | 0 => (fun _ _ => .bad, fun _ _ => .bad)
  | n + 1 => (defT 9 (b_law_line ((g_law_line n).1) ((g_law_line n).2)), defT 8 (b_law_lines ((g_law_line n).1) ((g_law_line n).2)))
def l_law_body_1 : Mi.Env → Sto → Out :=
  forM' (rng1 [eC (.int 20)]) (gN 5)
    (seqM (setM 6 (callG ((g_law_line 10).2) [eVar 0, eVar 1, eVar 2, eVar 3, eC (.int 1), eVar 4]))
    (seqM (setM 7 (methM "str" splitG (callB strB [eVar 6]) [eC (.str "'")]))
    (ifM (andM (fun env st => blOf (bin leM (callB lenB [methM "str" splitG (callB strB [eVar 6]) [eC (.str "('")]]) (eC (.int 24)) env st)) (fun env st => blOf (bin leM (bin addM (methM "list" countG (eVar 7) [eC (.str "either")]) (methM "list" countG (eVar 7) [eC (.str "loop")])) (eC (.int 6)) env st))) (retM (eVar 6)) (nxM))))
def b_law_body : Mi.Env → Sto → Out :=
  seqM (l_law_body_1)
    (retM (tupM [tupM [eC (.str "run"), eC (.int 2)]]))
def m_law_body : List D → Sto → Res D := defT 8 (b_law_body)
def c_law_is_name_1 : Mi.Env → Sto → Res D :=
  lcM [1] (anyOf (eVar 0)) (gN 1) (fun env st => blOf (bin notInM (eVar 1) (eC (.str "abcdefghijklmnopqrstuvwxyz")) env st)) (eVar 1)
def b_law_is_name : Mi.Env → Sto → Out :=
  seqM (ifM (orM (notM (truM (callB isiB [eVar 0, eC (.ty "str")]))) (notM (fun env st => blOf (chain leM leM (eC (.int 1)) (callB lenB [eVar 0]) (eC (.int 8)) env st)))) (retM (eC (.bl false))) (nxM))
    (retM (bin eqM (c_law_is_name_1) (lstM [])))
def m_law_is_name : List T → Rp := defP 2 (b_law_is_name)
def b_law_is_from : Mi.Env → Sto → Out :=
  retM (andV (callB isiB [eVar 0, eC (.ty "int")]) (andV (notV (callB isiB [eVar 0, eC (.ty "bool")])) (chain leM leM (eVar 1) (eVar 0) (eVar 2))))
def m_law_is_from : List T → Rp := defP 3 (b_law_is_from)
def b_law_inner : Mi.Env → Sto → Out :=
  seqM (ifM (fun env st => blOf (bin inM (bin ixM (eVar 0) (eC (.int 0))) (tupM [eC (.str "either"), eC (.str "when")]) env st)) (retM (lstM [bin ixM (eVar 0) (un negM (eC (.int 2))), bin ixM (eVar 0) (un negM (eC (.int 1)))])) (nxM))
    (retM (ifE (fun env st => blOf (bin eqM (bin ixM (eVar 0) (eC (.int 0))) (eC (.str "loop")) env st)) (lstM [bin ixM (eVar 0) (eC (.int 2))]) (lstM [])))
def m_law_inner : List T → Rp := defP 1 (b_law_inner)
def l_law_all_1 (r_law_all : List T → Rp) : Mi.Env → Sto → Out :=
  forM' (anyOf (callP m_law_inner [eVar 2])) (gN 3)
    (setM 1 (binN addN (eVar 1) (callP r_law_all [eVar 3])))
def l_law_all_2 (r_law_all : List T → Rp) : Mi.Env → Sto → Out :=
  forM' (anyOf (eVar 0)) (gN 2)
    (seqM (dropM (methM "list" appG (eVar 1) [eVar 2]))
    (l_law_all_1 r_law_all))
def b_law_all (r_law_all : List T → Rp) : Mi.Env → Sto → Out :=
  seqM (setM 1 (newM []))
    (seqM (l_law_all_2 r_law_all)
    (retM (eVar 1)))
def g_law_all : Nat → (List T → Rp)
  | 0 => (fun _ => .bad)
  | n + 1 => (defP 4 (b_law_all (g_law_all n)))
def c_law_ticks_1 (r_law_ticks : List T → Rp) : Mi.Env → Sto → Res D :=
  lcM [5] (anyOf (callP m_law_inner [eVar 1])) (gN 5) (yesM) (callP r_law_ticks [eVar 5])
def l_law_ticks_2 (r_law_ticks : List T → Rp) : Mi.Env → Sto → Out :=
  forM' (anyOf (eVar 0)) (gN 1)
    (seqM (setM 4 (c_law_ticks_1 r_law_ticks))
    (ifM (fun env st => blOf (bin eqM (bin ixM (eVar 1) (eC (.int 0))) (eC (.str "run")) env st)) (parM 2 3 [bin addM (eVar 2) (bin ixM (eVar 1) (eC (.int 1))), bin addM (eVar 3) (bin ixM (eVar 1) (eC (.int 1)))]) (ifM (fun env st => blOf (bin eqM (bin ixM (eVar 1) (eC (.int 0))) (eC (.str "loop")) env st)) (setM 3 (bin addM (eVar 3) (bin mulA (bin ixM (eVar 1) (eC (.int 1))) (bin ixM (bin ixM (eVar 4) (eC (.int 0))) (eC (.int 1)))))) (ifM (fun env st => blOf (bin neM (eVar 4) (lstM []) env st)) (seqM (setM 2 (bin addM (eVar 2) (callB minB [bin ixM (bin ixM (eVar 4) (eC (.int 0))) (eC (.int 0)), bin ixM (bin ixM (eVar 4) (eC (.int 1))) (eC (.int 0))])))
    (setM 3 (bin addM (eVar 3) (callB maxB [bin ixM (bin ixM (eVar 4) (eC (.int 0))) (eC (.int 1)), bin ixM (bin ixM (eVar 4) (eC (.int 1))) (eC (.int 1))])))) (nxM)))))
def b_law_ticks (r_law_ticks : List T → Rp) : Mi.Env → Sto → Out :=
  seqM (asgM (tupM [eC (.int 0), eC (.int 0)]) (gT 2 (gsCons (gN 2) (gsCons (gN 3) (gsNil)))))
    (seqM (l_law_ticks_2 r_law_ticks)
    (retM (tupM [eVar 2, eVar 3])))
def g_law_ticks : Nat → (List T → Rp)
  | 0 => (fun _ => .bad)
  | n + 1 => (defP 6 (b_law_ticks (g_law_ticks n)))
def b_law_is_line (r_law_is_line : List T → Rp) (r_law_right : List T → Rp) : Mi.Env → Sto → Out :=
  seqM (ifM (orM (notM (truM (callB isiB [eVar 0, eC (.ty "tuple")]))) (orM (fun env st => blOf (bin eqM (eVar 0) (tupM []) env st)) (notM (truM (callB isiB [bin ixM (eVar 0) (eC (.int 0)), eC (.ty "str")]))))) (retM (eC (.bl false))) (nxM))
    (seqM (parM 2 3 [bin ixM (eVar 0) (eC (.int 0)), callB lenB [eVar 0]])
    (seqM (ifM (fun env st => blOf (bin inM (eVar 2) (tupM [eC (.str "run"), eC (.str "mask")]) env st)) (retM (andV (bin eqM (eVar 3) (eC (.int 2))) (callP m_law_is_from [bin ixM (eVar 0) (eC (.int 1)), eC (.int 1), ifE (fun env st => blOf (bin eqM (eVar 2) (eC (.str "run")) env st)) (eC (.int 20)) (eC (.int 9))]))) (nxM))
    (seqM (ifM (fun env st => blOf (bin eqM (eVar 2) (eC (.str "unmask")) env st)) (retM (bin eqM (eVar 3) (eC (.int 1)))) (nxM))
    (seqM (ifM (fun env st => blOf (bin inM (eVar 2) (tupM [eC (.str "answer"), eC (.str "raise"), eC (.str "post"), eC (.str "add"), eC (.str "take")]) env st)) (retM (andV (bin eqM (eVar 3) (eC (.int 2))) (callP m_law_is_name [bin ixM (eVar 0) (eC (.int 1))]))) (nxM))
    (seqM (ifM (fun env st => blOf (bin eqM (eVar 2) (eC (.str "arm")) env st)) (retM (andV (bin eqM (eVar 3) (eC (.int 3))) (andV (callP m_law_is_name [bin ixM (eVar 0) (eC (.int 1))]) (callP m_law_is_from [bin ixM (eVar 0) (eC (.int 2)), eC (.int 1), eC (.int 50)])))) (nxM))
    (seqM (ifM (fun env st => blOf (bin eqM (eVar 2) (eC (.str "loop")) env st)) (seqM (ifM (orM (fun env st => blOf (bin neM (eVar 3) (eC (.int 3)) env st)) (notM (truM (callP m_law_is_from [bin ixM (eVar 0) (eC (.int 1)), eC (.int 1), eC (.int 5)])))) (retM (eC (.bl false))) (nxM))
    (retM (andV (callP r_law_right [bin ixM (eVar 0) (eC (.int 2)), bin addM (eVar 1) (eC (.int 1))]) (bin gtM (bin ixM (callP (g_law_ticks 6) [bin ixM (eVar 0) (eC (.int 2))]) (eC (.int 0))) (eC (.int 0)))))) (nxM))
    (seqM (ifM (orM (andM (fun env st => blOf (bin eqM (eVar 2) (eC (.str "when")) env st)) (notM (andM (fun env st => blOf (bin eqM (eVar 3) (eC (.int 4)) env st)) (truM (callP m_law_is_name [bin ixM (eVar 0) (eC (.int 1))]))))) (andM (fun env st => blOf (bin eqM (eVar 2) (eC (.str "either")) env st)) (fun env st => blOf (bin neM (eVar 3) (eC (.int 3)) env st)))) (retM (eC (.bl false))) (nxM))
    (retM (andV (bin inM (eVar 2) (tupM [eC (.str "when"), eC (.str "either")])) (andV (callP r_law_right [bin ixM (eVar 0) (un negM (eC (.int 2))), bin addM (eVar 1) (eC (.int 1))]) (callP r_law_right [bin ixM (eVar 0) (un negM (eC (.int 1))), bin addM (eVar 1) (eC (.int 1))])))))))))))
def c_law_right_1 (r_law_is_line : List T → Rp) (r_law_right : List T → Rp) : Mi.Env → Sto → Res D :=
  lcM [2] (anyOf (eVar 0)) (gN 2) (notM (truM (callP r_law_is_line [eVar 2, eVar 1]))) (eVar 2)
def b_law_right (r_law_is_line : List T → Rp) (r_law_right : List T → Rp) : Mi.Env → Sto → Out :=
  retM (andV (callB isiB [eVar 0, eC (.ty "tuple")]) (andV (bin leM (eVar 1) (eC (.int 4))) (bin eqM (c_law_right_1 r_law_is_line r_law_right) (lstM []))))
def g_law_is_line : Nat → (List T → Rp) × (List T → Rp)
  | 0 => (fun _ => .bad, fun _ => .bad)
  | n + 1 => (defP 4 (b_law_is_line ((g_law_is_line n).1) ((g_law_is_line n).2)), defP 3 (b_law_right ((g_law_is_line n).1) ((g_law_is_line n).2)))
def c_law_is_body_1 : Mi.Env → Sto → Res D :=
  lcM [2] (anyOf (callP (g_law_all 6) [eVar 0])) (gN 2) (yesM) (bin ixM (eVar 2) (eC (.int 0)))
def b_law_is_body : Mi.Env → Sto → Out :=
  seqM (ifM (notM (truM (callP ((g_law_is_line 12).2) [eVar 0, eC (.int 1)]))) (retM (eC (.bl false))) (nxM))
    (seqM (setM 1 (c_law_is_body_1))
    (retM (andV (bin leM (callB lenB [eVar 1]) (eC (.int 40))) (bin leM (bin addM (methM "list" countG (eVar 1) [eC (.str "either")]) (methM "list" countG (eVar 1) [eC (.str "loop")])) (eC (.int 6))))))
def m_law_is_body : List T → Rp := defP 3 (b_law_is_body)
def l_law_refused_1 (xc : XC) : Mi.Env → Sto → Out :=
  forM' (rng1 [eC (.int 2)]) (gN 2)
    (tryAs 3 (fun C => lkB C [(xc.InvalidBody, true)]) (seqM (ifM (fun env st => blOf (bin eqM (eVar 2) (eC (.int 0)) env st)) (dropM (callP (m_least_ticks xc) [eVar 0])) (dropM (callP (m_most_ticks xc) [eVar 0])))
    (dropM (methM "list" appG (eVar 1) [eC (.bl false)])))
    (fun a0 o0 C0 => dropM (methM "list" appG (eVar 1) [andV (callB (isXB a0 o0 C0 (kt1 xc.RunError [(xc.InvalidBody, true)])) [eVar 3, eC (.glb xc.RunError)]) (bin eqM (callB reprB [xfM a0 o0 C0 "value" (eVar 3)]) (callB reprB [eVar 0]))])))
def b_law_refused (xc : XC) : Mi.Env → Sto → Out :=
  seqM (setM 1 (newM []))
    (seqM (l_law_refused_1 xc)
    (retM (bin eqM (eVar 1) (lstM [eC (.bl true), eC (.bl true)]))))
def m_law_refused (xc : XC) : List T → Rp := defP 4 (b_law_refused xc)
def l_law_1 (xc : XC) : Mi.Env → Sto → Out :=
  forM' (anyOf (lstM [eC .non, lstM [], tupM [tupM [eC (.str "run"), eC (.int 0)]], tupM [tupM [eC (.str "loop"), eC (.int 2), tupM []]], tupM [eC (.str "run"), eC (.int 1)], eC (.int 0), eC (.str ""), tupM [tupM []], tupM [tupM [eC (.str "run"), eC (.bl true)]]])) (gN 2)
    (ifM (notM (truM (callP (m_law_refused xc) [eVar 2]))) (retM (eC (.bl false))) (nxM))
def l_law_2 (xc : XC) : Mi.Env → Sto → Out :=
  forM' (anyOf (lstM [eVar 5, sliceM (eVar 5) (oNone) (oSome (eC (.int 2))), tupM [tupM [eC (.str "either"), sliceM (eVar 5) (oNone) (oSome (eC (.int 1))), tupM [tupM [eC (.str "run"), eC (.int 3)]]]], tupM [tupM [eC (.str "when"), eC (.str "n"), sliceM (eVar 5) (oNone) (oSome (eC (.int 2))), tupM []]]])) (gN 6)
    (ifM (andM (truM (callP m_law_is_body [eVar 6])) (fun env st => blOf (bin neM (tupM [callP (m_least_ticks xc) [eVar 6], callP (m_most_ticks xc) [eVar 6]]) (callP (g_law_ticks 6) [eVar 6]) env st))) (retM (eC (.bl false))) (nxM))
def l_law_3 (xc : XC) : Mi.Env → Sto → Out :=
  forM' (rng1 [callB maxB [eC (.int 1), callB minB [eC (.int 30), callB lenB [eVar 0]]]]) (gN 3)
    (seqM (setM 4 (callG m_law_pool [eVar 0, eVar 3]))
    (seqM (setM 5 (callG m_law_body [eVar 4, lstM [eC (.str "a"), eC (.str "b")], lstM [eC (.str "t")], lstM [eC (.str "n")], eC (.int 7)]))
    (l_law_2 xc)))
def b_law (xc : XC) : Mi.Env → Sto → Out :=
  seqM (setM 1 (tupM [tupM [eC (.str "loop"), eC (.int 5), tupM [tupM [eC (.str "loop"), eC (.int 5), tupM [tupM [eC (.str "run"), eC (.int 20)]]], tupM [eC (.str "run"), eC (.int 1)]]]]))
    (seqM (ifM (fun env st => blOf (bin neM (lstM [callP (m_least_ticks xc) [eVar 1], callP (m_most_ticks xc) [eVar 1], callP (m_least_ticks xc) [tupM []], callP (m_most_ticks xc) [tupM []]]) (lstM [eC (.int 0), eC (.int 505), eC (.int 0), eC (.int 0)]) env st)) (retM (eC (.bl false))) (nxM))
    (seqM (l_law_1 xc)
    (seqM (l_law_3 xc)
    (retM (eC (.bl true))))))
def m_law (xc : XC) : List D → Sto → Res D := defG 7 (b_law xc)
structure FA (w : World) (K : PySem.W.Frag) (mg : Str → Option Value) where
  f_is_integer : Addr
  d_is_integer : FuncData
  F_is_integer : Fun K "is_integer" "is_integer" s_is_integer f_is_integer d_is_integer
  a_is_integer : mg "is_integer" = some (.ref f_is_integer)
  h_is_integer : PySem.W.keepIn K (.ref f_is_integer) = true
  b_is_integer : Binds K d_is_integer ["value"] []
  f_is_between : Addr
  d_is_between : FuncData
  F_is_between : Fun K "is_between" "is_between" s_is_between f_is_between d_is_between
  a_is_between : mg "is_between" = some (.ref f_is_between)
  h_is_between : PySem.W.keepIn K (.ref f_is_between) = true
  b_is_between : Binds K d_is_between ["value", "least", "most"] []
  f_is_name : Addr
  d_is_name : FuncData
  F_is_name : Fun K "is_name" "is_name" s_is_name f_is_name d_is_name
  a_is_name : mg "is_name" = some (.ref f_is_name)
  h_is_name : PySem.W.keepIn K (.ref f_is_name) = true
  b_is_name : Binds K d_is_name ["value"] []
  f_is_statement : Addr
  d_is_statement : FuncData
  F_is_statement : Fun K "is_statement" "is_statement" s_is_statement f_is_statement d_is_statement
  a_is_statement : mg "is_statement" = some (.ref f_is_statement)
  h_is_statement : PySem.W.keepIn K (.ref f_is_statement) = true
  b_is_statement : Binds K d_is_statement ["value"] []
  f_is_part : Addr
  d_is_part : FuncData
  F_is_part : Fun K "is_part" "is_part" s_is_part f_is_part d_is_part
  a_is_part : mg "is_part" = some (.ref f_is_part)
  h_is_part : PySem.W.keepIn K (.ref f_is_part) = true
  b_is_part : Binds K d_is_part ["form", "value"] []
  f_inner_bodies : Addr
  d_inner_bodies : FuncData
  F_inner_bodies : Fun K "inner_bodies" "inner_bodies" s_inner_bodies f_inner_bodies d_inner_bodies
  a_inner_bodies : mg "inner_bodies" = some (.ref f_inner_bodies)
  h_inner_bodies : PySem.W.keepIn K (.ref f_inner_bodies) = true
  b_inner_bodies : Binds K d_inner_bodies ["statement"] []
  f_all_statements : Addr
  d_all_statements : FuncData
  F_all_statements : Fun K "all_statements" "all_statements" s_all_statements f_all_statements d_all_statements
  a_all_statements : mg "all_statements" = some (.ref f_all_statements)
  h_all_statements : PySem.W.keepIn K (.ref f_all_statements) = true
  b_all_statements : Binds K d_all_statements ["value"] []
  f_tick_bounds : Addr
  d_tick_bounds : FuncData
  F_tick_bounds : Fun K "tick_bounds" "tick_bounds" s_tick_bounds f_tick_bounds d_tick_bounds
  a_tick_bounds : mg "tick_bounds" = some (.ref f_tick_bounds)
  h_tick_bounds : PySem.W.keepIn K (.ref f_tick_bounds) = true
  b_tick_bounds : Binds K d_tick_bounds ["body"] []
  f_statement_bounds : Addr
  d_statement_bounds : FuncData
  F_statement_bounds : Fun K "statement_bounds" "statement_bounds" s_statement_bounds f_statement_bounds d_statement_bounds
  a_statement_bounds : mg "statement_bounds" = some (.ref f_statement_bounds)
  h_statement_bounds : PySem.W.keepIn K (.ref f_statement_bounds) = true
  b_statement_bounds : Binds K d_statement_bounds ["statement"] []
  f_is_body : Addr
  d_is_body : FuncData
  F_is_body : Fun K "is_body" "is_body" s_is_body f_is_body d_is_body
  a_is_body : mg "is_body" = some (.ref f_is_body)
  h_is_body : PySem.W.keepIn K (.ref f_is_body) = true
  b_is_body : Binds K d_is_body ["value"] []
  f_least_ticks : Addr
  d_least_ticks : FuncData
  F_least_ticks : Fun K "least_ticks" "least_ticks" s_least_ticks f_least_ticks d_least_ticks
  a_least_ticks : mg "least_ticks" = some (.ref f_least_ticks)
  h_least_ticks : PySem.W.keepIn K (.ref f_least_ticks) = true
  b_least_ticks : Binds K d_least_ticks ["body"] []
  f_most_ticks : Addr
  d_most_ticks : FuncData
  F_most_ticks : Fun K "most_ticks" "most_ticks" s_most_ticks f_most_ticks d_most_ticks
  a_most_ticks : mg "most_ticks" = some (.ref f_most_ticks)
  h_most_ticks : PySem.W.keepIn K (.ref f_most_ticks) = true
  b_most_ticks : Binds K d_most_ticks ["body"] []
  f_uses_ticks : Addr
  d_uses_ticks : FuncData
  F_uses_ticks : Fun K "uses_ticks" "uses_ticks" s_uses_ticks f_uses_ticks d_uses_ticks
  a_uses_ticks : mg "uses_ticks" = some (.ref f_uses_ticks)
  h_uses_ticks : PySem.W.keepIn K (.ref f_uses_ticks) = true
  b_uses_ticks : Binds K d_uses_ticks ["body"] []
  f_law_pool : Addr
  d_law_pool : FuncData
  F_law_pool : Fun K "_law_pool" "_law_pool" s_law_pool f_law_pool d_law_pool
  a_law_pool : mg "_law_pool" = some (.ref f_law_pool)
  h_law_pool : PySem.W.keepIn K (.ref f_law_pool) = true
  b_law_pool : Binds K d_law_pool ["_law_script", "_law_k"] []
  f_law_take : Addr
  d_law_take : FuncData
  F_law_take : Fun K "_law_take" "_law_take" s_law_take f_law_take d_law_take
  a_law_take : mg "_law_take" = some (.ref f_law_take)
  h_law_take : PySem.W.keepIn K (.ref f_law_take) = true
  b_law_take : Binds K d_law_take ["_law_pool_here", "_law_many"] []
  f_law_line : Addr
  d_law_line : FuncData
  F_law_line : Fun K "_law_line" "_law_line" s_law_line f_law_line d_law_line
  a_law_line : mg "_law_line" = some (.ref f_law_line)
  h_law_line : PySem.W.keepIn K (.ref f_law_line) = true
  b_law_line : Binds K d_law_line ["_law_pool_here", "_law_sources", "_law_jobs", "_law_cells", "_law_depth"] []
  f_law_lines : Addr
  d_law_lines : FuncData
  F_law_lines : Fun K "_law_lines" "_law_lines" s_law_lines f_law_lines d_law_lines
  a_law_lines : mg "_law_lines" = some (.ref f_law_lines)
  h_law_lines : PySem.W.keepIn K (.ref f_law_lines) = true
  b_law_lines : Binds K d_law_lines ["_law_pool_here", "_law_sources", "_law_jobs", "_law_cells", "_law_depth", "_law_most"] []
  f_law_body : Addr
  d_law_body : FuncData
  F_law_body : Fun K "_law_body" "_law_body" s_law_body f_law_body d_law_body
  a_law_body : mg "_law_body" = some (.ref f_law_body)
  h_law_body : PySem.W.keepIn K (.ref f_law_body) = true
  b_law_body : Binds K d_law_body ["_law_pool_here", "_law_sources", "_law_jobs", "_law_cells", "_law_most"] []
  f_law_is_name : Addr
  d_law_is_name : FuncData
  F_law_is_name : Fun K "_law_is_name" "_law_is_name" s_law_is_name f_law_is_name d_law_is_name
  a_law_is_name : mg "_law_is_name" = some (.ref f_law_is_name)
  h_law_is_name : PySem.W.keepIn K (.ref f_law_is_name) = true
  b_law_is_name : Binds K d_law_is_name ["_law_value"] []
  f_law_is_from : Addr
  d_law_is_from : FuncData
  F_law_is_from : Fun K "_law_is_from" "_law_is_from" s_law_is_from f_law_is_from d_law_is_from
  a_law_is_from : mg "_law_is_from" = some (.ref f_law_is_from)
  h_law_is_from : PySem.W.keepIn K (.ref f_law_is_from) = true
  b_law_is_from : Binds K d_law_is_from ["_law_value", "_law_low", "_law_high"] []
  f_law_inner : Addr
  d_law_inner : FuncData
  F_law_inner : Fun K "_law_inner" "_law_inner" s_law_inner f_law_inner d_law_inner
  a_law_inner : mg "_law_inner" = some (.ref f_law_inner)
  h_law_inner : PySem.W.keepIn K (.ref f_law_inner) = true
  b_law_inner : Binds K d_law_inner ["_law_line_here"] []
  f_law_is_line : Addr
  d_law_is_line : FuncData
  F_law_is_line : Fun K "_law_is_line" "_law_is_line" s_law_is_line f_law_is_line d_law_is_line
  a_law_is_line : mg "_law_is_line" = some (.ref f_law_is_line)
  h_law_is_line : PySem.W.keepIn K (.ref f_law_is_line) = true
  b_law_is_line : Binds K d_law_is_line ["_law_line_here", "_law_depth"] []
  f_law_right : Addr
  d_law_right : FuncData
  F_law_right : Fun K "_law_right" "_law_right" s_law_right f_law_right d_law_right
  a_law_right : mg "_law_right" = some (.ref f_law_right)
  h_law_right : PySem.W.keepIn K (.ref f_law_right) = true
  b_law_right : Binds K d_law_right ["_law_value", "_law_depth"] []
  f_law_all : Addr
  d_law_all : FuncData
  F_law_all : Fun K "_law_all" "_law_all" s_law_all f_law_all d_law_all
  a_law_all : mg "_law_all" = some (.ref f_law_all)
  h_law_all : PySem.W.keepIn K (.ref f_law_all) = true
  b_law_all : Binds K d_law_all ["_law_body_here"] []
  f_law_is_body : Addr
  d_law_is_body : FuncData
  F_law_is_body : Fun K "_law_is_body" "_law_is_body" s_law_is_body f_law_is_body d_law_is_body
  a_law_is_body : mg "_law_is_body" = some (.ref f_law_is_body)
  h_law_is_body : PySem.W.keepIn K (.ref f_law_is_body) = true
  b_law_is_body : Binds K d_law_is_body ["_law_value"] []
  f_law_ticks : Addr
  d_law_ticks : FuncData
  F_law_ticks : Fun K "_law_ticks" "_law_ticks" s_law_ticks f_law_ticks d_law_ticks
  a_law_ticks : mg "_law_ticks" = some (.ref f_law_ticks)
  h_law_ticks : PySem.W.keepIn K (.ref f_law_ticks) = true
  b_law_ticks : Binds K d_law_ticks ["_law_body_here"] []
  f_law_refused : Addr
  d_law_refused : FuncData
  F_law_refused : Fun K "_law_refused" "_law_refused" s_law_refused f_law_refused d_law_refused
  a_law_refused : mg "_law_refused" = some (.ref f_law_refused)
  h_law_refused : PySem.W.keepIn K (.ref f_law_refused) = true
  b_law_refused : Binds K d_law_refused ["_law_value"] []
  f_law : Addr
  d_law : FuncData
  F_law : Fun K "law" "law" s_law f_law d_law
  a_law : mg "law" = some (.ref f_law)
  h_law : PySem.W.keepIn K (.ref f_law) = true
  b_law : Binds K d_law ["_law_script"] []
  xc : XC
  xa_InvalidBody : mg "InvalidBody" = some (.ref xc.InvalidBody)
  xa_RunError : mg "RunError" = some (.ref xc.RunError)
  xs_InvalidBody : XCls K xc.InvalidBody "value"
  fi_InvalidBody : Addr
  di_InvalidBody : FuncData
  Fi_InvalidBody : Fun K "__init__" "InvalidBody.__init__" s_init_InvalidBody fi_InvalidBody di_InvalidBody
  xi_InvalidBody : PySem.W.findIn K (.ref xc.InvalidBody) "__init__" = some (some (.ref fi_InvalidBody))
  xt_InvalidBody : PySem.W.typeIn K (.ref fi_InvalidBody) = some (.type "function")
  xb_InvalidBody : Binds K di_InvalidBody ["self", "value"] []
  xe_InvalidBody_InvalidBody : PySem.W.exmOne K (.ref xc.InvalidBody) (.ref xc.InvalidBody) = some true
  xk_InvalidBody_RunError : PySem.W.kitOne K (.ref xc.InvalidBody) (.ref xc.RunError) = some true
  n_int : mg "int" = none
  n_isinstance : mg "isinstance" = none
  n_bool : mg "bool" = none
  n_str : mg "str" = none
  n_len : mg "len" = none
  n_all : mg "all" = none
  n_tuple : mg "tuple" = none
  n_zip : mg "zip" = none
  n_min : mg "min" = none
  n_max : mg "max" = none
  n_abs : mg "abs" = none
  n_range : mg "range" = none
  n_repr : mg "repr" = none
  c_MOST_LETTERS : Con K mg "MOST_LETTERS" c_MOST_LETTERS
  c_LETTERS : Con K mg "LETTERS" c_LETTERS
  c_MOST_LEVELS : Con K mg "MOST_LEVELS" c_MOST_LEVELS
  c_MOST_STATEMENTS : Con K mg "MOST_STATEMENTS" c_MOST_STATEMENTS
  c_MOST_BRANCHES : Con K mg "MOST_BRANCHES" c_MOST_BRANCHES
  t_MOST : Tab K w mg "MOST" t_MOST
  t_FORMS : Tab K w mg "FORMS" t_FORMS
theorem uns {k : Nat} {A : Around} (room : Room k A) : A.units + 64 < cLine := room.units
section
variable {P : Program} {w : World}  {K : PySem.W.Frag}  {mg : Str → Option Value}  {base : Heap}
theorem ok_init_InvalidBody (A : FA w K mg) : FnOk P w K mg base CX0 1 A.fi_InvalidBody A.di_InvalidBody ["self", "value"] (spI "value" A.xc.InvalidBody) :=
  init_ok A.Fi_InvalidBody sc_init_InvalidBody A.xs_InvalidBody rfl rfl rfl (by decide) (by decide) (by decide) (by decide) fun _ => rfl
theorem ok_is_integer (A : FA w K mg) : FnG P w K mg base 1 A.f_is_integer A.d_is_integer ["value"] (spP K 1 (m_is_integer)) :=
  okP (k := 0) A.F_is_integer sc_is_integer rfl rfl fun cd B outer s H E room gd => (rss_one (rs_ret (re_and (re_callB c_isi (by rfl) A.n_isinstance rfl (ra_cons (re_var 0) (ra_cons (re_bltn (by rfl) A.n_int rfl) ra_nil))) (re_one (re_not (re_callB c_isi (by rfl) A.n_isinstance rfl (ra_cons (re_var 0) (ra_cons (re_bltn (by rfl) A.n_bool rfl) ra_nil))))))))
theorem ok_is_between (A : FA w K mg) : FnG P w K mg base 2 A.f_is_between A.d_is_between ["value", "least", "most"] (spP K 3 (m_is_between)) :=
  okP (k := 1) A.F_is_between sc_is_between rfl rfl fun cd B outer s H E room gd => (rss_one (rs_ret (re_and (re_callP (ok_is_integer A) (room.mono (by omega)) gd takes_def (by rfl) A.a_is_integer A.h_is_integer A.b_is_integer (ra_cons (re_var 0) ra_nil)) (re_one (re_chain o_le o_le (re_var 1) (re_var 0) (re_var 2))))))
theorem ok_is_name (A : FA w K mg) : FnG P w K mg base 1 A.f_is_name A.d_is_name ["value"] (spP K 1 (m_is_name)) :=
  okP (k := 0) A.F_is_name sc_is_name rfl rfl fun cd B outer s H E room gd => (rss_cons (rs_if (PW.pt (rw_or (rt_not (rt_val (re_callB c_isi (by rfl) A.n_isinstance rfl (ra_cons (re_var 0) (ra_cons (re_bltn (by rfl) A.n_str rfl) ra_nil))))) (rw_or1 (rt_not (rt_chain o_le o_le re_int (re_callB c_len (by rfl) A.n_len rfl (ra_cons (re_var 0) ra_nil)) (re_con A.c_MOST_LETTERS (by rfl))))))) (rss_one (rs_ret re_bl)) rss_nil)
    (rss_one (rs_ret (re_callB (c_all rfl) (by rfl) A.n_all rfl (ra_cons (re_lc (own := [("letter", 1)]) rfl sc_is_name.nd (ri_any (re_var 0)) (by exact blkOk_by (N := ["value", "letter"]) (sc := defScope s_is_name) (by decide +kernel)) (fun _ _ _ _ _ => (rg_name (i := 1) sc_is_name.nd rfl (by first | exact .inl rfl | exact .inr rfl))) (fun _ _ _ _ _ => rts_nil) (fun _ _ _ _ _ => (re_cmp o_in (re_var 1) (re_con A.c_LETTERS (by rfl)) rfl))) ra_nil)))))
theorem ok_is_part (A : FA w K mg) : FnG P w K mg base 3 A.f_is_part A.d_is_part ["form", "value"] (spP K 2 (m_is_part)) :=
  okP (k := 2) A.F_is_part sc_is_part rfl rfl fun cd B outer s H E room gd => (rss_cons (rs_if (rt_cmp (o_eq (uns room)) (re_var 0) re_str rfl) (rss_one (rs_ret (re_callB c_isi (by rfl) A.n_isinstance rfl (ra_cons (re_var 1) (ra_cons (re_bltn (by rfl) A.n_tuple rfl) ra_nil))))) rss_nil)
    (rss_cons (rs_if (rt_tabIn A.t_MOST (by rfl) (re_var 0)) (rss_one (rs_ret (re_callP (ok_is_between A) (room.mono (by omega)) gd takes_def (by rfl) A.a_is_between A.h_is_between A.b_is_between (ra_cons (re_var 1) (ra_cons re_int (ra_cons (re_tabIx A.t_MOST (by rfl) (re_var 0)) ra_nil)))))) rss_nil)
    (rss_one (rs_ret (re_callP (ok_is_name A) (room.mono (by omega)) gd takes_def (by rfl) A.a_is_name A.h_is_name A.b_is_name (ra_cons (re_var 1) ra_nil))))))
theorem ok_is_statement (A : FA w K mg) : FnG P w K mg base 4 A.f_is_statement A.d_is_statement ["value"] (spP K 1 (m_is_statement)) :=
  okP (k := 3) A.F_is_statement sc_is_statement rfl rfl fun cd B outer s H E room gd => (rss_cons (rs_if (PW.pt (rw_or (rt_not (rt_val (re_callB c_isi (by rfl) A.n_isinstance rfl (ra_cons (re_var 0) (ra_cons (re_bltn (by rfl) A.n_tuple rfl) ra_nil))))) (rw_or1 (rt_not (rt_val (re_var 0)))))) (rss_one (rs_ret re_bl)) rss_nil)
    (rss_cons (rs_if (PW.pt (rw_or (rt_not (rt_val (re_callB c_isi (by rfl) A.n_isinstance rfl (ra_cons (re_ix x_ix (re_var 0) re_int) (ra_cons (re_bltn (by rfl) A.n_str rfl) ra_nil))))) (rw_or1 (rt_tabNotIn A.t_FORMS (by rfl) (re_ix x_ix (re_var 0) re_int))))) (rss_one (rs_ret re_bl)) rss_nil)
    (rss_cons (rs_set (i := 1) sc_is_statement.nd rfl (.inl rfl) (re_tabIx A.t_FORMS (by rfl) (re_ix x_ix (re_var 0) re_int)))
    (rss_cons (rs_if (rt_cmp (o_ne (uns room)) (re_callB c_len (by rfl) A.n_len rfl (ra_cons (re_var 0) ra_nil)) (re_op o_add re_int (re_callB c_len (by rfl) A.n_len rfl (ra_cons (re_var 1) ra_nil))) rfl) (rss_one (rs_ret re_bl)) rss_nil)
    (rss_one (rs_ret (re_callB (c_all rfl) (by rfl) A.n_all rfl (ra_cons (re_lc (own := [("form", 2), ("part", 3)]) rfl sc_is_statement.nd (ri_zip (by rfl) A.n_zip (ra_cons (re_var 1) (ra_cons (re_slice (re_var 0) (ro_some re_int) ro_none) ra_nil))) (by exact blkOk_by (N := ["value", "forms", "form", "part"]) (sc := defScope s_is_statement) (by decide +kernel)) (fun _ _ _ _ _ => (rg_tup rfl (rgs_cons (rg_name (i := 2) sc_is_statement.nd rfl (by first | exact .inl rfl | exact .inr rfl)) (rgs_cons (rg_name (i := 3) sc_is_statement.nd rfl (by first | exact .inl rfl | exact .inr rfl)) rgs_nil)))) (fun _ _ _ _ _ => rts_nil) (fun _ _ _ _ _ => (re_callP (ok_is_part A) (room.mono (by omega)) gd L2.takes0 (by rfl) A.a_is_part A.h_is_part A.b_is_part (ra_cons (re_var 2) (ra_cons (re_var 3) ra_nil))))) ra_nil))))))))
theorem ok_inner_bodies (A : FA w K mg) : FnG P w K mg base 1 A.f_inner_bodies A.d_inner_bodies ["statement"] (spP K 1 (m_inner_bodies)) :=
  okP (k := 0) A.F_inner_bodies sc_inner_bodies rfl rfl fun cd B outer s H E room gd => (rss_cons (rs_set (i := 1) sc_inner_bodies.nd rfl (.inl rfl) (re_tabIx A.t_FORMS (by rfl) (re_ix x_ix (re_var 0) re_int)))
    (rss_one (rs_ret (re_lc (own := [("form", 2), ("part", 3)]) rfl sc_inner_bodies.nd (ri_zip (by rfl) A.n_zip (ra_cons (re_var 1) (ra_cons (re_slice (re_var 0) (ro_some re_int) ro_none) ra_nil))) (by exact blkOk_by (N := ["statement", "forms", "form", "part"]) (sc := defScope s_inner_bodies) (by decide +kernel)) (fun _ _ _ _ _ => (rg_tup rfl (rgs_cons (rg_name (i := 2) sc_inner_bodies.nd rfl (by first | exact .inl rfl | exact .inr rfl)) (rgs_cons (rg_name (i := 3) sc_inner_bodies.nd rfl (by first | exact .inl rfl | exact .inr rfl)) rgs_nil)))) (fun _ _ _ _ _ => (rts_one (rt_cmp (o_eq (uns room)) (re_var 2) re_str rfl))) (fun _ _ _ _ _ => (re_var 3))))))
theorem ok_all_statements (A : FA w K mg) : FnG P w K mg base 5 A.f_all_statements A.d_all_statements ["value"] (spP K 1 (m_all_statements)) :=
  okP (k := 4) A.F_all_statements sc_all_statements rfl rfl fun cd B outer s H E room gd => (rss_cons (rs_set (i := 1) sc_all_statements.nd rfl (.inl rfl) (re_new ra_nil))
    (rss_cons (rs_set (i := 2) sc_all_statements.nd rfl (.inl rfl) (re_new (ra_cons (re_tup (ra_cons (re_var 0) (ra_cons re_int ra_nil))) ra_nil)))
    (rss_cons (rs_while 200 own_def (rt_val (re_var 2))
    (rss_cons (rs_asg (us := [4, 5]) (re_bm0 PySem.F.plainAttrs_list PySem.F.slot_list_pop PySem.F.type_list_pop m_pop (re_var 2)) (rg_tup rfl (rgs_cons (rg_name (i := 4) sc_all_statements.nd rfl (by first | exact .inl rfl | exact .inr rfl)) (rgs_cons (rg_name (i := 5) sc_all_statements.nd rfl (by first | exact .inl rfl | exact .inr rfl)) rgs_nil))))
    (rss_cons (rs_if (PW.pt (rw_or (rt_not (rt_val (re_callB c_isi (by rfl) A.n_isinstance rfl (ra_cons (re_var 4) (ra_cons (re_bltn (by rfl) A.n_tuple rfl) ra_nil))))) (rw_or1 (rt_cmp o_gt (re_var 5) (re_con A.c_MOST_LEVELS (by rfl)) rfl)))) (rss_one (rs_ret re_non)) rss_nil)
    (rss_cons (rs_if (rt_cmp o_gt (re_op o_add (re_callB c_len (by rfl) A.n_len rfl (ra_cons (re_var 1) ra_nil)) (re_callB c_len (by rfl) A.n_len rfl (ra_cons (re_var 4) ra_nil))) (re_con A.c_MOST_STATEMENTS (by rfl)) rfl) (rss_one (rs_ret re_non)) rss_nil)
    (rss_one (rs_for (us := [3]) own_def rfl (ri_any (re_var 4)) (rg_name (i := 3) sc_all_statements.nd rfl (by first | exact .inl rfl | exact .inr rfl))
    (rss_cons (rs_if (rt_not (rt_val (re_callP (ok_is_statement A) (room.mono (by omega)) gd takes_def (by rfl) A.a_is_statement A.h_is_statement A.b_is_statement (ra_cons (re_var 3) ra_nil)))) (rss_one (rs_ret re_non)) rss_nil)
    (rss_cons (rs_expr (re_bm PySem.F.plainAttrs_list PySem.F.slot_list_append PySem.F.type_list_append m_append (re_var 1) (ra_cons (re_var 3) ra_nil)))
    (rss_one (rs_expr (re_bm PySem.F.plainAttrs_list PySem.F.slot_list_extend PySem.F.type_list_extend m_extend (re_var 2) (ra_cons (re_lc (own := [("inner", 6)]) rfl sc_all_statements.nd (ri_any (re_callP (ok_inner_bodies A) (room.mono (by omega)) gd takes_def (by rfl) A.a_inner_bodies A.h_inner_bodies A.b_inner_bodies (ra_cons (re_var 3) ra_nil))) (by exact blkOk_by (N := ["value", "found", "waiting", "statement", "body", "level", "inner"]) (sc := defScope s_all_statements) (by decide +kernel)) (fun _ _ _ _ _ => (rg_name (i := 6) sc_all_statements.nd rfl (by first | exact .inl rfl | exact .inr rfl))) (fun _ _ _ _ _ => rts_nil) (fun _ _ _ _ _ => (re_tup (ra_cons (re_var 6) (ra_cons (re_op o_add (re_var 5) re_int) ra_nil))))) ra_nil))))))))))))
    (rss_one (rs_ret (re_var 1))))))
theorem oks_tick_bounds (A : FA w K mg) : ∀ n : Nat, FnG P w K mg base (1 + n) A.f_tick_bounds A.d_tick_bounds ["body"] (spP K 1 ((g_tick_bounds n).1)) ∧ FnG P w K mg base (1 + n) A.f_statement_bounds A.d_statement_bounds ["statement"] (spP K 1 ((g_tick_bounds n).2))
  | 0 => ⟨badP rfl, badP rfl⟩
  | n + 1 => by
    have ih := oks_tick_bounds A n
    exact ⟨okP (k := 1 + n) A.F_tick_bounds sc_tick_bounds rfl rfl fun cd B outer s H E room gd => (rss_cons (rs_set (i := 1) sc_tick_bounds.nd rfl (.inl rfl) re_int)
    (rss_cons (rs_set (i := 2) sc_tick_bounds.nd rfl (.inl rfl) re_int)
    (rss_cons (rs_for (us := [3]) own_def rfl (ri_any (re_var 0)) (rg_name (i := 3) sc_tick_bounds.nd rfl (by first | exact .inl rfl | exact .inr rfl))
    (rss_cons (rs_asg (us := [4, 5]) (re_callP (ih.2) (room.mono (by omega)) gd takes_def (by rfl) A.a_statement_bounds A.h_statement_bounds A.b_statement_bounds (ra_cons (re_var 3) ra_nil)) (rg_tup rfl (rgs_cons (rg_name (i := 4) sc_tick_bounds.nd rfl (by first | exact .inl rfl | exact .inr rfl)) (rgs_cons (rg_name (i := 5) sc_tick_bounds.nd rfl (by first | exact .inl rfl | exact .inr rfl)) rgs_nil))))
    (rss_cons (rs_aug (i := 1) sc_tick_bounds.nd rfl (.inl rfl) (re_var 4) io_add)
    (rss_one (rs_aug (i := 2) sc_tick_bounds.nd rfl (.inl rfl) (re_var 5) io_add)))))
    (rss_one (rs_ret (re_tup (ra_cons (re_var 1) (ra_cons (re_var 2) ra_nil)) (by exact Nat.le_of_ble_eq_true rfl))))))),
      okP (k := 1 + n) A.F_statement_bounds sc_statement_bounds rfl rfl fun cd B outer s H E room gd => (rss_cons (rs_if (rt_cmp (o_eq (uns room)) (re_ix x_ix (re_var 0) re_int) re_str rfl) (rss_one (rs_ret (re_tup (ra_cons (re_ix x_ix (re_var 0) re_int) (ra_cons (re_ix x_ix (re_var 0) re_int) ra_nil)) (by exact Nat.le_of_ble_eq_true rfl)))) rss_nil)
    (rss_cons (rs_setLc (own := [("body", 2)]) (i := 1) rfl sc_statement_bounds.nd rfl rfl (sw_true rfl rfl rfl (by decide +kernel)) (ri_any (re_callP (ok_inner_bodies A) (room.mono (by omega)) gd takes_def (by rfl) A.a_inner_bodies A.h_inner_bodies A.b_inner_bodies (ra_cons (re_var 0) ra_nil))) (by exact blkOk_by (N := ["statement", "bounds", "body", "low", "high"]) (sc := defScope s_statement_bounds) (by decide +kernel)) (fun _ _ _ _ _ => (rg_name (i := 2) sc_statement_bounds.nd rfl (by first | exact .inl rfl | exact .inr rfl))) (fun _ _ _ _ _ => rts_nil) (fun _ _ _ _ _ => (re_callP (ih.1) (room.mono (by omega)) gd L2.takes0 (by rfl) A.a_tick_bounds A.h_tick_bounds A.b_tick_bounds (ra_cons (re_var 2) ra_nil))))
    (rss_cons (rs_if (rt_not (rt_val (re_var 1))) (rss_one (rs_ret (re_tup (ra_cons re_int (ra_cons re_int ra_nil)) (by exact Nat.le_of_ble_eq_true rfl)))) rss_nil)
    (rss_cons (rs_if (rt_cmp (o_eq (uns room)) (re_ix x_ix (re_var 0) re_int) re_str rfl) (rss_one (rs_ret (re_tup (ra_cons re_int (ra_cons (re_op o_mulA (re_ix x_ix (re_var 0) re_int) (re_ix x_ix (re_ix x_ix (re_var 1) re_int) re_int)) ra_nil)) (by exact Nat.le_of_ble_eq_true rfl)))) rss_nil)
    (rss_one (rs_ret (re_tup (ra_cons (re_callB (c_min rfl) (by rfl) A.n_min rfl (ra_cons (re_lc (own := [("low", 3), ("high", 4)]) rfl sc_statement_bounds.nd (ri_any (re_var 1)) (by exact blkOk_by (N := ["statement", "bounds", "body", "low", "high"]) (sc := defScope s_statement_bounds) (by decide +kernel)) (fun _ _ _ _ _ => (rg_tup rfl (rgs_cons (rg_name (i := 3) sc_statement_bounds.nd rfl (by first | exact .inl rfl | exact .inr rfl)) (rgs_cons (rg_name (i := 4) sc_statement_bounds.nd rfl (by first | exact .inl rfl | exact .inr rfl)) rgs_nil)))) (fun _ _ _ _ _ => rts_nil) (fun _ _ _ _ _ => (re_var 3))) ra_nil)) (ra_cons (re_callB (c_max rfl) (by rfl) A.n_max rfl (ra_cons (re_lc (own := [("low", 3), ("high", 4)]) rfl sc_statement_bounds.nd (ri_any (re_var 1)) (by exact blkOk_by (N := ["statement", "bounds", "body", "low", "high"]) (sc := defScope s_statement_bounds) (by decide +kernel)) (fun _ _ _ _ _ => (rg_tup rfl (rgs_cons (rg_name (i := 3) sc_statement_bounds.nd rfl (by first | exact .inl rfl | exact .inr rfl)) (rgs_cons (rg_name (i := 4) sc_statement_bounds.nd rfl (by first | exact .inl rfl | exact .inr rfl)) rgs_nil)))) (fun _ _ _ _ _ => rts_nil) (fun _ _ _ _ _ => (re_var 4))) ra_nil)) ra_nil)) (by exact Nat.le_of_ble_eq_true rfl))))))))⟩
theorem ok_tick_bounds (A : FA w K mg) : FnG P w K mg base (13) A.f_tick_bounds A.d_tick_bounds ["body"] (spP K 1 ((g_tick_bounds 12).1)) :=
  ((oks_tick_bounds A 12).1)
theorem ok_statement_bounds (A : FA w K mg) : FnG P w K mg base (13) A.f_statement_bounds A.d_statement_bounds ["statement"] (spP K 1 ((g_tick_bounds 12).2)) :=
  ((oks_tick_bounds A 12).2)
theorem ok_uses_ticks (A : FA w K mg) : FnG P w K mg base 14 A.f_uses_ticks A.d_uses_ticks ["body"] (spP K 1 (m_uses_ticks)) :=
  okP (k := 13) A.F_uses_ticks sc_uses_ticks rfl rfl fun cd B outer s H E room gd => (rss_one (rs_ret (re_cmp o_ge (re_ix x_ix (re_callP (ok_tick_bounds A) (room.mono (by omega)) gd takes_def (by rfl) A.a_tick_bounds A.h_tick_bounds A.b_tick_bounds (ra_cons (re_var 0) ra_nil)) re_int) re_int rfl)))
theorem ok_is_body (A : FA w K mg) : FnG P w K mg base 15 A.f_is_body A.d_is_body ["value"] (spP K 1 (m_is_body)) :=
  okP (k := 14) A.F_is_body sc_is_body rfl rfl fun cd B outer s H E room gd => (rss_cons (rs_set (i := 1) sc_is_body.nd rfl (.inl rfl) (re_callP (ok_all_statements A) (room.mono (by omega)) gd takes_def (by rfl) A.a_all_statements A.h_all_statements A.b_all_statements (ra_cons (re_var 0) ra_nil)))
    (rss_cons (rs_if (rt_cmp o_is (re_var 1) re_non rfl) (rss_one (rs_ret re_bl)) rss_nil)
    (rss_cons (rs_setLc (own := [("one", 4)]) (i := 2) rfl sc_is_body.nd rfl rfl (sw_true rfl rfl rfl (by decide +kernel)) (ri_any (re_var 1)) (by exact blkOk_by (N := ["value", "found", "branches", "passes", "one", "body"]) (sc := defScope s_is_body) (by decide +kernel)) (fun _ _ _ _ _ => (rg_name (i := 4) sc_is_body.nd rfl (by first | exact .inl rfl | exact .inr rfl))) (fun _ _ _ _ _ => (rts_one (rt_cmp o_in (re_ix x_ix (re_var 4) re_int) (re_tup (ra_cons re_str (ra_cons re_str ra_nil))) rfl))) (fun _ _ _ _ _ => (re_var 4)))
    (rss_cons (rs_setLc (own := [("one", 4)]) (i := 3) rfl sc_is_body.nd rfl rfl (sw_true rfl rfl rfl (by decide +kernel)) (ri_any (re_var 1)) (by exact blkOk_by (N := ["value", "found", "branches", "passes", "one", "body"]) (sc := defScope s_is_body) (by decide +kernel)) (fun _ _ _ _ _ => (rg_name (i := 4) sc_is_body.nd rfl (by first | exact .inl rfl | exact .inr rfl))) (fun _ _ _ _ _ => (rts_one (rt_cmp (o_eq (uns room)) (re_ix x_ix (re_var 4) re_int) re_str rfl))) (fun _ _ _ _ _ => (re_ix x_ix (re_var 4) re_int)))
    (rss_one (rs_ret (re_and (re_cmp o_le (re_callB c_len (by rfl) A.n_len rfl (ra_cons (re_var 2) ra_nil)) (re_con A.c_MOST_BRANCHES (by rfl)) rfl) (re_one (re_callB (c_all rfl) (by rfl) A.n_all rfl (ra_cons (re_lc (own := [("body", 5)]) rfl sc_is_body.nd (ri_any (re_var 3)) (by exact blkOk_by (N := ["value", "found", "branches", "passes", "one", "body"]) (sc := defScope s_is_body) (by decide +kernel)) (fun _ _ _ _ _ => (rg_name (i := 5) sc_is_body.nd rfl (by first | exact .inl rfl | exact .inr rfl))) (fun _ _ _ _ _ => rts_nil) (fun _ _ _ _ _ => (re_callP (ok_uses_ticks A) (room.mono (by omega)) gd L2.takes0 (by rfl) A.a_uses_ticks A.h_uses_ticks A.b_uses_ticks (ra_cons (re_var 5) ra_nil)))) ra_nil))))))))))
theorem ok_least_ticks (A : FA w K mg) : FnG P w K mg base 16 A.f_least_ticks A.d_least_ticks ["body"] (spP K 1 (m_least_ticks A.xc)) :=
  okP (k := 15) A.F_least_ticks sc_least_ticks rfl rfl fun cd B outer s H E room gd => (rss_cons (rs_if (rt_not (rt_val (re_callP (ok_is_body A) (room.mono (by omega)) gd takes_def (by rfl) A.a_is_body A.h_is_body A.b_is_body (ra_cons (re_var 0) ra_nil)))) (rss_one (rs_raise rfl takes_def A.xs_InvalidBody A.xi_InvalidBody A.xt_InvalidBody (ok_init_InvalidBody A) (room.mono (by omega)) A.xb_InvalidBody (by rfl) A.xa_InvalidBody (re_var 0))) rss_nil)
    (rss_one (rs_ret (re_ix x_ix (re_callP (ok_tick_bounds A) (room.mono (by omega)) gd takes_def (by rfl) A.a_tick_bounds A.h_tick_bounds A.b_tick_bounds (ra_cons (re_var 0) ra_nil)) re_int))))
theorem ok_most_ticks (A : FA w K mg) : FnG P w K mg base 16 A.f_most_ticks A.d_most_ticks ["body"] (spP K 1 (m_most_ticks A.xc)) :=
  okP (k := 15) A.F_most_ticks sc_most_ticks rfl rfl fun cd B outer s H E room gd => (rss_cons (rs_if (rt_not (rt_val (re_callP (ok_is_body A) (room.mono (by omega)) gd takes_def (by rfl) A.a_is_body A.h_is_body A.b_is_body (ra_cons (re_var 0) ra_nil)))) (rss_one (rs_raise rfl takes_def A.xs_InvalidBody A.xi_InvalidBody A.xt_InvalidBody (ok_init_InvalidBody A) (room.mono (by omega)) A.xb_InvalidBody (by rfl) A.xa_InvalidBody (re_var 0))) rss_nil)
    (rss_one (rs_ret (re_ix x_ix (re_callP (ok_tick_bounds A) (room.mono (by omega)) gd takes_def (by rfl) A.a_tick_bounds A.h_tick_bounds A.b_tick_bounds (ra_cons (re_var 0) ra_nil)) re_int))))
theorem ok_law_pool (A : FA w K mg) : FnG P w K mg base 1 A.f_law_pool A.d_law_pool ["_law_script", "_law_k"] (spG K 2 (m_law_pool)) :=
  okG (k := 0) A.F_law_pool sc_law_pool rfl rfl fun cd B outer s H E room gd => (rss_cons (rs_set (i := 2) sc_law_pool.nd rfl (.inl rfl) re_int)
    (rss_cons (rs_if (rt_cmp o_lt (re_var 1) (re_callB c_len (by rfl) A.n_len rfl (ra_cons (re_var 0) ra_nil)) rfl) (rss_one (rs_set (i := 2) sc_law_pool.nd rfl (.inl rfl) (re_callB c_abs (by rfl) A.n_abs rfl (ra_cons (re_ix x_ix (re_var 0) (re_var 1)) ra_nil)))) rss_nil)
    (rss_cons (rs_set (i := 3) sc_law_pool.nd rfl (.inl rfl) (re_op o_mod (re_callTy c_int (by rfl) A.n_int rfl (ra_cons (re_op o_mulA (re_op o_add (re_op o_add (re_op o_add (re_op o_mod (re_callTy c_int (by rfl) A.n_int rfl (ra_cons (re_var 2) ra_nil)) re_int) (re_op o_mulA (re_op o_mulA re_int (re_var 1)) (re_var 1))) (re_op o_mulA re_int (re_var 1))) re_int) re_int) ra_nil)) re_int))
    (rss_one (rs_ret (re_new (ra_cons (re_op o_mulA (re_var 2) (re_callTy c_int (by rfl) A.n_int rfl (ra_cons (re_cmp o_ge (re_var 2) (re_op o_pow re_int re_int) rfl) ra_nil))) (ra_cons (re_op o_mod (re_callTy c_int (by rfl) A.n_int rfl (ra_cons (re_op o_mulA (re_var 3) (re_var 3)) ra_nil)) re_int) ra_nil))))))))
theorem ok_law_take (A : FA w K mg) : FnG P w K mg base 1 A.f_law_take A.d_law_take ["_law_pool_here", "_law_many"] (spG K 2 (m_law_take)) :=
  okG (k := 0) A.F_law_take sc_law_take rfl rfl fun cd B outer s H E room gd => (rss_cons (rs_if (rt_cmp o_gt (re_ix x_ix (re_var 0) re_int) re_int rfl) (rss_cons (rs_set (i := 2) sc_law_take.nd rfl (.inl rfl) (re_op o_mod (re_callTy c_int (by rfl) A.n_int rfl (ra_cons (re_ix x_ix (re_var 0) re_int) ra_nil)) (re_var 1)))
    (rss_cons (rs_setItem (re_var 0) re_int (re_op o_fdiv (re_callTy c_int (by rfl) A.n_int rfl (ra_cons (re_ix x_ix (re_var 0) re_int) ra_nil)) (re_var 1)))
    (rss_one (rs_ret (re_var 2))))) rss_nil)
    (rss_cons (rs_setItem (re_var 0) re_int (re_op o_mod (re_callTy c_int (by rfl) A.n_int rfl (ra_cons (re_op o_add (re_op o_mulA (re_ix x_ix (re_var 0) re_int) re_int) re_int) ra_nil)) re_int))
    (rss_one (rs_ret (re_op o_mod (re_callTy c_int (by rfl) A.n_int rfl (ra_cons (re_op o_fdiv (re_op o_mod (re_callTy c_int (by rfl) A.n_int rfl (ra_cons (re_op o_mulA (re_ix x_ix (re_var 0) re_int) (re_ix x_ix (re_var 0) re_int)) ra_nil)) re_int) re_int) ra_nil)) (re_var 1))))))
theorem oks_law_line (A : FA w K mg) : ∀ n : Nat, FnG P w K mg base (1 + n) A.f_law_line A.d_law_line ["_law_pool_here", "_law_sources", "_law_jobs", "_law_cells", "_law_depth"] (spG K 5 ((g_law_line n).1)) ∧ FnG P w K mg base (1 + n) A.f_law_lines A.d_law_lines ["_law_pool_here", "_law_sources", "_law_jobs", "_law_cells", "_law_depth", "_law_most"] (spG K 6 ((g_law_line n).2))
  | 0 => ⟨badG rfl, badG rfl⟩
  | n + 1 => by
    have ih := oks_law_line A n
    exact ⟨okT (k := 1 + n) A.F_law_line sc_law_line rfl rfl fun cd B outer s H E room gd => (rss_cons (rs_par (i := 7) (j := 8) rfl sc_law_line.nd rfl rfl (by decide) rfl rfl (ra_cons (re_callG (ok_law_take A) (room.mono (by omega)) gd takes_def (by rfl) A.a_law_take A.h_law_take A.b_law_take (ra_cons (re_var 0) (ra_cons re_int ra_nil))) (ra_cons (re_ix x_ix (re_var 1) (re_callG (ok_law_take A) (room.mono (by omega)) gd takes_def (by rfl) A.a_law_take A.h_law_take A.b_law_take (ra_cons (re_var 0) (ra_cons (re_callB c_len (by rfl) A.n_len rfl (ra_cons (re_var 1) ra_nil)) ra_nil)))) ra_nil)))
    (rss_cons (rs_if (rt_cmp o_lt (re_var 7) re_int rfl) (rss_one (rs_ret (re_tup (ra_cons re_str (ra_cons (re_ix x_ix (re_lst (ra_cons re_int (ra_cons re_int (ra_cons re_int (ra_cons re_int ra_nil)))) (by exact Nat.le_of_ble_eq_true rfl)) (re_var 7)) ra_nil)) (by exact Nat.le_of_ble_eq_true rfl)))) rss_nil)
    (rss_cons (rs_if (rt_cmp (o_eq (uns room)) (re_var 7) re_int rfl) (rss_one (rs_ret (re_ix x_ix (re_lst (ra_cons (re_tup (ra_cons re_str (ra_cons (re_op o_add re_int (re_callG (ok_law_take A) (room.mono (by omega)) gd takes_def (by rfl) A.a_law_take A.h_law_take A.b_law_take (ra_cons (re_var 0) (ra_cons re_int ra_nil)))) ra_nil)) (by exact Nat.le_of_ble_eq_true rfl)) (ra_cons (re_tup (ra_cons re_str ra_nil) (by exact Nat.le_of_ble_eq_true rfl)) ra_nil)) (by exact Nat.le_of_ble_eq_true rfl)) (re_callG (ok_law_take A) (room.mono (by omega)) gd takes_def (by rfl) A.a_law_take A.h_law_take A.b_law_take (ra_cons (re_var 0) (ra_cons re_int ra_nil)))))) rss_nil)
    (rss_cons (rs_if (rt_cmp (o_eq (uns room)) (re_var 7) re_int rfl) (rss_one (rs_ret (re_ix x_ix (re_lst (ra_cons (re_tup (ra_cons re_str (ra_cons (re_var 8) ra_nil)) (by exact Nat.le_of_ble_eq_true rfl)) (ra_cons (re_tup (ra_cons re_str (ra_cons (re_var 8) (ra_cons (re_op o_add re_int (re_callG (ok_law_take A) (room.mono (by omega)) gd takes_def (by rfl) A.a_law_take A.h_law_take A.b_law_take (ra_cons (re_var 0) (ra_cons re_int ra_nil)))) ra_nil))) (by exact Nat.le_of_ble_eq_true rfl)) (ra_cons (re_tup (ra_cons re_str (ra_cons (re_var 8) ra_nil)) (by exact Nat.le_of_ble_eq_true rfl)) ra_nil))) (by exact Nat.le_of_ble_eq_true rfl)) (re_callG (ok_law_take A) (room.mono (by omega)) gd takes_def (by rfl) A.a_law_take A.h_law_take A.b_law_take (ra_cons (re_var 0) (ra_cons re_int ra_nil)))))) rss_nil)
    (rss_cons (rs_if (PW.pt (rw_and (rt_cmp (o_eq (uns room)) (re_var 7) re_int rfl) (rw_and1 (rt_cmp (o_ne (uns room)) (re_var 2) (re_lst ra_nil (by exact Nat.le_of_ble_eq_true rfl)) rfl)))) (rss_one (rs_ret (re_tup (ra_cons re_str (ra_cons (re_ix x_ix (re_var 2) (re_callG (ok_law_take A) (room.mono (by omega)) gd takes_def (by rfl) A.a_law_take A.h_law_take A.b_law_take (ra_cons (re_var 0) (ra_cons (re_callB c_len (by rfl) A.n_len rfl (ra_cons (re_var 2) ra_nil)) ra_nil)))) ra_nil)) (by exact Nat.le_of_ble_eq_true rfl)))) rss_nil)
    (rss_cons (rs_if (PW.pt (rw_and (rt_cmp (o_eq (uns room)) (re_var 7) re_int rfl) (rw_and1 (rt_cmp (o_ne (uns room)) (re_var 3) (re_lst ra_nil (by exact Nat.le_of_ble_eq_true rfl)) rfl)))) (rss_one (rs_ret (re_tup (ra_cons (re_ix x_ix (re_lst (ra_cons re_str (ra_cons re_str ra_nil)) (by exact Nat.le_of_ble_eq_true rfl)) (re_callG (ok_law_take A) (room.mono (by omega)) gd takes_def (by rfl) A.a_law_take A.h_law_take A.b_law_take (ra_cons (re_var 0) (ra_cons re_int ra_nil)))) (ra_cons (re_ix x_ix (re_var 3) (re_callG (ok_law_take A) (room.mono (by omega)) gd takes_def (by rfl) A.a_law_take A.h_law_take A.b_law_take (ra_cons (re_var 0) (ra_cons (re_callB c_len (by rfl) A.n_len rfl (ra_cons (re_var 3) ra_nil)) ra_nil)))) ra_nil)) (by exact Nat.le_of_ble_eq_true rfl)))) rss_nil)
    (rss_cons (rs_if (PW.pt (rw_or (rt_cmp o_gt (re_var 4) re_int rfl) (rw_or1 (rt_cmp o_lt (re_var 7) re_int rfl)))) (rss_one (rs_ret (re_tup (ra_cons re_str (ra_cons (re_var 8) ra_nil)) (by exact Nat.le_of_ble_eq_true rfl)))) rss_nil)
    (rss_cons (rs_set (i := 5) sc_law_line.nd rfl (.inl rfl) (re_callG (ih.2) (room.mono (by omega)) gd takes_def (by rfl) A.a_law_lines A.h_law_lines A.b_law_lines (ra_cons (re_var 0) (ra_cons (re_var 1) (ra_cons (re_var 2) (ra_cons (re_var 3) (ra_cons (re_op o_add (re_var 4) re_int) (ra_cons re_int ra_nil))))))))
    (rss_cons (rs_set (i := 6) sc_law_line.nd rfl (.inl rfl) (re_callG (ih.2) (room.mono (by omega)) gd takes_def (by rfl) A.a_law_lines A.h_law_lines A.b_law_lines (ra_cons (re_var 0) (ra_cons (re_var 1) (ra_cons (re_var 2) (ra_cons (re_var 3) (ra_cons (re_op o_add (re_var 4) re_int) (ra_cons re_int ra_nil))))))))
    (rss_cons (rs_if (rt_cmp (o_eq (uns room)) (re_var 7) re_int rfl) (rss_one (rs_ret (re_tup (ra_cons re_str (ra_cons (re_var 5) (ra_cons (re_var 6) ra_nil))) (by exact Nat.le_of_ble_eq_true rfl)))) rss_nil)
    (rss_cons (rs_if (PW.pt (rw_and (rt_cmp (o_eq (uns room)) (re_var 7) re_int rfl) (rw_and1 (rt_cmp (o_ne (uns room)) (re_var 3) (re_lst ra_nil (by exact Nat.le_of_ble_eq_true rfl)) rfl)))) (rss_one (rs_ret (re_tup (ra_cons re_str (ra_cons (re_ix x_ix (re_var 3) (re_callG (ok_law_take A) (room.mono (by omega)) gd takes_def (by rfl) A.a_law_take A.h_law_take A.b_law_take (ra_cons (re_var 0) (ra_cons (re_callB c_len (by rfl) A.n_len rfl (ra_cons (re_var 3) ra_nil)) ra_nil)))) (ra_cons (re_var 5) (ra_cons (re_var 6) ra_nil)))) (by exact Nat.le_of_ble_eq_true rfl)))) rss_nil)
    (rss_one (rs_ret (re_tup (ra_cons re_str (ra_cons (re_op o_add re_int (re_callG (ok_law_take A) (room.mono (by omega)) gd takes_def (by rfl) A.a_law_take A.h_law_take A.b_law_take (ra_cons (re_var 0) (ra_cons re_int ra_nil)))) (ra_cons (re_op o_add (re_tup (ra_cons (re_tup (ra_cons re_str (ra_cons re_int ra_nil)) (by exact Nat.le_of_ble_eq_true rfl)) ra_nil) (by exact Nat.le_of_ble_eq_true rfl)) (re_var 5)) ra_nil))) (by exact Nat.le_of_ble_eq_true rfl))))))))))))))),
      okT (k := 1 + n) A.F_law_lines sc_law_lines rfl rfl fun cd B outer s H E room gd => (rss_cons (rs_set (i := 6) sc_law_lines.nd rfl (.inl rfl) (re_new ra_nil (by exact Nat.le_of_ble_eq_true rfl)))
    (rss_cons (rs_for (us := [7]) own_def rfl (ri_range1 (by rfl) A.n_range (ra_cons (re_callG (ok_law_take A) (room.mono (by omega)) gd takes_def (by rfl) A.a_law_take A.h_law_take A.b_law_take (ra_cons (re_var 0) (ra_cons (re_var 5) ra_nil))) ra_nil)) (rg_name (i := 7) sc_law_lines.nd rfl (by first | exact .inl rfl | exact .inr rfl))
    (rss_one (rs_expr (re_bm PySem.F.plainAttrs_list PySem.F.slot_list_append PySem.F.type_list_append m_append (re_var 6) (ra_cons (re_callG (ih.1) (room.mono (by omega)) gd takes_def (by rfl) A.a_law_line A.h_law_line A.b_law_line (ra_cons (re_var 0) (ra_cons (re_var 1) (ra_cons (re_var 2) (ra_cons (re_var 3) (ra_cons (re_var 4) ra_nil)))))) ra_nil)))))
    (rss_one (rs_ret (re_callTy c_tup (by rfl) A.n_tuple rfl (ra_cons (re_var 6) ra_nil))))))⟩
theorem ok_law_line (A : FA w K mg) : FnG P w K mg base (11) A.f_law_line A.d_law_line ["_law_pool_here", "_law_sources", "_law_jobs", "_law_cells", "_law_depth"] (spG K 5 ((g_law_line 10).1)) :=
  ((oks_law_line A 10).1)
theorem ok_law_lines (A : FA w K mg) : FnG P w K mg base (11) A.f_law_lines A.d_law_lines ["_law_pool_here", "_law_sources", "_law_jobs", "_law_cells", "_law_depth", "_law_most"] (spG K 6 ((g_law_line 10).2)) :=
  ((oks_law_line A 10).2)
theorem ok_law_body (A : FA w K mg) : FnG P w K mg base 12 A.f_law_body A.d_law_body ["_law_pool_here", "_law_sources", "_law_jobs", "_law_cells", "_law_most"] (spG K 5 (m_law_body)) :=
  okT (k := 11) A.F_law_body sc_law_body rfl rfl fun cd B outer s H E room gd => (rss_cons (rs_for (us := [5]) own_def rfl (ri_range1 (by rfl) A.n_range (ra_cons re_int ra_nil)) (rg_name (i := 5) sc_law_body.nd rfl (by first | exact .inl rfl | exact .inr rfl))
    (rss_cons (rs_set (i := 6) sc_law_body.nd rfl (.inl rfl) (re_callG (ok_law_lines A) (room.mono (by omega)) gd takes_def (by rfl) A.a_law_lines A.h_law_lines A.b_law_lines (ra_cons (re_var 0) (ra_cons (re_var 1) (ra_cons (re_var 2) (ra_cons (re_var 3) (ra_cons re_int (ra_cons (re_var 4) ra_nil))))))))
    (rss_cons (rs_set (i := 7) sc_law_body.nd rfl (.inl rfl) (re_bm PySem.F.plainAttrs_str PySem.F.slot_str_split PySem.F.type_str_split m_split (re_callTy (c_str room gd) (by rfl) A.n_str rfl (ra_cons (re_var 6) ra_nil)) (ra_cons re_str ra_nil)))
    (rss_one (rs_if (PW.pt (rw_and (rt_cmp o_le (re_callB c_len (by rfl) A.n_len rfl (ra_cons (re_bm PySem.F.plainAttrs_str PySem.F.slot_str_split PySem.F.type_str_split m_split (re_callTy (c_str room gd) (by rfl) A.n_str rfl (ra_cons (re_var 6) ra_nil)) (ra_cons re_str ra_nil)) ra_nil)) re_int rfl) (rw_and1 (rt_cmp o_le (re_op o_add (re_bm PySem.F.plainAttrs_list PySem.F.slot_list_count PySem.F.type_list_count m_count (re_var 7) (ra_cons re_str ra_nil)) (re_bm PySem.F.plainAttrs_list PySem.F.slot_list_count PySem.F.type_list_count m_count (re_var 7) (ra_cons re_str ra_nil))) re_int rfl)))) (rss_one (rs_ret (re_var 6))) rss_nil)))))
    (rss_one (rs_ret (re_tup (ra_cons (re_tup (ra_cons re_str (ra_cons re_int ra_nil))) ra_nil)))))
theorem ok_law_is_name (A : FA w K mg) : FnG P w K mg base 1 A.f_law_is_name A.d_law_is_name ["_law_value"] (spP K 1 (m_law_is_name)) :=
  okP (k := 0) A.F_law_is_name sc_law_is_name rfl rfl fun cd B outer s H E room gd => (rss_cons (rs_if (PW.pt (rw_or (rt_not (rt_val (re_callB c_isi (by rfl) A.n_isinstance rfl (ra_cons (re_var 0) (ra_cons (re_bltn (by rfl) A.n_str rfl) ra_nil))))) (rw_or1 (rt_not (rt_chain o_le o_le re_int (re_callB c_len (by rfl) A.n_len rfl (ra_cons (re_var 0) ra_nil)) re_int))))) (rss_one (rs_ret re_bl)) rss_nil)
    (rss_one (rs_ret (re_cmp (o_eq (uns room)) (re_lc (own := [("_law_sign", 1)]) rfl sc_law_is_name.nd (ri_any (re_var 0)) (by exact blkOk_by (N := ["_law_value", "_law_sign"]) (sc := defScope s_law_is_name) (by decide +kernel)) (fun _ _ _ _ _ => (rg_name (i := 1) sc_law_is_name.nd rfl (by first | exact .inl rfl | exact .inr rfl))) (fun _ _ _ _ _ => (rts_one (rt_cmp o_notIn (re_var 1) re_str rfl))) (fun _ _ _ _ _ => (re_var 1))) (re_lst ra_nil) rfl))))
theorem ok_law_is_from (A : FA w K mg) : FnG P w K mg base 1 A.f_law_is_from A.d_law_is_from ["_law_value", "_law_low", "_law_high"] (spP K 3 (m_law_is_from)) :=
  okP (k := 0) A.F_law_is_from sc_law_is_from rfl rfl fun cd B outer s H E room gd => (rss_one (rs_ret (re_and (re_callB c_isi (by rfl) A.n_isinstance rfl (ra_cons (re_var 0) (ra_cons (re_bltn (by rfl) A.n_int rfl) ra_nil))) (re_and (re_not (re_callB c_isi (by rfl) A.n_isinstance rfl (ra_cons (re_var 0) (ra_cons (re_bltn (by rfl) A.n_bool rfl) ra_nil)))) (re_one (re_chain o_le o_le (re_var 1) (re_var 0) (re_var 2)))))))
theorem ok_law_inner (A : FA w K mg) : FnG P w K mg base 1 A.f_law_inner A.d_law_inner ["_law_line_here"] (spP K 1 (m_law_inner)) :=
  okP (k := 0) A.F_law_inner sc_law_inner rfl rfl fun cd B outer s H E room gd => (rss_cons (rs_if (rt_cmp o_in (re_ix x_ix (re_var 0) re_int) (re_tup (ra_cons re_str (ra_cons re_str ra_nil))) rfl) (rss_one (rs_ret (re_lst (ra_cons (re_ix x_ix (re_var 0) (re_un o_neg re_int)) (ra_cons (re_ix x_ix (re_var 0) (re_un o_neg re_int)) ra_nil))))) rss_nil)
    (rss_one (rs_ret (re_if (rt_cmp (o_eq (uns room)) (re_ix x_ix (re_var 0) re_int) re_str rfl) (re_lst (ra_cons (re_ix x_ix (re_var 0) re_int) ra_nil)) (re_lst ra_nil)))))
theorem oks_law_all (A : FA w K mg) : ∀ n : Nat, FnG P w K mg base (1 + n) A.f_law_all A.d_law_all ["_law_body_here"] (spP K 1 (g_law_all n))
  | 0 => badP rfl
  | n + 1 => by
    have ih := oks_law_all A n
    exact okP (k := 1 + n) A.F_law_all sc_law_all rfl rfl fun cd B outer s H E room gd => (rss_cons (rs_set (i := 1) sc_law_all.nd rfl (.inl rfl) (re_new ra_nil (by exact Nat.le_of_ble_eq_true rfl)))
    (rss_cons (rs_for (us := [2]) own_def rfl (ri_any (re_var 0)) (rg_name (i := 2) sc_law_all.nd rfl (by first | exact .inl rfl | exact .inr rfl))
    (rss_cons (rs_expr (re_bm PySem.F.plainAttrs_list PySem.F.slot_list_append PySem.F.type_list_append m_append (re_var 1) (ra_cons (re_var 2) ra_nil)))
    (rss_one (rs_for (us := [3]) own_def rfl (ri_any (re_callP (ok_law_inner A) (room.mono (by omega)) gd takes_def (by rfl) A.a_law_inner A.h_law_inner A.b_law_inner (ra_cons (re_var 2) ra_nil))) (rg_name (i := 3) sc_law_all.nd rfl (by first | exact .inl rfl | exact .inr rfl))
    (rss_one (rs_set (i := 1) sc_law_all.nd rfl (.inl rfl) (re_addN (re_var 1) (re_callP (ih) (room.mono (by omega)) gd takes_def (by rfl) A.a_law_all A.h_law_all A.b_law_all (ra_cons (re_var 3) ra_nil)))))))))
    (rss_one (rs_ret (re_var 1)))))
theorem ok_law_all (A : FA w K mg) : FnG P w K mg base (7) A.f_law_all A.d_law_all ["_law_body_here"] (spP K 1 (g_law_all 6)) :=
  (oks_law_all A 6)
theorem oks_law_ticks (A : FA w K mg) : ∀ n : Nat, FnG P w K mg base (1 + n) A.f_law_ticks A.d_law_ticks ["_law_body_here"] (spP K 1 (g_law_ticks n))
  | 0 => badP rfl
  | n + 1 => by
    have ih := oks_law_ticks A n
    exact okP (k := 1 + n) A.F_law_ticks sc_law_ticks rfl rfl fun cd B outer s H E room gd => (rss_cons (rs_asg (us := [2, 3]) (re_tup (ra_cons re_int (ra_cons re_int ra_nil)) (by exact Nat.le_of_ble_eq_true rfl)) (rg_tup rfl (rgs_cons (rg_name (i := 2) sc_law_ticks.nd rfl (by first | exact .inl rfl | exact .inr rfl)) (rgs_cons (rg_name (i := 3) sc_law_ticks.nd rfl (by first | exact .inl rfl | exact .inr rfl)) rgs_nil))))
    (rss_cons (rs_for (us := [1]) own_def rfl (ri_any (re_var 0)) (rg_name (i := 1) sc_law_ticks.nd rfl (by first | exact .inl rfl | exact .inr rfl))
    (rss_cons (rs_setLc (own := [("_law_inner_here", 5)]) (i := 4) rfl sc_law_ticks.nd rfl rfl (sw_true rfl rfl rfl (by decide +kernel)) (ri_any (re_callP (ok_law_inner A) (room.mono (by omega)) gd takes_def (by rfl) A.a_law_inner A.h_law_inner A.b_law_inner (ra_cons (re_var 1) ra_nil))) (by exact blkOk_by (N := ["_law_body_here", "_law_line_here", "_law_least", "_law_most", "_law_parts", "_law_inner_here"]) (sc := defScope s_law_ticks) (by decide +kernel)) (fun _ _ _ _ _ => (rg_name (i := 5) sc_law_ticks.nd rfl (by first | exact .inl rfl | exact .inr rfl))) (fun _ _ _ _ _ => rts_nil) (fun _ _ _ _ _ => (re_callP (ih) (room.mono (by omega)) gd L2.takes0 (by rfl) A.a_law_ticks A.h_law_ticks A.b_law_ticks (ra_cons (re_var 5) ra_nil))))
    (rss_one (rs_if (rt_cmp (o_eq (uns room)) (re_ix x_ix (re_var 1) re_int) re_str rfl) (rss_one (rs_par (i := 2) (j := 3) rfl sc_law_ticks.nd rfl rfl (by decide) rfl rfl (ra_cons (re_op o_add (re_var 2) (re_ix x_ix (re_var 1) re_int)) (ra_cons (re_op o_add (re_var 3) (re_ix x_ix (re_var 1) re_int)) ra_nil)))) (rss_one (rs_if (rt_cmp (o_eq (uns room)) (re_ix x_ix (re_var 1) re_int) re_str rfl) (rss_one (rs_set (i := 3) sc_law_ticks.nd rfl (.inl rfl) (re_op o_add (re_var 3) (re_op o_mulA (re_ix x_ix (re_var 1) re_int) (re_ix x_ix (re_ix x_ix (re_var 4) re_int) re_int))))) (rss_one (rs_if (rt_cmp (o_ne (uns room)) (re_var 4) (re_lst ra_nil (by exact Nat.le_of_ble_eq_true rfl)) rfl) (rss_cons (rs_set (i := 2) sc_law_ticks.nd rfl (.inl rfl) (re_op o_add (re_var 2) (re_callB (c_min rfl) (by rfl) A.n_min rfl (ra_cons (re_ix x_ix (re_ix x_ix (re_var 4) re_int) re_int) (ra_cons (re_ix x_ix (re_ix x_ix (re_var 4) re_int) re_int) ra_nil)))))
    (rss_one (rs_set (i := 3) sc_law_ticks.nd rfl (.inl rfl) (re_op o_add (re_var 3) (re_callB (c_max rfl) (by rfl) A.n_max rfl (ra_cons (re_ix x_ix (re_ix x_ix (re_var 4) re_int) re_int) (ra_cons (re_ix x_ix (re_ix x_ix (re_var 4) re_int) re_int) ra_nil))))))) rss_nil))))))))
    (rss_one (rs_ret (re_tup (ra_cons (re_var 2) (ra_cons (re_var 3) ra_nil)) (by exact Nat.le_of_ble_eq_true rfl))))))
theorem ok_law_ticks (A : FA w K mg) : FnG P w K mg base (7) A.f_law_ticks A.d_law_ticks ["_law_body_here"] (spP K 1 (g_law_ticks 6)) :=
  (oks_law_ticks A 6)
theorem oks_law_is_line (A : FA w K mg) : ∀ n : Nat, FnG P w K mg base (7 + n) A.f_law_is_line A.d_law_is_line ["_law_line_here", "_law_depth"] (spP K 2 ((g_law_is_line n).1)) ∧ FnG P w K mg base (7 + n) A.f_law_right A.d_law_right ["_law_value", "_law_depth"] (spP K 2 ((g_law_is_line n).2))
  | 0 => ⟨badP rfl, badP rfl⟩
  | n + 1 => by
    have ih := oks_law_is_line A n
    exact ⟨okP (k := 7 + n) A.F_law_is_line sc_law_is_line rfl rfl fun cd B outer s H E room gd => (rss_cons (rs_if (PW.pt (rw_or (rt_not (rt_val (re_callB c_isi (by rfl) A.n_isinstance rfl (ra_cons (re_var 0) (ra_cons (re_bltn (by rfl) A.n_tuple rfl) ra_nil))))) (rw_or (rt_cmp (o_eq (uns room)) (re_var 0) (re_tup ra_nil (by exact Nat.le_of_ble_eq_true rfl)) rfl) (rw_or1 (rt_not (rt_val (re_callB c_isi (by rfl) A.n_isinstance rfl (ra_cons (re_ix x_ix (re_var 0) re_int) (ra_cons (re_bltn (by rfl) A.n_str rfl) ra_nil))))))))) (rss_one (rs_ret re_bl)) rss_nil)
    (rss_cons (rs_par (i := 2) (j := 3) rfl sc_law_is_line.nd rfl rfl (by decide) rfl rfl (ra_cons (re_ix x_ix (re_var 0) re_int) (ra_cons (re_callB c_len (by rfl) A.n_len rfl (ra_cons (re_var 0) ra_nil)) ra_nil)))
    (rss_cons (rs_if (rt_cmp o_in (re_var 2) (re_tup (ra_cons re_str (ra_cons re_str ra_nil)) (by exact Nat.le_of_ble_eq_true rfl)) rfl) (rss_one (rs_ret (re_and (re_cmp (o_eq (uns room)) (re_var 3) re_int rfl) (re_one (re_callP (ok_law_is_from A) (room.mono (by omega)) gd takes_def (by rfl) A.a_law_is_from A.h_law_is_from A.b_law_is_from (ra_cons (re_ix x_ix (re_var 0) re_int) (ra_cons re_int (ra_cons (re_if (rt_cmp (o_eq (uns room)) (re_var 2) re_str rfl) re_int re_int) ra_nil)))))))) rss_nil)
    (rss_cons (rs_if (rt_cmp (o_eq (uns room)) (re_var 2) re_str rfl) (rss_one (rs_ret (re_cmp (o_eq (uns room)) (re_var 3) re_int rfl))) rss_nil)
    (rss_cons (rs_if (rt_cmp o_in (re_var 2) (re_tup (ra_cons re_str (ra_cons re_str (ra_cons re_str (ra_cons re_str (ra_cons re_str ra_nil))))) (by exact Nat.le_of_ble_eq_true rfl)) rfl) (rss_one (rs_ret (re_and (re_cmp (o_eq (uns room)) (re_var 3) re_int rfl) (re_one (re_callP (ok_law_is_name A) (room.mono (by omega)) gd takes_def (by rfl) A.a_law_is_name A.h_law_is_name A.b_law_is_name (ra_cons (re_ix x_ix (re_var 0) re_int) ra_nil)))))) rss_nil)
    (rss_cons (rs_if (rt_cmp (o_eq (uns room)) (re_var 2) re_str rfl) (rss_one (rs_ret (re_and (re_cmp (o_eq (uns room)) (re_var 3) re_int rfl) (re_and (re_callP (ok_law_is_name A) (room.mono (by omega)) gd takes_def (by rfl) A.a_law_is_name A.h_law_is_name A.b_law_is_name (ra_cons (re_ix x_ix (re_var 0) re_int) ra_nil)) (re_one (re_callP (ok_law_is_from A) (room.mono (by omega)) gd takes_def (by rfl) A.a_law_is_from A.h_law_is_from A.b_law_is_from (ra_cons (re_ix x_ix (re_var 0) re_int) (ra_cons re_int (ra_cons re_int ra_nil))))))))) rss_nil)
    (rss_cons (rs_if (rt_cmp (o_eq (uns room)) (re_var 2) re_str rfl) (rss_cons (rs_if (PW.pt (rw_or (rt_cmp (o_ne (uns room)) (re_var 3) re_int rfl) (rw_or1 (rt_not (rt_val (re_callP (ok_law_is_from A) (room.mono (by omega)) gd takes_def (by rfl) A.a_law_is_from A.h_law_is_from A.b_law_is_from (ra_cons (re_ix x_ix (re_var 0) re_int) (ra_cons re_int (ra_cons re_int ra_nil))))))))) (rss_one (rs_ret re_bl)) rss_nil)
    (rss_one (rs_ret (re_and (re_callP (ih.2) (room.mono (by omega)) gd takes_def (by rfl) A.a_law_right A.h_law_right A.b_law_right (ra_cons (re_ix x_ix (re_var 0) re_int) (ra_cons (re_op o_add (re_var 1) re_int) ra_nil))) (re_one (re_cmp o_gt (re_ix x_ix (re_callP (ok_law_ticks A) (room.mono (by omega)) gd takes_def (by rfl) A.a_law_ticks A.h_law_ticks A.b_law_ticks (ra_cons (re_ix x_ix (re_var 0) re_int) ra_nil)) re_int) re_int rfl)))))) rss_nil)
    (rss_cons (rs_if (PW.pt (rw_or (PW.pt (rw_and (rt_cmp (o_eq (uns room)) (re_var 2) re_str rfl) (rw_and1 (rt_not (PW.pt (rw_and (rt_cmp (o_eq (uns room)) (re_var 3) re_int rfl) (rw_and1 (rt_val (re_callP (ok_law_is_name A) (room.mono (by omega)) gd takes_def (by rfl) A.a_law_is_name A.h_law_is_name A.b_law_is_name (ra_cons (re_ix x_ix (re_var 0) re_int) ra_nil)))))))))) (rw_or1 (PW.pt (rw_and (rt_cmp (o_eq (uns room)) (re_var 2) re_str rfl) (rw_and1 (rt_cmp (o_ne (uns room)) (re_var 3) re_int rfl))))))) (rss_one (rs_ret re_bl)) rss_nil)
    (rss_one (rs_ret (re_and (re_cmp o_in (re_var 2) (re_tup (ra_cons re_str (ra_cons re_str ra_nil)) (by exact Nat.le_of_ble_eq_true rfl)) rfl) (re_and (re_callP (ih.2) (room.mono (by omega)) gd takes_def (by rfl) A.a_law_right A.h_law_right A.b_law_right (ra_cons (re_ix x_ix (re_var 0) (re_un o_neg re_int)) (ra_cons (re_op o_add (re_var 1) re_int) ra_nil))) (re_one (re_callP (ih.2) (room.mono (by omega)) gd takes_def (by rfl) A.a_law_right A.h_law_right A.b_law_right (ra_cons (re_ix x_ix (re_var 0) (re_un o_neg re_int)) (ra_cons (re_op o_add (re_var 1) re_int) ra_nil)))))))))))))))),
      okP (k := 7 + n) A.F_law_right sc_law_right rfl rfl fun cd B outer s H E room gd => (rss_one (rs_ret (re_and (re_callB c_isi (by rfl) A.n_isinstance rfl (ra_cons (re_var 0) (ra_cons (re_bltn (by rfl) A.n_tuple rfl) ra_nil))) (re_and (re_cmp o_le (re_var 1) re_int rfl) (re_one (re_cmp (o_eq (uns room)) (re_lc (own := [("_law_one", 2)]) rfl sc_law_right.nd (ri_any (re_var 0)) (by exact blkOk_by (N := ["_law_value", "_law_depth", "_law_one"]) (sc := defScope s_law_right) (by decide +kernel)) (fun _ _ _ _ _ => (rg_name (i := 2) sc_law_right.nd rfl (by first | exact .inl rfl | exact .inr rfl))) (fun _ _ _ _ _ => (rts_one (rt_not (rt_val (re_callP (ih.1) (room.mono (by omega)) gd L2.takes0 (by rfl) A.a_law_is_line A.h_law_is_line A.b_law_is_line (ra_cons (re_var 2) (ra_cons (re_var 1) ra_nil))))))) (fun _ _ _ _ _ => (re_var 2))) (re_lst ra_nil (by exact Nat.le_of_ble_eq_true rfl)) rfl))))))⟩
theorem ok_law_is_line (A : FA w K mg) : FnG P w K mg base (19) A.f_law_is_line A.d_law_is_line ["_law_line_here", "_law_depth"] (spP K 2 ((g_law_is_line 12).1)) :=
  ((oks_law_is_line A 12).1)
theorem ok_law_right (A : FA w K mg) : FnG P w K mg base (19) A.f_law_right A.d_law_right ["_law_value", "_law_depth"] (spP K 2 ((g_law_is_line 12).2)) :=
  ((oks_law_is_line A 12).2)
theorem ok_law_is_body (A : FA w K mg) : FnG P w K mg base 20 A.f_law_is_body A.d_law_is_body ["_law_value"] (spP K 1 (m_law_is_body)) :=
  okP (k := 19) A.F_law_is_body sc_law_is_body rfl rfl fun cd B outer s H E room gd => (rss_cons (rs_if (rt_not (rt_val (re_callP (ok_law_right A) (room.mono (by omega)) gd takes_def (by rfl) A.a_law_right A.h_law_right A.b_law_right (ra_cons (re_var 0) (ra_cons re_int ra_nil))))) (rss_one (rs_ret re_bl)) rss_nil)
    (rss_cons (rs_setLc (own := [("_law_line_here", 2)]) (i := 1) rfl sc_law_is_body.nd rfl rfl (sw_true rfl rfl rfl (by decide +kernel)) (ri_any (re_callP (ok_law_all A) (room.mono (by omega)) gd takes_def (by rfl) A.a_law_all A.h_law_all A.b_law_all (ra_cons (re_var 0) ra_nil))) (by exact blkOk_by (N := ["_law_value", "_law_words", "_law_line_here"]) (sc := defScope s_law_is_body) (by decide +kernel)) (fun _ _ _ _ _ => (rg_name (i := 2) sc_law_is_body.nd rfl (by first | exact .inl rfl | exact .inr rfl))) (fun _ _ _ _ _ => rts_nil) (fun _ _ _ _ _ => (re_ix x_ix (re_var 2) re_int)))
    (rss_one (rs_ret (re_and (re_cmp o_le (re_callB c_len (by rfl) A.n_len rfl (ra_cons (re_var 1) ra_nil)) re_int rfl) (re_one (re_cmp o_le (re_op o_add (re_bm PySem.F.plainAttrs_list PySem.F.slot_list_count PySem.F.type_list_count m_count (re_var 1) (ra_cons re_str ra_nil)) (re_bm PySem.F.plainAttrs_list PySem.F.slot_list_count PySem.F.type_list_count m_count (re_var 1) (ra_cons re_str ra_nil))) re_int rfl)))))))
theorem ok_law_refused (A : FA w K mg) : FnG P w K mg base 17 A.f_law_refused A.d_law_refused ["_law_value"] (spP K 1 (m_law_refused A.xc)) :=
  okP (k := 16) A.F_law_refused sc_law_refused rfl rfl fun cd B outer s H E room gd => (rss_cons (rs_set (i := 1) sc_law_refused.nd rfl (.inl rfl) (re_new ra_nil (by exact Nat.le_of_ble_eq_true rfl)))
    (rss_cons (rs_for (us := [2]) own_def rfl (ri_range1 (by rfl) A.n_range (ra_cons re_int ra_nil)) (rg_name (i := 2) sc_law_refused.nd rfl (by first | exact .inl rfl | exact .inr rfl))
    (rss_one (have kn0 : ∀ C, lkB C [(A.xc.InvalidBody, true)] = some true → XCls K C "value" := fun C h => lkB_all (P := fun C b => b = true → XCls K C "value") (l := [(A.xc.InvalidBody, true)]) ⟨(fun _ => A.xs_InvalidBody), trivial⟩ h rfl; rs_tryAs (i := 3) rfl rfl sc_law_refused.nd rfl rfl (by rfl) A.xa_InvalidBody takes_def (fun C b h => lkB_all (P := fun C b => PySem.W.exmOne K (.ref C) (.ref A.xc.InvalidBody) = some b) (l := [(A.xc.InvalidBody, true)]) ⟨A.xe_InvalidBody_InvalidBody, trivial⟩ h) (fun W1 pn1 xe1 tk1 hp1 => (rss_cons (rs_if (rt_cmp (o_eq (uns room)) (re_var 2) re_int rfl) (rss_one (rs_expr (re_callP (ok_least_ticks A) (room.mono (by omega)) gd tk1 (by rfl) A.a_least_ticks A.h_least_ticks A.b_least_ticks (ra_cons (re_var 0) ra_nil)))) (rss_one (rs_expr (re_callP (ok_most_ticks A) (room.mono (by omega)) gd tk1 (by rfl) A.a_most_ticks A.h_most_ticks A.b_most_ticks (ra_cons (re_var 0) ra_nil)))))
    (rss_one (rs_expr (re_bm PySem.F.plainAttrs_list PySem.F.slot_list_append PySem.F.type_list_append m_append (re_var 1) (ra_cons re_bl ra_nil))))))
    (fun a0 oe0 C0 o0 pn0 hC0 hz0 hf0 => (rss_one (rs_expr (re_bm PySem.F.plainAttrs_list PySem.F.slot_list_append PySem.F.type_list_append m_append (re_var 1) (ra_cons (re_and (re_callB (c_isX (kn0 C0 hC0) hz0 hf0 (kt1_ok (B0 := A.xc.RunError) (l := [(A.xc.InvalidBody, true)]) ⟨A.xk_InvalidBody_RunError, trivial⟩)) (by rfl) A.n_isinstance rfl (ra_cons (re_var 3) (ra_cons (re_cls (by rfl) A.xa_RunError) ra_nil))) (re_one (re_cmp (o_eq (uns3 room)) (re_callB (c_reprU (un3 room) gd) (by rfl) A.n_repr rfl (ra_cons (re_xf (kn0 C0 hC0) hz0 hf0 (re_var 3)) ra_nil)) (re_callB (c_reprU (un3 room) gd) (by rfl) A.n_repr rfl (ra_cons (re_var 0) ra_nil)) rfl))) ra_nil))))))))
    (rss_one (rs_ret (re_cmp (o_eq (uns room)) (re_var 1) (re_lst (ra_cons re_bl (ra_cons re_bl ra_nil)) (by exact Nat.le_of_ble_eq_true rfl)) rfl)))))
theorem ok_law (A : FA w K mg) : FnG P w K mg base 21 A.f_law A.d_law ["_law_script"] (spG K 1 (m_law A.xc)) :=
  okG (k := 20) A.F_law sc_law rfl rfl fun cd B outer s H E room gd => (rss_cons (rs_set (i := 1) sc_law.nd rfl (.inl rfl) (re_tup (ra_cons (re_tup (ra_cons re_str (ra_cons re_int (ra_cons (re_tup (ra_cons (re_tup (ra_cons re_str (ra_cons re_int (ra_cons (re_tup (ra_cons (re_tup (ra_cons re_str (ra_cons re_int ra_nil)) (by exact Nat.le_of_ble_eq_true rfl)) ra_nil) (by exact Nat.le_of_ble_eq_true rfl)) ra_nil))) (by exact Nat.le_of_ble_eq_true rfl)) (ra_cons (re_tup (ra_cons re_str (ra_cons re_int ra_nil)) (by exact Nat.le_of_ble_eq_true rfl)) ra_nil)) (by exact Nat.le_of_ble_eq_true rfl)) ra_nil))) (by exact Nat.le_of_ble_eq_true rfl)) ra_nil) (by exact Nat.le_of_ble_eq_true rfl)))
    (rss_cons (rs_if (rt_cmp (o_ne (uns room)) (re_lst (ra_cons (re_callP (ok_least_ticks A) (room.mono (by omega)) gd takes_def (by rfl) A.a_least_ticks A.h_least_ticks A.b_least_ticks (ra_cons (re_var 1) ra_nil)) (ra_cons (re_callP (ok_most_ticks A) (room.mono (by omega)) gd takes_def (by rfl) A.a_most_ticks A.h_most_ticks A.b_most_ticks (ra_cons (re_var 1) ra_nil)) (ra_cons (re_callP (ok_least_ticks A) (room.mono (by omega)) gd takes_def (by rfl) A.a_least_ticks A.h_least_ticks A.b_least_ticks (ra_cons (re_tup ra_nil (by exact Nat.le_of_ble_eq_true rfl)) ra_nil)) (ra_cons (re_callP (ok_most_ticks A) (room.mono (by omega)) gd takes_def (by rfl) A.a_most_ticks A.h_most_ticks A.b_most_ticks (ra_cons (re_tup ra_nil (by exact Nat.le_of_ble_eq_true rfl)) ra_nil)) ra_nil)))) (by exact Nat.le_of_ble_eq_true rfl)) (re_lst (ra_cons re_int (ra_cons re_int (ra_cons re_int (ra_cons re_int ra_nil)))) (by exact Nat.le_of_ble_eq_true rfl)) rfl) (rss_one (rs_ret re_bl)) rss_nil)
    (rss_cons (rs_for (us := [2]) own_def rfl (ri_any (re_lst (ra_cons re_non (ra_cons (re_lst ra_nil (by exact Nat.le_of_ble_eq_true rfl)) (ra_cons (re_tup (ra_cons (re_tup (ra_cons re_str (ra_cons re_int ra_nil)) (by exact Nat.le_of_ble_eq_true rfl)) ra_nil) (by exact Nat.le_of_ble_eq_true rfl)) (ra_cons (re_tup (ra_cons (re_tup (ra_cons re_str (ra_cons re_int (ra_cons (re_tup ra_nil (by exact Nat.le_of_ble_eq_true rfl)) ra_nil))) (by exact Nat.le_of_ble_eq_true rfl)) ra_nil) (by exact Nat.le_of_ble_eq_true rfl)) (ra_cons (re_tup (ra_cons re_str (ra_cons re_int ra_nil)) (by exact Nat.le_of_ble_eq_true rfl)) (ra_cons re_int (ra_cons re_str (ra_cons (re_tup (ra_cons (re_tup ra_nil (by exact Nat.le_of_ble_eq_true rfl)) ra_nil) (by exact Nat.le_of_ble_eq_true rfl)) (ra_cons (re_tup (ra_cons (re_tup (ra_cons re_str (ra_cons re_bl ra_nil)) (by exact Nat.le_of_ble_eq_true rfl)) ra_nil) (by exact Nat.le_of_ble_eq_true rfl)) ra_nil))))))))) (by exact Nat.le_of_ble_eq_true rfl))) (rg_name (i := 2) sc_law.nd rfl (by first | exact .inl rfl | exact .inr rfl))
    (rss_one (rs_if (rt_not (rt_val (re_callP (ok_law_refused A) (room.mono (by omega)) gd takes_def (by rfl) A.a_law_refused A.h_law_refused A.b_law_refused (ra_cons (re_var 2) ra_nil)))) (rss_one (rs_ret re_bl)) rss_nil)))
    (rss_cons (rs_for (us := [3]) own_def rfl (ri_range1 (by rfl) A.n_range (ra_cons (re_callB (c_max rfl) (by rfl) A.n_max rfl (ra_cons re_int (ra_cons (re_callB (c_min rfl) (by rfl) A.n_min rfl (ra_cons re_int (ra_cons (re_callB c_len (by rfl) A.n_len rfl (ra_cons (re_var 0) ra_nil)) ra_nil))) ra_nil))) ra_nil)) (rg_name (i := 3) sc_law.nd rfl (by first | exact .inl rfl | exact .inr rfl))
    (rss_cons (rs_set (i := 4) sc_law.nd rfl (.inl rfl) (re_callG (ok_law_pool A) (room.mono (by omega)) gd takes_def (by rfl) A.a_law_pool A.h_law_pool A.b_law_pool (ra_cons (re_var 0) (ra_cons (re_var 3) ra_nil))))
    (rss_cons (rs_set (i := 5) sc_law.nd rfl (.inl rfl) (re_callG (ok_law_body A) (room.mono (by omega)) gd takes_def (by rfl) A.a_law_body A.h_law_body A.b_law_body (ra_cons (re_var 4) (ra_cons (re_lst (ra_cons re_str (ra_cons re_str ra_nil)) (by exact Nat.le_of_ble_eq_true rfl)) (ra_cons (re_lst (ra_cons re_str ra_nil) (by exact Nat.le_of_ble_eq_true rfl)) (ra_cons (re_lst (ra_cons re_str ra_nil) (by exact Nat.le_of_ble_eq_true rfl)) (ra_cons re_int ra_nil)))))))
    (rss_one (rs_for (us := [6]) own_def rfl (ri_any (re_lst (ra_cons (re_var 5) (ra_cons (re_slice (re_var 5) ro_none (ro_some re_int)) (ra_cons (re_tup (ra_cons (re_tup (ra_cons re_str (ra_cons (re_slice (re_var 5) ro_none (ro_some re_int)) (ra_cons (re_tup (ra_cons (re_tup (ra_cons re_str (ra_cons re_int ra_nil)) (by exact Nat.le_of_ble_eq_true rfl)) ra_nil) (by exact Nat.le_of_ble_eq_true rfl)) ra_nil))) (by exact Nat.le_of_ble_eq_true rfl)) ra_nil) (by exact Nat.le_of_ble_eq_true rfl)) (ra_cons (re_tup (ra_cons (re_tup (ra_cons re_str (ra_cons re_str (ra_cons (re_slice (re_var 5) ro_none (ro_some re_int)) (ra_cons (re_tup ra_nil (by exact Nat.le_of_ble_eq_true rfl)) ra_nil)))) (by exact Nat.le_of_ble_eq_true rfl)) ra_nil) (by exact Nat.le_of_ble_eq_true rfl)) ra_nil)))) (by exact Nat.le_of_ble_eq_true rfl))) (rg_name (i := 6) sc_law.nd rfl (by first | exact .inl rfl | exact .inr rfl))
    (rss_one (rs_if (PW.pt (rw_and (rt_val (re_callP (ok_law_is_body A) (room.mono (by omega)) gd takes_def (by rfl) A.a_law_is_body A.h_law_is_body A.b_law_is_body (ra_cons (re_var 6) ra_nil))) (rw_and1 (rt_cmp (o_ne (uns room)) (re_tup (ra_cons (re_callP (ok_least_ticks A) (room.mono (by omega)) gd takes_def (by rfl) A.a_least_ticks A.h_least_ticks A.b_least_ticks (ra_cons (re_var 6) ra_nil)) (ra_cons (re_callP (ok_most_ticks A) (room.mono (by omega)) gd takes_def (by rfl) A.a_most_ticks A.h_most_ticks A.b_most_ticks (ra_cons (re_var 6) ra_nil)) ra_nil)) (by exact Nat.le_of_ble_eq_true rfl)) (re_callP (ok_law_ticks A) (room.mono (by omega)) gd takes_def (by rfl) A.a_law_ticks A.h_law_ticks A.b_law_ticks (ra_cons (re_var 6) ra_nil)) rfl)))) (rss_one (rs_ret re_bl)) rss_nil)))))))
    (rss_one (rs_ret re_bl))))))
end
theorem all_mk {l : PySem.W.OpenLaw} {w : World} {K : PySem.W.Frag} {h : Heap} {mg : Str → Option Value} {fa f0 f1 f2 f3 f4 f5 f6 f7 f8 f9 f10 f11 f12 f13 f14 f15 f16 f17 f18 f19 f20 f21 f22 f23 f24 f25 f26 f27 d0 d1 cx0 cx1 fi0 : Addr} {od0 an0 od1 an1 od2 an2 od3 an3 od4 an4 od5 an5 od6 an6 od7 an7 od8 an8 od9 an9 od10 an10 od11 an11 od12 an12 od13 an13 od14 an14 od15 an15 od16 an16 od17 an17 od18 an18 od19 an19 od20 an20 od21 an21 od22 an22 od23 an23 od24 an24 od25 an25 od26 an26 od27 an27 oi0 ai0 : Option Addr} {sl0 sl1 sl2 sl3 sl4 sl5 sl6 sl7 sl8 sl9 sl10 sl11 sl12 sl13 sl14 sl15 sl16 sl17 sl18 sl19 sl20 sl21 sl22 sl23 sl24 sl25 sl26 sl27 si0 : Array (Option Value)} {oc0 kV0 dc0 pm0 cd0 ct0 oc1 kV1 dc1 pm1 cd1 ct1 oc2 kV2 dc2 pm2 cd2 ct2 oc3 kV3 dc3 pm3 cd3 ct3 oc4 kV4 dc4 pm4 cd4 ct4 oc5 kV5 dc5 pm5 cd5 ct5 oc6 kV6 dc6 pm6 cd6 ct6 oc7 kV7 dc7 pm7 cd7 ct7 oc8 kV8 dc8 pm8 cd8 ct8 oc9 kV9 dc9 pm9 cd9 ct9 oc10 kV10 dc10 pm10 cd10 ct10 oc11 kV11 dc11 pm11 cd11 ct11 oc12 kV12 dc12 pm12 cd12 ct12 oc13 kV13 dc13 pm13 cd13 ct13 oc14 kV14 dc14 pm14 cd14 ct14 oc15 kV15 dc15 pm15 cd15 ct15 oc16 kV16 dc16 pm16 cd16 ct16 oc17 kV17 dc17 pm17 cd17 ct17 oc18 kV18 dc18 pm18 cd18 ct18 oc19 kV19 dc19 pm19 cd19 ct19 oc20 kV20 dc20 pm20 cd20 ct20 oc21 kV21 dc21 pm21 cd21 ct21 oc22 kV22 dc22 pm22 cd22 ct22 oc23 kV23 dc23 pm23 cd23 ct23 oc24 kV24 dc24 pm24 cd24 ct24 oc25 kV25 dc25 pm25 cd25 ct25 oc26 kV26 dc26 pm26 cd26 ct26 oc27 kV27 dc27 pm27 cd27 ct27 u0 u1 u2 u3 u4 ic0 iV0 id0 ip0 ie0 it0 : Value} (X : K.In h) (G : h.Ns mainGlobals mg) (hfa : mg "law" = some (.ref fa))
    (a0 : PySem.W.nsIn K mainGlobals "is_integer" = some (some (.ref f0))) (l0 : K.lookup f0 = some ⟨oc0, od0, .func (PySem.W.fnOf "is_integer" "is_integer" (defArgs s_is_integer) (defBody s_is_integer) (defScope s_is_integer) .none kV0 dc0 pm0 an0 cd0 ct0), sl0⟩) (c0 : PySem.W.codeIn K cd0 "is_integer" = true) (k0 : PySem.W.keepIn K (.ref f0) = true)
    (a1 : PySem.W.nsIn K mainGlobals "is_between" = some (some (.ref f1))) (l1 : K.lookup f1 = some ⟨oc1, od1, .func (PySem.W.fnOf "is_between" "is_between" (defArgs s_is_between) (defBody s_is_between) (defScope s_is_between) .none kV1 dc1 pm1 an1 cd1 ct1), sl1⟩) (c1 : PySem.W.codeIn K cd1 "is_between" = true) (k1 : PySem.W.keepIn K (.ref f1) = true)
    (a2 : PySem.W.nsIn K mainGlobals "is_name" = some (some (.ref f2))) (l2 : K.lookup f2 = some ⟨oc2, od2, .func (PySem.W.fnOf "is_name" "is_name" (defArgs s_is_name) (defBody s_is_name) (defScope s_is_name) .none kV2 dc2 pm2 an2 cd2 ct2), sl2⟩) (c2 : PySem.W.codeIn K cd2 "is_name" = true) (k2 : PySem.W.keepIn K (.ref f2) = true)
    (a3 : PySem.W.nsIn K mainGlobals "is_statement" = some (some (.ref f3))) (l3 : K.lookup f3 = some ⟨oc3, od3, .func (PySem.W.fnOf "is_statement" "is_statement" (defArgs s_is_statement) (defBody s_is_statement) (defScope s_is_statement) .none kV3 dc3 pm3 an3 cd3 ct3), sl3⟩) (c3 : PySem.W.codeIn K cd3 "is_statement" = true) (k3 : PySem.W.keepIn K (.ref f3) = true)
    (a4 : PySem.W.nsIn K mainGlobals "is_part" = some (some (.ref f4))) (l4 : K.lookup f4 = some ⟨oc4, od4, .func (PySem.W.fnOf "is_part" "is_part" (defArgs s_is_part) (defBody s_is_part) (defScope s_is_part) .none kV4 dc4 pm4 an4 cd4 ct4), sl4⟩) (c4 : PySem.W.codeIn K cd4 "is_part" = true) (k4 : PySem.W.keepIn K (.ref f4) = true)
    (a5 : PySem.W.nsIn K mainGlobals "inner_bodies" = some (some (.ref f5))) (l5 : K.lookup f5 = some ⟨oc5, od5, .func (PySem.W.fnOf "inner_bodies" "inner_bodies" (defArgs s_inner_bodies) (defBody s_inner_bodies) (defScope s_inner_bodies) .none kV5 dc5 pm5 an5 cd5 ct5), sl5⟩) (c5 : PySem.W.codeIn K cd5 "inner_bodies" = true) (k5 : PySem.W.keepIn K (.ref f5) = true)
    (a6 : PySem.W.nsIn K mainGlobals "all_statements" = some (some (.ref f6))) (l6 : K.lookup f6 = some ⟨oc6, od6, .func (PySem.W.fnOf "all_statements" "all_statements" (defArgs s_all_statements) (defBody s_all_statements) (defScope s_all_statements) .none kV6 dc6 pm6 an6 cd6 ct6), sl6⟩) (c6 : PySem.W.codeIn K cd6 "all_statements" = true) (k6 : PySem.W.keepIn K (.ref f6) = true)
    (a7 : PySem.W.nsIn K mainGlobals "tick_bounds" = some (some (.ref f7))) (l7 : K.lookup f7 = some ⟨oc7, od7, .func (PySem.W.fnOf "tick_bounds" "tick_bounds" (defArgs s_tick_bounds) (defBody s_tick_bounds) (defScope s_tick_bounds) .none kV7 dc7 pm7 an7 cd7 ct7), sl7⟩) (c7 : PySem.W.codeIn K cd7 "tick_bounds" = true) (k7 : PySem.W.keepIn K (.ref f7) = true)
    (a8 : PySem.W.nsIn K mainGlobals "statement_bounds" = some (some (.ref f8))) (l8 : K.lookup f8 = some ⟨oc8, od8, .func (PySem.W.fnOf "statement_bounds" "statement_bounds" (defArgs s_statement_bounds) (defBody s_statement_bounds) (defScope s_statement_bounds) .none kV8 dc8 pm8 an8 cd8 ct8), sl8⟩) (c8 : PySem.W.codeIn K cd8 "statement_bounds" = true) (k8 : PySem.W.keepIn K (.ref f8) = true)
    (a9 : PySem.W.nsIn K mainGlobals "is_body" = some (some (.ref f9))) (l9 : K.lookup f9 = some ⟨oc9, od9, .func (PySem.W.fnOf "is_body" "is_body" (defArgs s_is_body) (defBody s_is_body) (defScope s_is_body) .none kV9 dc9 pm9 an9 cd9 ct9), sl9⟩) (c9 : PySem.W.codeIn K cd9 "is_body" = true) (k9 : PySem.W.keepIn K (.ref f9) = true)
    (a10 : PySem.W.nsIn K mainGlobals "least_ticks" = some (some (.ref f10))) (l10 : K.lookup f10 = some ⟨oc10, od10, .func (PySem.W.fnOf "least_ticks" "least_ticks" (defArgs s_least_ticks) (defBody s_least_ticks) (defScope s_least_ticks) .none kV10 dc10 pm10 an10 cd10 ct10), sl10⟩) (c10 : PySem.W.codeIn K cd10 "least_ticks" = true) (k10 : PySem.W.keepIn K (.ref f10) = true)
    (a11 : PySem.W.nsIn K mainGlobals "most_ticks" = some (some (.ref f11))) (l11 : K.lookup f11 = some ⟨oc11, od11, .func (PySem.W.fnOf "most_ticks" "most_ticks" (defArgs s_most_ticks) (defBody s_most_ticks) (defScope s_most_ticks) .none kV11 dc11 pm11 an11 cd11 ct11), sl11⟩) (c11 : PySem.W.codeIn K cd11 "most_ticks" = true) (k11 : PySem.W.keepIn K (.ref f11) = true)
    (a12 : PySem.W.nsIn K mainGlobals "uses_ticks" = some (some (.ref f12))) (l12 : K.lookup f12 = some ⟨oc12, od12, .func (PySem.W.fnOf "uses_ticks" "uses_ticks" (defArgs s_uses_ticks) (defBody s_uses_ticks) (defScope s_uses_ticks) .none kV12 dc12 pm12 an12 cd12 ct12), sl12⟩) (c12 : PySem.W.codeIn K cd12 "uses_ticks" = true) (k12 : PySem.W.keepIn K (.ref f12) = true)
    (a13 : PySem.W.nsIn K mainGlobals "_law_pool" = some (some (.ref f13))) (l13 : K.lookup f13 = some ⟨oc13, od13, .func (PySem.W.fnOf "_law_pool" "_law_pool" (defArgs s_law_pool) (defBody s_law_pool) (defScope s_law_pool) .none kV13 dc13 pm13 an13 cd13 ct13), sl13⟩) (c13 : PySem.W.codeIn K cd13 "_law_pool" = true) (k13 : PySem.W.keepIn K (.ref f13) = true)
    (a14 : PySem.W.nsIn K mainGlobals "_law_take" = some (some (.ref f14))) (l14 : K.lookup f14 = some ⟨oc14, od14, .func (PySem.W.fnOf "_law_take" "_law_take" (defArgs s_law_take) (defBody s_law_take) (defScope s_law_take) .none kV14 dc14 pm14 an14 cd14 ct14), sl14⟩) (c14 : PySem.W.codeIn K cd14 "_law_take" = true) (k14 : PySem.W.keepIn K (.ref f14) = true)
    (a15 : PySem.W.nsIn K mainGlobals "_law_line" = some (some (.ref f15))) (l15 : K.lookup f15 = some ⟨oc15, od15, .func (PySem.W.fnOf "_law_line" "_law_line" (defArgs s_law_line) (defBody s_law_line) (defScope s_law_line) .none kV15 dc15 pm15 an15 cd15 ct15), sl15⟩) (c15 : PySem.W.codeIn K cd15 "_law_line" = true) (k15 : PySem.W.keepIn K (.ref f15) = true)
    (a16 : PySem.W.nsIn K mainGlobals "_law_lines" = some (some (.ref f16))) (l16 : K.lookup f16 = some ⟨oc16, od16, .func (PySem.W.fnOf "_law_lines" "_law_lines" (defArgs s_law_lines) (defBody s_law_lines) (defScope s_law_lines) .none kV16 dc16 pm16 an16 cd16 ct16), sl16⟩) (c16 : PySem.W.codeIn K cd16 "_law_lines" = true) (k16 : PySem.W.keepIn K (.ref f16) = true)
    (a17 : PySem.W.nsIn K mainGlobals "_law_body" = some (some (.ref f17))) (l17 : K.lookup f17 = some ⟨oc17, od17, .func (PySem.W.fnOf "_law_body" "_law_body" (defArgs s_law_body) (defBody s_law_body) (defScope s_law_body) .none kV17 dc17 pm17 an17 cd17 ct17), sl17⟩) (c17 : PySem.W.codeIn K cd17 "_law_body" = true) (k17 : PySem.W.keepIn K (.ref f17) = true)
    (a18 : PySem.W.nsIn K mainGlobals "_law_is_name" = some (some (.ref f18))) (l18 : K.lookup f18 = some ⟨oc18, od18, .func (PySem.W.fnOf "_law_is_name" "_law_is_name" (defArgs s_law_is_name) (defBody s_law_is_name) (defScope s_law_is_name) .none kV18 dc18 pm18 an18 cd18 ct18), sl18⟩) (c18 : PySem.W.codeIn K cd18 "_law_is_name" = true) (k18 : PySem.W.keepIn K (.ref f18) = true)
    (a19 : PySem.W.nsIn K mainGlobals "_law_is_from" = some (some (.ref f19))) (l19 : K.lookup f19 = some ⟨oc19, od19, .func (PySem.W.fnOf "_law_is_from" "_law_is_from" (defArgs s_law_is_from) (defBody s_law_is_from) (defScope s_law_is_from) .none kV19 dc19 pm19 an19 cd19 ct19), sl19⟩) (c19 : PySem.W.codeIn K cd19 "_law_is_from" = true) (k19 : PySem.W.keepIn K (.ref f19) = true)
    (a20 : PySem.W.nsIn K mainGlobals "_law_inner" = some (some (.ref f20))) (l20 : K.lookup f20 = some ⟨oc20, od20, .func (PySem.W.fnOf "_law_inner" "_law_inner" (defArgs s_law_inner) (defBody s_law_inner) (defScope s_law_inner) .none kV20 dc20 pm20 an20 cd20 ct20), sl20⟩) (c20 : PySem.W.codeIn K cd20 "_law_inner" = true) (k20 : PySem.W.keepIn K (.ref f20) = true)
    (a21 : PySem.W.nsIn K mainGlobals "_law_is_line" = some (some (.ref f21))) (l21 : K.lookup f21 = some ⟨oc21, od21, .func (PySem.W.fnOf "_law_is_line" "_law_is_line" (defArgs s_law_is_line) (defBody s_law_is_line) (defScope s_law_is_line) .none kV21 dc21 pm21 an21 cd21 ct21), sl21⟩) (c21 : PySem.W.codeIn K cd21 "_law_is_line" = true) (k21 : PySem.W.keepIn K (.ref f21) = true)
    (a22 : PySem.W.nsIn K mainGlobals "_law_right" = some (some (.ref f22))) (l22 : K.lookup f22 = some ⟨oc22, od22, .func (PySem.W.fnOf "_law_right" "_law_right" (defArgs s_law_right) (defBody s_law_right) (defScope s_law_right) .none kV22 dc22 pm22 an22 cd22 ct22), sl22⟩) (c22 : PySem.W.codeIn K cd22 "_law_right" = true) (k22 : PySem.W.keepIn K (.ref f22) = true)
    (a23 : PySem.W.nsIn K mainGlobals "_law_all" = some (some (.ref f23))) (l23 : K.lookup f23 = some ⟨oc23, od23, .func (PySem.W.fnOf "_law_all" "_law_all" (defArgs s_law_all) (defBody s_law_all) (defScope s_law_all) .none kV23 dc23 pm23 an23 cd23 ct23), sl23⟩) (c23 : PySem.W.codeIn K cd23 "_law_all" = true) (k23 : PySem.W.keepIn K (.ref f23) = true)
    (a24 : PySem.W.nsIn K mainGlobals "_law_is_body" = some (some (.ref f24))) (l24 : K.lookup f24 = some ⟨oc24, od24, .func (PySem.W.fnOf "_law_is_body" "_law_is_body" (defArgs s_law_is_body) (defBody s_law_is_body) (defScope s_law_is_body) .none kV24 dc24 pm24 an24 cd24 ct24), sl24⟩) (c24 : PySem.W.codeIn K cd24 "_law_is_body" = true) (k24 : PySem.W.keepIn K (.ref f24) = true)
    (a25 : PySem.W.nsIn K mainGlobals "_law_ticks" = some (some (.ref f25))) (l25 : K.lookup f25 = some ⟨oc25, od25, .func (PySem.W.fnOf "_law_ticks" "_law_ticks" (defArgs s_law_ticks) (defBody s_law_ticks) (defScope s_law_ticks) .none kV25 dc25 pm25 an25 cd25 ct25), sl25⟩) (c25 : PySem.W.codeIn K cd25 "_law_ticks" = true) (k25 : PySem.W.keepIn K (.ref f25) = true)
    (a26 : PySem.W.nsIn K mainGlobals "_law_refused" = some (some (.ref f26))) (l26 : K.lookup f26 = some ⟨oc26, od26, .func (PySem.W.fnOf "_law_refused" "_law_refused" (defArgs s_law_refused) (defBody s_law_refused) (defScope s_law_refused) .none kV26 dc26 pm26 an26 cd26 ct26), sl26⟩) (c26 : PySem.W.codeIn K cd26 "_law_refused" = true) (k26 : PySem.W.keepIn K (.ref f26) = true)
    (a27 : PySem.W.nsIn K mainGlobals "law" = some (some (.ref f27))) (l27 : K.lookup f27 = some ⟨oc27, od27, .func (PySem.W.fnOf "law" "law" (defArgs s_law) (defBody s_law) (defScope s_law) .none kV27 dc27 pm27 an27 cd27 ct27), sl27⟩) (c27 : PySem.W.codeIn K cd27 "law" = true) (k27 : PySem.W.keepIn K (.ref f27) = true)
    (z0 : PySem.W.nsIn K mainGlobals "int" = some none)
    (z1 : PySem.W.nsIn K mainGlobals "isinstance" = some none)
    (z2 : PySem.W.nsIn K mainGlobals "bool" = some none)
    (z3 : PySem.W.nsIn K mainGlobals "str" = some none)
    (z4 : PySem.W.nsIn K mainGlobals "len" = some none)
    (z5 : PySem.W.nsIn K mainGlobals "all" = some none)
    (z6 : PySem.W.nsIn K mainGlobals "tuple" = some none)
    (z7 : PySem.W.nsIn K mainGlobals "zip" = some none)
    (z8 : PySem.W.nsIn K mainGlobals "min" = some none)
    (z9 : PySem.W.nsIn K mainGlobals "max" = some none)
    (z10 : PySem.W.nsIn K mainGlobals "abs" = some none)
    (z11 : PySem.W.nsIn K mainGlobals "range" = some none)
    (z12 : PySem.W.nsIn K mainGlobals "repr" = some none)
    (x0 : PySem.W.nsIn K mainGlobals "MOST_LETTERS" = some (some u0)) (r0 : repV K u0 c_MOST_LETTERS = true)
    (x1 : PySem.W.nsIn K mainGlobals "LETTERS" = some (some u1)) (r1 : repV K u1 c_LETTERS = true)
    (x2 : PySem.W.nsIn K mainGlobals "MOST_LEVELS" = some (some u2)) (r2 : repV K u2 c_MOST_LEVELS = true)
    (x3 : PySem.W.nsIn K mainGlobals "MOST_STATEMENTS" = some (some u3)) (r3 : repV K u3 c_MOST_STATEMENTS = true)
    (x4 : PySem.W.nsIn K mainGlobals "MOST_BRANCHES" = some (some u4)) (r4 : repV K u4 c_MOST_BRANCHES = true)
    {es0 : Array DictEntry} {en0 : Nat} (t0 : PySem.W.nsIn K mainGlobals "MOST" = some (some (.ref d0))) (m0 : K.lookup d0 = some ⟨.type "dict", none, .dict es0 en0, #[]⟩) (q0 : PySem.W.KeysLit w.params es0.toList) (w0 : (d0 == sysModules) = false) (e0 : tabEs K es0.toList t_MOST = true)
    {es1 : Array DictEntry} {en1 : Nat} (t1 : PySem.W.nsIn K mainGlobals "FORMS" = some (some (.ref d1))) (m1 : K.lookup d1 = some ⟨.type "dict", none, .dict es1 en1, #[]⟩) (q1 : PySem.W.KeysLit w.params es1.toList) (w1 : (d1 == sysModules) = false) (e1 : tabEs K es1.toList t_FORMS = true)
    (xa0 : PySem.W.nsIn K mainGlobals "InvalidBody" = some (some (.ref cx0)))
    (xa1 : PySem.W.nsIn K mainGlobals "RunError" = some (some (.ref cx1)))
    (yo0 : ∃ nm q N bs bm sn sub ab col dd k0 k1 k2 k3 k5, K.lookup cx0 = some (excClassObj nm q cx0 N bs bm true sn sub ab col dd k0 k1 k2 k3 k5 "ValueError.__new__") ∧ PySem.HandSPX.refsVE bm = true)
    (ysa0 : PySem.W.findIn K (.ref cx0) "__setattr__" = some (some (.builtin "object.__setattr__")))
    (yex0 : PySem.W.subIn K (.ref cx0) (.type "BaseException") = some true)
    (yty0 : PySem.W.typeIn K (.ref cx0) = some (.type "type"))
    (ykc0 : PySem.W.keepIn K (.ref cx0) = true)
    (yga0 : PySem.W.findIn K (.ref cx0) "__getattribute__" = some (some (.builtin "BaseException.__getattribute__")))
    (ygg0 : PySem.W.findIn K (.ref cx0) "__getattr__" = some none)
    (yhd0 : PySem.W.hasDictIn K cx0 = true)
    (yno0 : PySem.W.findIn K (.ref cx0) "value" = some none)
    (ycl0 : PySem.W.findIn K (.ref cx0) "__class__" = some (some (.builtin "object.__class__")))
    (ymr0 : PySem.W.mroIn K cx0 (.type "object") = some true)
    (ysp : PySem.W.specialIn K (.builtin "object.__class__") "__get__" = some (some (.builtin "getset_descriptor.__get__"))) (ytk : PySem.W.takesIn K (.builtin "object.__class__") = some true)
    (xi0 : PySem.W.findIn K (.ref cx0) "__init__" = some (some (.ref fi0))) (li0 : K.lookup fi0 = some ⟨ic0, oi0, .func (PySem.W.fnOf "__init__" "InvalidBody.__init__" (defArgs s_init_InvalidBody) (defBody s_init_InvalidBody) (defScope s_init_InvalidBody) .none iV0 id0 ip0 ai0 ie0 it0), si0⟩) (ci0 : PySem.W.codeIn K ie0 "InvalidBody.__init__" = true) (ki0 : PySem.W.keepIn K (.ref fi0) = true) (xt0 : PySem.W.typeIn K (.ref fi0) = some (.type "function"))
    (xe0_0 : PySem.W.exmOne K (.ref cx0) (.ref cx0) = some true)
    (xk0_1 : PySem.W.kitOne K (.ref cx0) (.ref cx1) = some true)
    : ∃ (xc : XC) (fd : FuncData), (∀ (s : Shared) (v : Value), BindsTo s fd ⟨[v], []⟩ [("_law_script", v)]) ∧ ∀ base : Heap, K.In base → base.Ns mainGlobals mg → FnG l.prog w K mg base 21 fa fd ["_law_script"] (spG K 1 (m_law xc)) := by
  have e := hfa.symm.trans (PySem.W.mg_of X G a27)
  cases e
  have F0 := fun_mk (st := s_is_integer) l0 c0 k0
  have F1 := fun_mk (st := s_is_between) l1 c1 k1
  have F2 := fun_mk (st := s_is_name) l2 c2 k2
  have F3 := fun_mk (st := s_is_statement) l3 c3 k3
  have F4 := fun_mk (st := s_is_part) l4 c4 k4
  have F5 := fun_mk (st := s_inner_bodies) l5 c5 k5
  have F6 := fun_mk (st := s_all_statements) l6 c6 k6
  have F7 := fun_mk (st := s_tick_bounds) l7 c7 k7
  have F8 := fun_mk (st := s_statement_bounds) l8 c8 k8
  have F9 := fun_mk (st := s_is_body) l9 c9 k9
  have F10 := fun_mk (st := s_least_ticks) l10 c10 k10
  have F11 := fun_mk (st := s_most_ticks) l11 c11 k11
  have F12 := fun_mk (st := s_uses_ticks) l12 c12 k12
  have F13 := fun_mk (st := s_law_pool) l13 c13 k13
  have F14 := fun_mk (st := s_law_take) l14 c14 k14
  have F15 := fun_mk (st := s_law_line) l15 c15 k15
  have F16 := fun_mk (st := s_law_lines) l16 c16 k16
  have F17 := fun_mk (st := s_law_body) l17 c17 k17
  have F18 := fun_mk (st := s_law_is_name) l18 c18 k18
  have F19 := fun_mk (st := s_law_is_from) l19 c19 k19
  have F20 := fun_mk (st := s_law_inner) l20 c20 k20
  have F21 := fun_mk (st := s_law_is_line) l21 c21 k21
  have F22 := fun_mk (st := s_law_right) l22 c22 k22
  have F23 := fun_mk (st := s_law_all) l23 c23 k23
  have F24 := fun_mk (st := s_law_is_body) l24 c24 k24
  have F25 := fun_mk (st := s_law_ticks) l25 c25 k25
  have F26 := fun_mk (st := s_law_refused) l26 c26 k26
  have F27 := fun_mk (st := s_law) l27 c27 k27
  have Fi0 := fun_mk (st := s_init_InvalidBody) li0 ci0 ki0
  let A : FA w K mg := {
    f_is_integer := _, d_is_integer := _, F_is_integer := F0, a_is_integer := PySem.W.mg_of X G a0, h_is_integer := k0, b_is_integer := F0.binds (ps := ["value"]) (fun _ _ _ _ _ _ us hl => match us, hl with | [_], _ => rfl),
    f_is_between := _, d_is_between := _, F_is_between := F1, a_is_between := PySem.W.mg_of X G a1, h_is_between := k1, b_is_between := F1.binds (ps := ["value", "least", "most"]) (fun _ _ _ _ _ _ us hl => match us, hl with | [_, _, _], _ => rfl),
    f_is_name := _, d_is_name := _, F_is_name := F2, a_is_name := PySem.W.mg_of X G a2, h_is_name := k2, b_is_name := F2.binds (ps := ["value"]) (fun _ _ _ _ _ _ us hl => match us, hl with | [_], _ => rfl),
    f_is_statement := _, d_is_statement := _, F_is_statement := F3, a_is_statement := PySem.W.mg_of X G a3, h_is_statement := k3, b_is_statement := F3.binds (ps := ["value"]) (fun _ _ _ _ _ _ us hl => match us, hl with | [_], _ => rfl),
    f_is_part := _, d_is_part := _, F_is_part := F4, a_is_part := PySem.W.mg_of X G a4, h_is_part := k4, b_is_part := F4.binds (ps := ["form", "value"]) (fun _ _ _ _ _ _ us hl => match us, hl with | [_, _], _ => rfl),
    f_inner_bodies := _, d_inner_bodies := _, F_inner_bodies := F5, a_inner_bodies := PySem.W.mg_of X G a5, h_inner_bodies := k5, b_inner_bodies := F5.binds (ps := ["statement"]) (fun _ _ _ _ _ _ us hl => match us, hl with | [_], _ => rfl),
    f_all_statements := _, d_all_statements := _, F_all_statements := F6, a_all_statements := PySem.W.mg_of X G a6, h_all_statements := k6, b_all_statements := F6.binds (ps := ["value"]) (fun _ _ _ _ _ _ us hl => match us, hl with | [_], _ => rfl),
    f_tick_bounds := _, d_tick_bounds := _, F_tick_bounds := F7, a_tick_bounds := PySem.W.mg_of X G a7, h_tick_bounds := k7, b_tick_bounds := F7.binds (ps := ["body"]) (fun _ _ _ _ _ _ us hl => match us, hl with | [_], _ => rfl),
    f_statement_bounds := _, d_statement_bounds := _, F_statement_bounds := F8, a_statement_bounds := PySem.W.mg_of X G a8, h_statement_bounds := k8, b_statement_bounds := F8.binds (ps := ["statement"]) (fun _ _ _ _ _ _ us hl => match us, hl with | [_], _ => rfl),
    f_is_body := _, d_is_body := _, F_is_body := F9, a_is_body := PySem.W.mg_of X G a9, h_is_body := k9, b_is_body := F9.binds (ps := ["value"]) (fun _ _ _ _ _ _ us hl => match us, hl with | [_], _ => rfl),
    f_least_ticks := _, d_least_ticks := _, F_least_ticks := F10, a_least_ticks := PySem.W.mg_of X G a10, h_least_ticks := k10, b_least_ticks := F10.binds (ps := ["body"]) (fun _ _ _ _ _ _ us hl => match us, hl with | [_], _ => rfl),
    f_most_ticks := _, d_most_ticks := _, F_most_ticks := F11, a_most_ticks := PySem.W.mg_of X G a11, h_most_ticks := k11, b_most_ticks := F11.binds (ps := ["body"]) (fun _ _ _ _ _ _ us hl => match us, hl with | [_], _ => rfl),
    f_uses_ticks := _, d_uses_ticks := _, F_uses_ticks := F12, a_uses_ticks := PySem.W.mg_of X G a12, h_uses_ticks := k12, b_uses_ticks := F12.binds (ps := ["body"]) (fun _ _ _ _ _ _ us hl => match us, hl with | [_], _ => rfl),
    f_law_pool := _, d_law_pool := _, F_law_pool := F13, a_law_pool := PySem.W.mg_of X G a13, h_law_pool := k13, b_law_pool := F13.binds (ps := ["_law_script", "_law_k"]) (fun _ _ _ _ _ _ us hl => match us, hl with | [_, _], _ => rfl),
    f_law_take := _, d_law_take := _, F_law_take := F14, a_law_take := PySem.W.mg_of X G a14, h_law_take := k14, b_law_take := F14.binds (ps := ["_law_pool_here", "_law_many"]) (fun _ _ _ _ _ _ us hl => match us, hl with | [_, _], _ => rfl),
    f_law_line := _, d_law_line := _, F_law_line := F15, a_law_line := PySem.W.mg_of X G a15, h_law_line := k15, b_law_line := F15.binds (ps := ["_law_pool_here", "_law_sources", "_law_jobs", "_law_cells", "_law_depth"]) (fun _ _ _ _ _ _ us hl => match us, hl with | [_, _, _, _, _], _ => rfl),
    f_law_lines := _, d_law_lines := _, F_law_lines := F16, a_law_lines := PySem.W.mg_of X G a16, h_law_lines := k16, b_law_lines := F16.binds (ps := ["_law_pool_here", "_law_sources", "_law_jobs", "_law_cells", "_law_depth", "_law_most"]) (fun _ _ _ _ _ _ us hl => match us, hl with | [_, _, _, _, _, _], _ => rfl),
    f_law_body := _, d_law_body := _, F_law_body := F17, a_law_body := PySem.W.mg_of X G a17, h_law_body := k17, b_law_body := F17.binds (ps := ["_law_pool_here", "_law_sources", "_law_jobs", "_law_cells", "_law_most"]) (fun _ _ _ _ _ _ us hl => match us, hl with | [_, _, _, _, _], _ => rfl),
    f_law_is_name := _, d_law_is_name := _, F_law_is_name := F18, a_law_is_name := PySem.W.mg_of X G a18, h_law_is_name := k18, b_law_is_name := F18.binds (ps := ["_law_value"]) (fun _ _ _ _ _ _ us hl => match us, hl with | [_], _ => rfl),
    f_law_is_from := _, d_law_is_from := _, F_law_is_from := F19, a_law_is_from := PySem.W.mg_of X G a19, h_law_is_from := k19, b_law_is_from := F19.binds (ps := ["_law_value", "_law_low", "_law_high"]) (fun _ _ _ _ _ _ us hl => match us, hl with | [_, _, _], _ => rfl),
    f_law_inner := _, d_law_inner := _, F_law_inner := F20, a_law_inner := PySem.W.mg_of X G a20, h_law_inner := k20, b_law_inner := F20.binds (ps := ["_law_line_here"]) (fun _ _ _ _ _ _ us hl => match us, hl with | [_], _ => rfl),
    f_law_is_line := _, d_law_is_line := _, F_law_is_line := F21, a_law_is_line := PySem.W.mg_of X G a21, h_law_is_line := k21, b_law_is_line := F21.binds (ps := ["_law_line_here", "_law_depth"]) (fun _ _ _ _ _ _ us hl => match us, hl with | [_, _], _ => rfl),
    f_law_right := _, d_law_right := _, F_law_right := F22, a_law_right := PySem.W.mg_of X G a22, h_law_right := k22, b_law_right := F22.binds (ps := ["_law_value", "_law_depth"]) (fun _ _ _ _ _ _ us hl => match us, hl with | [_, _], _ => rfl),
    f_law_all := _, d_law_all := _, F_law_all := F23, a_law_all := PySem.W.mg_of X G a23, h_law_all := k23, b_law_all := F23.binds (ps := ["_law_body_here"]) (fun _ _ _ _ _ _ us hl => match us, hl with | [_], _ => rfl),
    f_law_is_body := _, d_law_is_body := _, F_law_is_body := F24, a_law_is_body := PySem.W.mg_of X G a24, h_law_is_body := k24, b_law_is_body := F24.binds (ps := ["_law_value"]) (fun _ _ _ _ _ _ us hl => match us, hl with | [_], _ => rfl),
    f_law_ticks := _, d_law_ticks := _, F_law_ticks := F25, a_law_ticks := PySem.W.mg_of X G a25, h_law_ticks := k25, b_law_ticks := F25.binds (ps := ["_law_body_here"]) (fun _ _ _ _ _ _ us hl => match us, hl with | [_], _ => rfl),
    f_law_refused := _, d_law_refused := _, F_law_refused := F26, a_law_refused := PySem.W.mg_of X G a26, h_law_refused := k26, b_law_refused := F26.binds (ps := ["_law_value"]) (fun _ _ _ _ _ _ us hl => match us, hl with | [_], _ => rfl),
    f_law := _, d_law := _, F_law := F27, a_law := PySem.W.mg_of X G a27, h_law := k27, b_law := F27.binds (ps := ["_law_script"]) (fun _ _ _ _ _ _ us hl => match us, hl with | [_], _ => rfl),
    xc := ⟨cx0, cx1⟩,
    xa_InvalidBody := PySem.W.mg_of X G xa0,
    xs_InvalidBody := ⟨⟨yo0, ysa0, yex0, yty0, ykc0⟩, ⟨yga0, ygg0, yex0, yhd0⟩, yno0, ycl0, ysp, ytk, ymr0⟩,
    xa_RunError := PySem.W.mg_of X G xa1,
    fi_InvalidBody := _, di_InvalidBody := _, Fi_InvalidBody := Fi0, xi_InvalidBody := xi0, xt_InvalidBody := xt0, xb_InvalidBody := Fi0.binds (ps := ["self", "value"]) (fun _ _ _ _ _ _ us hl => match us, hl with | [_, _], _ => rfl),
    xe_InvalidBody_InvalidBody := xe0_0,
    xk_InvalidBody_RunError := xk0_1,
    n_int := PySem.W.mg_none_of X G z0,
    n_isinstance := PySem.W.mg_none_of X G z1,
    n_bool := PySem.W.mg_none_of X G z2,
    n_str := PySem.W.mg_none_of X G z3,
    n_len := PySem.W.mg_none_of X G z4,
    n_all := PySem.W.mg_none_of X G z5,
    n_tuple := PySem.W.mg_none_of X G z6,
    n_zip := PySem.W.mg_none_of X G z7,
    n_min := PySem.W.mg_none_of X G z8,
    n_max := PySem.W.mg_none_of X G z9,
    n_abs := PySem.W.mg_none_of X G z10,
    n_range := PySem.W.mg_none_of X G z11,
    n_repr := PySem.W.mg_none_of X G z12,
    c_MOST_LETTERS := con_of (PySem.W.mg_of X G x0) r0,
    c_LETTERS := con_of (PySem.W.mg_of X G x1) r1,
    c_MOST_LEVELS := con_of (PySem.W.mg_of X G x2) r2,
    c_MOST_STATEMENTS := con_of (PySem.W.mg_of X G x3) r3,
    c_MOST_BRANCHES := con_of (PySem.W.mg_of X G x4) r4,
    t_MOST := ⟨⟨_, _, _, PySem.W.mg_of X G t0, ⟨m0, q0, w0⟩, e0⟩⟩,
    t_FORMS := ⟨⟨_, _, _, PySem.W.mg_of X G t1, ⟨m1, q1, w1⟩, e1⟩⟩ }
  exact ⟨_, _, fun s v => .of_eq rfl, fun base _ _ => ok_law A⟩
end
end K02
/-! k2Q1 -/
namespace K02
open PySem PySem.Spec PyProof.Rows L2 RZ Mi
def isI : T → Bool
  | .int _ => true
  | _ => false
def isTup : T → Bool
  | .tup _ => true
  | _ => false
def isStr : T → Bool
  | .str _ => true
  | _ => false
/-- what the law makes: no functions, no types -/
def pl : T → Bool
  | .glb _ => false
  | .ty _ => false
  | .scr _ => false
  | .str x => decide (x.length ≤ LIM)
  | _ => true
theorem isi_int (x : T) (h : pl x = true) (s : Sto) : isiB [.t x, .t (.ty "int")] s = some (.t (.bl (isI x || (match x with | .bl _ => true | _ => false)))) := by
  cases x <;> first | rfl | cases h
theorem isi_bool (x : T) (h : pl x = true) (s : Sto) : isiB [.t x, .t (.ty "bool")] s = some (.t (.bl (match x with | .bl _ => true | _ => false))) := by
  cases x <;> first | rfl | cases h
theorem isi_str (x : T) (h : pl x = true) (s : Sto) : isiB [.t x, .t (.ty "str")] s = some (.t (.bl (isStr x))) := by
  cases x <;> first | rfl | cases h
theorem isi_tup (x : T) (h : pl x = true) (s : Sto) : isiB [.t x, .t (.ty "tuple")] s = some (.t (.bl (isTup x))) := by
  cases x <;> first | rfl | cases h
theorem isiI1 (i : Int) (s : Sto) : isiB [.t (.int i), .t (.ty "int")] s = some (.t (.bl true)) := rfl
theorem isiI2 (i : Int) (s : Sto) : isiB [.t (.int i), .t (.ty "bool")] s = some (.t (.bl false)) := rfl
theorem v_is_integer (x : T) (h : pl x = true) : m_is_integer [x] = .ok (.bl (isI x)) := by
  cases x <;> first | rfl | cases h
theorem v_int (i : Int) : m_is_integer [.int i] = .ok (.bl true) := rfl
def btw (x : T) (a b : Int) : Bool := match x with
  | .int i => decide (a ≤ i) && decide (i ≤ b)
  | _ => false
theorem v_is_between (x : T) (h : pl x = true) (a b : Int) : m_is_between [x, .int a, .int b] = .ok (.bl (btw x a b)) := by
  cases x with
  | int i =>
    show exitP (retM (andV (callP m_is_integer [eVar 0]) (chain leM leM (eVar 1) (eVar 0) (eVar 2))) [some (.t (.int i)), some (.t (.int a)), some (.t (.int b))] []) = _
    by_cases h1 : a ≤ i <;> by_cases h2 : i ≤ b <;>
      simp [btw, h1, h2, retM, andV, chain, callP, argsM, eVar, Res.bind_ok, Res.out_ok, plains, v_int, isI, optR_ok, tru, leM, cmpI, blOf, bD, exitP]
  | glb _ => cases h
  | ty _ => cases h
  | scr _ => cases h
  | _ => rfl
theorem v_law_is_from (x : T) (h : pl x = true) (a b : Int) : m_law_is_from [x, .int a, .int b] = .ok (.bl (btw x a b)) := by
  cases x with
  | int i =>
    by_cases h1 : a ≤ i <;> by_cases h2 : i ≤ b <;>
      simp [m_law_is_from, b_law_is_from, defP, startE, notV, isiI1, isiI2, callB, eC, btw, h1, h2, retM, andV, chain, callP, argsM, eVar, Res.bind_ok, Res.out_ok, plains, isI, optR_ok, tru, leM, cmpI, blOf, bD, exitP]
  | glb _ => cases h
  | ty _ => cases h
  | scr _ => cases h
  | _ => rfl
end K02
/-! k2Q2 -/
namespace K02
open Mi PySem
/-! ### trees of a bounded depth -/
mutual
def gd : Nat → T → Bool
  | _, .non => true
  | _, .bl _ => true
  | _, .int _ => true
  | _, .str x => PyData.canLay0 (.str x) && decide (x.length ≤ 1000)
  | n + 1, .tup ts => decide (ts.length ≤ 1000) && gds n ts
  | n + 1, .lst ts => decide (ts.length ≤ 1000) && gds n ts
  | _, _ => false
def gds : Nat → List T → Bool
  | _, [] => true
  | n, t :: r => gd n t && gds n r
end
theorem gds_mem : ∀ {n : Nat} {ts : List T}, gds n ts = true → ∀ t ∈ ts, gd n t = true
  | n, t :: r, h, x, hx => by
    unfold gds at h
    rw [Bool.and_eq_true] at h
    rcases List.mem_cons.mp hx with e | e
    · rw [e]; exact h.1
    · exact gds_mem h.2 x e
theorem gds_of : ∀ {n : Nat} {ts : List T}, (∀ t ∈ ts, gd n t = true) → gds n ts = true
  | n, [], _ => rfl
  | n, t :: r, h => by
    unfold gds
    rw [h t List.mem_cons_self, gds_of fun x hx => h x (List.mem_cons_of_mem _ hx)]
    rfl
theorem gd_tup {n : Nat} {ts : List T} : gd n (.tup ts) = true ↔ ∃ m, n = m + 1 ∧ ts.length ≤ 1000 ∧ ∀ t ∈ ts, gd m t = true := by
  cases n with
  | zero =>
    rw [show gd 0 (.tup ts) = false from rfl]
    simp
  | succ n =>
    rw [show gd (n + 1) (.tup ts) = (decide (ts.length ≤ 1000) && gds n ts) by rw [gd], Bool.and_eq_true, decide_eq_true_eq]
    constructor
    · rintro ⟨a, b⟩; exact ⟨n, rfl, a, gds_mem b⟩
    · rintro ⟨m, e, a, b⟩; cases e; exact ⟨a, gds_of b⟩
theorem gd_pl {n : Nat} {t : T} (h : gd n t = true) : pl t = true := by
  cases t with
  | str x =>
    unfold gd at h
    (rw [Bool.and_eq_true, decide_eq_true_eq] at h)
    exact decide_eq_true (Nat.le_trans h.2 (by decide))
  | glb a => cases n <;> cases h
  | ty a => cases n <;> cases h
  | scr a => cases n <;> cases h
  | _ => rfl
mutual
theorem gd_py : ∀ (n : Nat) (t : T), gd n t = true → ∃ p, pyT t = some p ∧ p.canLay0 = true ∧ p.depth ≤ n
  | n, .non, h => ⟨.none, rfl, rfl, Nat.zero_le _⟩
  | n, .bl b, h => ⟨.bool b, rfl, rfl, Nat.zero_le _⟩
  | n, .int b, h => ⟨.int b, rfl, rfl, Nat.zero_le _⟩
  | n, .str x, h => by
    unfold gd at h
    rw [Bool.and_eq_true] at h
    exact ⟨.str x, rfl, h.1, Nat.zero_le _⟩
  | n + 1, .tup ts, h => by
    unfold gd at h
    rw [Bool.and_eq_true] at h
    obtain ⟨ps, e, a, b⟩ := gds_py n ts h.2
    refine ⟨.tuple ps, ?_, a, Nat.succ_le_succ b⟩
    show (pyTs ts).map PyData.tuple = _
    rw [e]; rfl
  | n + 1, .lst ts, h => by
    unfold gd at h
    rw [Bool.and_eq_true] at h
    obtain ⟨ps, e, a, b⟩ := gds_py n ts h.2
    refine ⟨.list ps, ?_, a, Nat.succ_le_succ b⟩
    show (pyTs ts).map PyData.list = _
    rw [e]; rfl
  | 0, .tup ts, h => by cases h
  | 0, .lst ts, h => by cases h
  | n, .scr ts, h => by cases n <;> cases h
  | n, .glb ts, h => by cases n <;> cases h
  | n, .ty ts, h => by cases n <;> cases h
theorem gds_py : ∀ (n : Nat) (ts : List T), gds n ts = true → ∃ ps, pyTs ts = some ps ∧ PyData.canLayAll0 ps = true ∧ PyData.depthAll ps ≤ n
  | n, [], h => ⟨[], rfl, rfl, Nat.zero_le _⟩
  | n, t :: r, h => by
    unfold gds at h
    rw [Bool.and_eq_true] at h
    obtain ⟨p, e1, a1, b1⟩ := gd_py n t h.1
    obtain ⟨ps, e2, a2, b2⟩ := gds_py n r h.2
    refine ⟨p :: ps, ?_, ?_, Nat.max_le.mpr ⟨b1, b2⟩⟩
    · show (pyT t).bind (fun p => (pyTs r).map (p :: ·)) = _
      rw [e1, e2]; rfl
    · show (PyData.canLay0 p && PyData.canLayAll0 ps) = true
      rw [a1, a2]; rfl
end
theorem pyTs_len : ∀ {ts : List T} {ps : List PyData}, pyTs ts = some ps → ps.length = ts.length
  | [], ps, h => by cases h; rfl
  | t :: r, ps, h => by
    have h : (pyT t).bind (fun p => (pyTs r).map (p :: ·)) = some ps := h
    cases e1 : pyT t with
    | none => rw [e1] at h; cases h
    | some p =>
      cases e2 : pyTs r with
      | none => rw [e1, e2] at h; cases h
      | some qs =>
        rw [e1, e2] at h
        cases h
        rw [List.length_cons, List.length_cons, pyTs_len e2]
/-- [..] == [] -/
theorem eq_nil {n : Nat} {ts : List T} (hn : n ≤ 62) (h : ∀ t ∈ ts, gd n t = true) (s : Sto) : eqM (.t (.lst ts)) (.t (.lst [])) s = some (.t (.bl ts.isEmpty)) := by
  obtain ⟨ps, e, a, b⟩ := gds_py n ts (gds_of h)
  have l := pyTs_len e
  have hs : SeqAt.shaped (.list ps) = true := by
    unfold SeqAt.shaped
    rw [Bool.and_eq_true, decide_eq_true_eq]
    exact ⟨a, by show PyData.depthAll ps + 1 ≤ 64; omega⟩
  show ((((pyTs ts).map PyData.list).bind fun p => (some (PyData.list [])).bind fun q => if (SeqAt.shaped p && SeqAt.shaped q) = true then some (PyData.eqv p q) else none).map bD) = _
  rw [e]
  show ((if (SeqAt.shaped (.list ps) && SeqAt.shaped (.list [])) = true then some (PyData.eqv (.list ps) (.list [])) else none).map bD) = _
  rw [hs, show SeqAt.shaped (.list []) = true from rfl]
  cases ts with
  | nil => cases ps with
    | nil => rfl
    | cons _ _ => cases l
  | cons t r => cases ps with
    | nil => cases l
    | cons _ _ => rfl
/-! ### names -/
def letT (t : T) : Bool := match t with
  | .str y => !(Builtin.Str.occurrences "abcdefghijklmnopqrstuvwxyz" y 0 26 1).isEmpty
  | _ => false
def nmB (x : T) : Bool := match x with
  | .str s => decide ((1 : Int) ≤ s.length) && decide ((s.length : Int) ≤ 8) && (chars s).all letT
  | _ => false
theorem bls_of {α : Type} {f : α → Bool} : ∀ ts : List α, blsOf (ts.map fun t => .t (.bl (f t))) = some (ts.map f)
  | [] => rfl
  | t :: r => by
    show (blsOf (r.map fun t => .t (.bl (f t)))).map (f t :: ·) = _
    rw [bls_of r]; rfl
theorem all_bls {α : Type} (f : α → Bool) (ts : List α) (s : Sto) : allB [.t (.lst (ts.map fun t => .bl (f t)))] s = some (.t (.bl (ts.all f))) := by
  show ((some ((ts.map fun t => T.bl (f t)).map D.t)).bind fun is => (blsOf is).map fun bs => bD (bs.all id)) = _
  rw [List.map_map]
  show ((blsOf (ts.map fun t => .t (.bl (f t)))).map fun bs => bD (bs.all id)) = _
  rw [bls_of]
  show some (bD ((ts.map f).all id)) = _
  rw [List.all_map]
  rfl
theorem chars_str {s : Str} {t : T} (h : t ∈ chars s) : ∃ y, t = .str y := by
  unfold chars at h
  obtain ⟨c, _, e⟩ := List.mem_map.mp h
  exact ⟨_, e.symm⟩
theorem chars_len (s : Str) : (chars s).length = s.length := by
  unfold chars
  (rw [List.length_map, Array.length_toList])
  rfl
theorem lc_name (s : Str) (hl : s.length ≤ LIM) : c_is_name_1 [some (.t (.str s)), none] [] = .ok (.t (.lst ((chars s).map fun t => .bl (letT t)))) [] := by
  refine lcM_all (any_str rfl) (nth_str s) (chars_len s).symm (by rw [chars_len]; exact hl) fun t ht => ?_
  obtain ⟨y, rfl⟩ := chars_str ht
  exact ⟨_, rfl, rfl⟩
theorem lc_lname (s : Str) (hl : s.length ≤ LIM) : c_law_is_name_1 [some (.t (.str s)), none] [] = .ok (.t (.lst ((chars s).filter fun t => !letT t))) [] := by
  have e := lcM_T (us := [1]) (fi := anyOf (eVar 0)) (ga := gN 1) (gt := fun env st => blOf (bin notInM (eVar 1) (eC (.str "abcdefghijklmnopqrstuvwxyz")) env st)) (fe := eVar 1) (env := [some (.t (.str s)), none]) (st := []) (p := fun t => !letT t) (g := id) (any_str rfl) (nth_str s) (chars_len s).symm (by rw [chars_len]; exact hl) fun t ht => by
    obtain ⟨y, rfl⟩ := chars_str ht
    exact ⟨_, rfl, rfl, fun _ => rfl⟩
  rw [List.map_id] at e
  exact e
theorem v_is_name (x : T) (h : pl x = true) : m_is_name [x] = .ok (.bl (nmB x)) := by
  cases x with
  | str s =>
    have hl : s.length ≤ LIM := of_decide_eq_true h
    have e0 : lenB [.t (.str s)] [] = some (.t (.int s.length)) := by
      show (if s.length ≤ LIM then some (iD s.length) else none) = _
      rw [if_pos hl]; rfl
    have e1 := lc_name s hl
    by_cases h1 : (1 : Int) ≤ s.length <;> by_cases h2 : (s.length : Int) ≤ 8 <;>
      simp [m_is_name, b_is_name, defP, startE, nmB, seqM, ifM, Mi.orM, Mi.notM, truM, isi_str, h, isStr, callB, eC, c_MOST_LETTERS, h1, h2, retM, chain, argsM, eVar, Res.bind_ok, Res.out_ok, optR_ok, tru, leM, cmpI, blOf, bD, exitP, e0, e1, Out.seq, nxM, all_bls]
  | glb _ => cases h
  | ty _ => cases h
  | scr _ => cases h
  | _ => rfl
theorem v_law_is_name (x : T) (n : Nat) (hn : n ≤ 60) (h : gd n x = true) : m_law_is_name [x] = .ok (.bl (nmB x)) := by
  cases x with
  | str s =>
    have hp := gd_pl h
    have hl : s.length ≤ LIM := of_decide_eq_true hp
    have e0 : lenB [.t (.str s)] [] = some (.t (.int s.length)) := by
      show (if s.length ≤ LIM then some (iD s.length) else none) = _
      rw [if_pos hl]; rfl
    have e1 := lc_lname s hl
    have e2 := eq_nil (n := 1) (by decide) (ts := (chars s).filter fun t => !letT t) (fun t ht => ?_) []
    have e3 : ((chars s).filter fun t => !letT t).isEmpty = (chars s).all letT := by
      generalize chars s = l
      induction l with
      | nil => rfl
      | cons a r ih =>
        rw [List.filter_cons, List.all_cons, ← ih]
        cases letT a <;> rfl
    · rw [e3] at e2
      by_cases h1 : (1 : Int) ≤ s.length <;> by_cases h2 : (s.length : Int) ≤ 8 <;>
        simp [m_law_is_name, b_law_is_name, defP, startE, nmB, seqM, ifM, Mi.orM, Mi.notM, truM, isi_str, hp, isStr, callB, eC, Mi.bin, lstM, plains, h1, h2, retM, chain, argsM, eVar, Res.bind_ok, Res.out_ok, optR_ok, tru, leM, cmpI, blOf, bD, exitP, e0, e1, e2, Out.seq, nxM]
    · have hm := (List.mem_filter.mp ht).1
      unfold gd at h
      rw [Bool.and_eq_true] at h
      unfold chars at hm
      obtain ⟨c, hc, e⟩ := List.mem_map.mp hm
      subst e
      unfold gd
      rw [Bool.and_eq_true]
      refine ⟨?_, rfl⟩
      have a : (s.cps.all (· < 0x110000)) = true := h.1
      have b := Array.all_eq_true'.mp a c (by simpa using hc)
      show ((#[c] : Array Nat).all (· < 0x110000)) = true
      simpa using b
  | glb _ => cases n <;> cases h
  | ty _ => cases n <;> cases h
  | scr _ => cases n <;> cases h
  | _ => rfl
end K02
/-! k2Q3 -/
namespace K02
open Mi PySem
theorem atI_nat {α : Type} (xs : List α) (k : Nat) : L2.atI xs (k : Int) = xs[k]? := by
  unfold L2.atI L2.ixN
  rw [if_pos (by omega)]
  by_cases h : (k : Int) < xs.length
  · rw [if_pos h]
    show xs[(k : Int).toNat]? = _
    rw [Int.toNat_natCast]
  · rw [if_neg h]
    exact (List.getElem?_eq_none (by omega)).symm
theorem ix_nat (ts : List T) (k : Nat) (s : Sto) : ixM (.t (.tup ts)) (.t (.int k)) s = ts[k]?.map D.t := by
  show L2.atI (ts.map D.t) k = _
  rw [atI_nat, List.getElem?_map]
theorem ix_natL (ts : List T) (k : Nat) (s : Sto) : ixM (.t (.lst ts)) (.t (.int k)) s = ts[k]?.map D.t := by
  show L2.atI (ts.map D.t) k = _
  rw [atI_nat, List.getElem?_map]
theorem ix0 (a : T) (r : List T) (s : Sto) : ixM (.t (.tup (a :: r))) (.t (.int 0)) s = some (.t a) := ix_nat (a :: r) 0 s
theorem ix1 (a b : T) (r : List T) (s : Sto) : ixM (.t (.tup (a :: b :: r))) (.t (.int 1)) s = some (.t b) := ix_nat (a :: b :: r) 1 s
theorem ix2 (a b c : T) (r : List T) (s : Sto) : ixM (.t (.tup (a :: b :: c :: r))) (.t (.int 2)) s = some (.t c) := ix_nat (a :: b :: c :: r) 2 s
theorem sl1 (a : T) (r : List T) (s : Sto) : slM (.t (.tup (a :: r))) (some 1) none s = some (.t (.tup r)) := by
  show some (D.t (.tup (cutG (a :: r) (some 1) none))) = _
  unfold cutG
  rw [show HT.sIx (a :: r).length 0 (some 1) = min 1 (a :: r).length from HT.sIx_nat _ 0 1, HT.sIx_none, show min 1 (a :: r).length = 1 by rw [List.length_cons]; omega]
  show some (D.t (.tup (r.take ((a :: r).length - 1)))) = _
  rw [List.length_cons, Nat.add_sub_cancel, List.take_length]
theorem nth_zip (fs r : List T) (n : Nat) : ∀ st i, (zipIt (.t (.tup fs)) (.t (.tup r)) n).nth st i = some (((fs.zip r).map fun p => T.tup [p.1, p.2]).map D.t)[i]? := fun st i => by
  show (some (fs.map D.t, r.map D.t)).bind (fun p => zipAt p.1 p.2 i) = _
  show zipAt (fs.map D.t) (r.map D.t) i = _
  unfold zipAt
  rw [List.getElem?_map, List.getElem?_map, List.map_map, List.getElem?_map, List.zip, List.getElem?_zipWith]
  cases fs[i]? <;> cases r[i]? <;> rfl
/-! ### parts -/
def partB (f v : T) : Bool := match f with
  | .str w => if w = "body" then isTup v else if w = "ticks" then btw v 1 20 else if w = "passes" then btw v 1 5 else if w = "level" then btw v 1 9 else if w = "delay" then btw v 1 50 else nmB v
  | _ => false
def FORM : List T := [.str "body", .str "ticks", .str "passes", .str "level", .str "delay", .str "counter", .str "source", .str "task"]
theorem eq_str (a b : Str) (s : Sto) : eqM (.t (.str a)) (.t (.str b)) s = some (.t (.bl (decide (a = b)))) := rfl
theorem beq_str (a b : Str) : (a == b) = decide (a = b) := rfl
theorem v_is_part (f v : T) (hf : f ∈ FORM) (h : pl v = true) : m_is_part [f, v] = .ok (.bl (partB f v)) := by
  unfold FORM at hf
  simp only [List.mem_cons, List.not_mem_nil, or_false] at hf
  rcases hf with rfl | rfl | rfl | rfl | rfl | rfl | rfl | rfl <;>
    simp (config := {decide := true}) [m_is_part, b_is_part, defP, startE, seqM, ifM, retM, nxM, Mi.bin, blOf, eVar, eC, eq_str, tabIn, tabIx, t_MOST, List.lookup, beq_str, Out.seq, callB, callP, argsM, plains, Res.bind_ok, Res.out_ok, optR_ok, isi_tup v h, v_is_between v h, v_is_name v h, exitP, partB, bD]
theorem lookup_mem {α : Type} {w : Str} {t : α} : ∀ {l : List (Str × α)}, l.lookup w = some t → (w, t) ∈ l
  | (k, v) :: r, h => by
    rw [List.lookup_cons] at h
    cases q : w == k with
    | true =>
      rw [q] at h
      cases h
      rw [show w = k by simpa using q]
      exact List.mem_cons_self
    | false =>
      rw [q] at h
      exact List.mem_cons_of_mem _ (lookup_mem h)
theorem forms_ok {w : Str} {t : T} (h : t_FORMS.lookup w = some t) : ∃ fs, t = .tup fs ∧ fs.length ≤ 3 ∧ ∀ f ∈ fs, f ∈ FORM := by
  have m := lookup_mem h
  unfold t_FORMS at m
  simp only [List.mem_cons, List.not_mem_nil, or_false, Prod.mk.injEq] at m
  rcases m with ⟨_, rfl⟩ | ⟨_, rfl⟩ | ⟨_, rfl⟩ | ⟨_, rfl⟩ | ⟨_, rfl⟩ | ⟨_, rfl⟩ | ⟨_, rfl⟩ | ⟨_, rfl⟩ | ⟨_, rfl⟩ | ⟨_, rfl⟩ | ⟨_, rfl⟩ | ⟨_, rfl⟩ <;> exact ⟨_, rfl, by decide, by unfold FORM; simp⟩
end K02
/-! k2Q4 -/
namespace K02
open Mi PySem
def stB (x : T) : Bool := match x with
  | .tup (.str w :: r) => match t_FORMS.lookup w with
    | some (.tup fs) => decide (r.length = fs.length) && (fs.zip r).all fun p => partB p.1 p.2
    | _ => false
  | _ => false
theorem tru_bl (b : Bool) (s : Sto) : tru s (.t (.bl b)) = some b := rfl
theorem tru_tup (a : T) (r : List T) (s : Sto) : tru s (.t (.tup (a :: r))) = some true := rfl
theorem len_tup (r : List T) (s : Sto) : lenB [.t (.tup r)] s = some (.t (.int r.length)) := by
  show some (iD (r.map D.t).length) = _
  rw [List.length_map]
  rfl
theorem len_lst (r : List T) (s : Sto) : lenB [.t (.lst r)] s = some (.t (.int r.length)) := by
  show some (iD (r.map D.t).length) = _
  rw [List.length_map]
  rfl
theorem ne_int (a b : Int) (s : Sto) : neM (.t (.int a)) (.t (.int b)) s = some (.t (.bl (!decide (a = b)))) := rfl
theorem eq_int (a b : Int) (s : Sto) : eqM (.t (.int a)) (.t (.int b)) s = some (.t (.bl (decide (a = b)))) := rfl
theorem add_int (a b : Int) (s : Sto) : addM (.t (.int a)) (.t (.int b)) s = some (.t (.int (a + b))) := rfl
theorem zipOf_of {fa fb : Mi.Env → Sto → Res D} {env : Mi.Env} {fs r : List T} (ha : fa env [] = .ok (.t (.tup fs)) []) (hb : fb env [] = .ok (.t (.tup r)) []) : zipOf [fa, fb] env [] = .ok (zipIt (.t (.tup fs)) (.t (.tup r)) fs.length) [] := by
  unfold zipOf
  simp [argsM, ha, hb, Res.bind_ok, zitems, optR_ok]
theorem c_st (w : Str) (fs r : List T) (hl : r.length = fs.length) (h3 : fs.length ≤ 3) (hf : ∀ f ∈ fs, f ∈ FORM) (hr : ∀ v ∈ r, pl v = true) : c_is_statement_1 [some (.t (.tup (.str w :: r))), some (.t (.tup fs)), none, none] [] = .ok (.t (.lst ((fs.zip r).map fun p => .bl (partB p.1 p.2)))) [] := by
  have hz : ((fs.zip r).map fun p => T.tup [p.1, p.2]).length = fs.length := by rw [List.length_map, List.length_zip, hl, Nat.min_self]
  have hs : (sliceM (eVar 0) (oSome (eC (.int 1))) oNone) [some (.t (.tup (.str w :: r))), some (.t (.tup fs)), none, none] [] = .ok (.t (.tup r)) [] := by
    show optR (slM (.t (.tup (.str w :: r))) (some 1) none []) [] = _
    rw [sl1]
    rfl
  have e := lcM_all (us := [2, 3]) (ga := gT 2 (gsCons (gN 2) (gsCons (gN 3) gsNil))) (fe := callP m_is_part [eVar 2, eVar 3]) (env := [some (.t (.tup (.str w :: r))), some (.t (.tup fs)), none, none]) (st := []) (s := []) (ts := (fs.zip r).map fun p => T.tup [p.1, p.2])
    (g := fun t => match t with | .tup [f, v] => .bl (partB f v) | _ => .non) (zipOf_of (fa := eVar 1) rfl hs) (nth_zip fs r _) hz.symm (by rw [hz]; exact Nat.le_trans h3 (by decide)) (fun t ht => by
      obtain ⟨p, hp, rfl⟩ := List.mem_map.mp ht
      obtain ⟨h1, h2⟩ := List.of_mem_zip hp
      refine ⟨_, rfl, ?_⟩
      show (match m_is_part [p.1, p.2] with
        | .ok t => Res.ok (D.t t) []
        | .exc C x => .exc C x []
        | .bad => .bad) = _
      rw [v_is_part p.1 p.2 (hf _ h1) (hr _ h2)])
  rw [List.map_map] at e
  exact e
theorem v_is_statement (x : T) (n : Nat) (h : gd n x = true) : m_is_statement [x] = .ok (.bl (stB x)) := by
  cases x with
  | tup l =>
    obtain ⟨m, _, hl, hg⟩ := gd_tup.mp h
    cases l with
    | nil => rfl
    | cons a r =>
      have ha : pl a = true := gd_pl (hg a List.mem_cons_self)
      have hr : ∀ v ∈ r, pl v = true := fun v hv => gd_pl (hg v (List.mem_cons_of_mem _ hv))
      cases a with
      | str w =>
        cases hw : t_FORMS.lookup w with
        | none =>
          simp [m_is_statement, b_is_statement, defP, startE, seqM, ifM, retM, nxM, Mi.bin, Mi.orM, Mi.notM, truM, blOf, eVar, eC, tabNotIn, Out.seq, callB, argsM, Res.bind_ok, Res.out_ok, optR_ok, isi_tup _ (gd_pl h), isTup, tru_tup, tru_bl, ix0, isi_str _ ha, isStr, hw, exitP, stB, bD]
        | some t =>
          obtain ⟨fs, rfl, h3, hf⟩ := forms_ok hw
          by_cases e : r.length = fs.length
          · have e2 := c_st w fs r e h3 hf hr
            have e4 : (1 + (fs.length : Int)) = (r.length : Int) + 1 := by omega
            simp [m_is_statement, b_is_statement, defP, startE, seqM, ifM, setM, retM, nxM, Mi.bin, Mi.orM, Mi.notM, truM, blOf, eVar, eC, tabNotIn, tabIx, Out.seq, callB, argsM, Res.bind_ok, Res.out_ok, optR_ok, isi_tup _ (gd_pl h), isTup, tru_tup, tru_bl, ix0, isi_str _ ha, isStr, hw, exitP, stB, bD, len_tup, ne_int, add_int, e, e4, e2, all_bls]
          · have e4 : ¬ ((r.length : Int) + 1 = 1 + (fs.length : Int)) := by omega
            simp [m_is_statement, b_is_statement, defP, startE, seqM, ifM, setM, retM, nxM, Mi.bin, Mi.orM, Mi.notM, truM, blOf, eVar, eC, tabNotIn, tabIx, Out.seq, callB, argsM, Res.bind_ok, Res.out_ok, optR_ok, isi_tup _ (gd_pl h), isTup, tru_tup, tru_bl, ix0, isi_str _ ha, isStr, hw, exitP, stB, bD, len_tup, ne_int, add_int, e, e4]
      | glb _ => cases ha
      | ty _ => cases ha
      | scr _ => cases ha
      | _ => simp [m_is_statement, b_is_statement, defP, startE, seqM, ifM, retM, nxM, Mi.bin, Mi.orM, Mi.notM, truM, blOf, eVar, eC, tabNotIn, Out.seq, callB, argsM, Res.bind_ok, Res.out_ok, optR_ok, isi_tup _ (gd_pl h), isTup, tru_tup, tru_bl, ix0, isi_str _ ha, isStr, exitP, stB, bD]
  | glb _ => cases n <;> cases h
  | ty _ => cases n <;> cases h
  | scr _ => cases n <;> cases h
  | str s => simp [m_is_statement, b_is_statement, defP, startE, seqM, ifM, retM, nxM, Mi.orM, Mi.notM, truM, eVar, eC, Out.seq, callB, argsM, Res.bind_ok, Res.out_ok, optR_ok, isi_tup _ (gd_pl h), isTup, tru_bl, exitP, stB, bD]
  | _ => rfl
end K02
/-! k2Q5 -/
namespace K02
open Mi PySem
def isBodyF (f : T) : Bool := match f with
  | .str w => decide (w = "body")
  | _ => false
def innerS (x : T) : List T := match x with
  | .tup (.str w :: r) => match t_FORMS.lookup w with
    | some (.tup fs) => ((fs.zip r).filter fun p => isBodyF p.1).map (·.2)
    | _ => []
  | _ => []
theorem c_in (w : Str) (fs r : List T) (hl : r.length = fs.length) (h3 : fs.length ≤ 3) (hf : ∀ f ∈ fs, f ∈ FORM) : c_inner_bodies_1 [some (.t (.tup (.str w :: r))), some (.t (.tup fs)), none, none] [] = .ok (.t (.lst (((fs.zip r).filter fun p => isBodyF p.1).map (·.2)))) [] := by
  have hz : ((fs.zip r).map fun p => T.tup [p.1, p.2]).length = fs.length := by rw [List.length_map, List.length_zip, hl, Nat.min_self]
  have hs : (sliceM (eVar 0) (oSome (eC (.int 1))) oNone) [some (.t (.tup (.str w :: r))), some (.t (.tup fs)), none, none] [] = .ok (.t (.tup r)) [] := by
    show optR (slM (.t (.tup (.str w :: r))) (some 1) none []) [] = _
    rw [sl1]
    rfl
  have e := lcM_T (us := [2, 3]) (ga := gT 2 (gsCons (gN 2) (gsCons (gN 3) gsNil))) (gt := fun env st => blOf (Mi.bin eqM (eVar 2) (eC (.str "body")) env st)) (fe := eVar 3) (env := [some (.t (.tup (.str w :: r))), some (.t (.tup fs)), none, none]) (st := []) (s := []) (ts := (fs.zip r).map fun p => T.tup [p.1, p.2])
    (p := fun t => match t with | .tup [f, v] => isBodyF f | _ => false) (g := fun t => match t with | .tup [f, v] => v | _ => .non) (zipOf_of (fa := eVar 1) rfl hs) (nth_zip fs r _) hz.symm (by rw [hz]; exact Nat.le_trans h3 (by decide)) (fun t ht => by
      obtain ⟨p, hp, rfl⟩ := List.mem_map.mp ht
      obtain ⟨h1, h2⟩ := List.of_mem_zip hp
      obtain ⟨p1, p2⟩ := p
      have hm := hf _ h1
      unfold FORM at hm
      (simp only [List.mem_cons, List.not_mem_nil, or_false] at hm)
      refine ⟨_, rfl, ?_, fun _ => rfl⟩
      rcases hm with e | e | e | e | e | e | e | e <;> subst e <;> rfl)
  rw [List.filter_map, List.map_map] at e
  exact e
theorem v_inner (w : Str) (fs r : List T) (hw : t_FORMS.lookup w = some (.tup fs)) (hl : r.length = fs.length) : m_inner_bodies [.tup (.str w :: r)] = .ok (.lst (innerS (.tup (.str w :: r)))) := by
  obtain ⟨fs', e, h3, hf⟩ := forms_ok hw
  cases e
  have e2 := c_in w fs r hl h3 hf
  simp [m_inner_bodies, b_inner_bodies, defP, startE, seqM, setM, retM, Mi.bin, eVar, eC, tabIx, Out.seq, Res.bind_ok, Res.out_ok, optR_ok, ix0, hw, e2, exitP, innerS]
/-- the twelve statements -/
inductive St : T → Prop where
  | run (k : T) (h : btw k 1 20 = true) : St (.tup [.str "run", k])
  | either (a b : T) (ha : isTup a = true) (hb : isTup b = true) : St (.tup [.str "either", a, b])
  | when (c a b : T) (hc : nmB c = true) (ha : isTup a = true) (hb : isTup b = true) : St (.tup [.str "when", c, a, b])
  | loop (k a : T) (h : btw k 1 5 = true) (ha : isTup a = true) : St (.tup [.str "loop", k, a])
  | mask (k : T) (h : btw k 1 9 = true) : St (.tup [.str "mask", k])
  | unmask : St (.tup [.str "unmask"])
  | named (w : Str) (n : T) (hw : w = "answer" ∨ w = "raise" ∨ w = "post" ∨ w = "add" ∨ w = "take") (h : nmB n = true) : St (.tup [.str w, n])
  | arm (n d : T) (h : nmB n = true) (hd : btw d 1 50 = true) : St (.tup [.str "arm", n, d])
theorem len0 {α : Type} {r : List α} (h : r.length = 0) : r = [] := List.length_eq_zero_iff.mp h
theorem len1 {α : Type} {r : List α} (h : r.length = 1) : ∃ a, r = [a] := List.length_eq_one_iff.mp h
theorem len2 {α : Type} {r : List α} (h : r.length = 2) : ∃ a b, r = [a, b] := match r, h with | [a, b], _ => ⟨a, b, rfl⟩
theorem len3 {α : Type} {r : List α} (h : r.length = 3) : ∃ a b c, r = [a, b, c] := match r, h with | [a, b, c], _ => ⟨a, b, c, rfl⟩
theorem st_of {x : T} (h : stB x = true) : St x := by
  unfold stB at h
  split at h
  · rename_i w r
    split at h
    · rename_i fs hw
      have m := lookup_mem hw
      unfold t_FORMS at m
      simp only [List.mem_cons, List.not_mem_nil, or_false, Prod.mk.injEq] at m
      (rw [Bool.and_eq_true, decide_eq_true_eq] at h)
      obtain ⟨hl, ha⟩ := h
      rcases m with ⟨rfl, e⟩ | ⟨rfl, e⟩ | ⟨rfl, e⟩ | ⟨rfl, e⟩ | ⟨rfl, e⟩ | ⟨rfl, e⟩ | ⟨rfl, e⟩ | ⟨rfl, e⟩ | ⟨rfl, e⟩ | ⟨rfl, e⟩ | ⟨rfl, e⟩ | ⟨rfl, e⟩ <;> cases e
      · obtain ⟨a, rfl⟩ := len1 hl
        exact .run a (by simpa (config := {decide := true}) [partB] using ha)
      · obtain ⟨a, b, rfl⟩ := len2 hl
        have := (by simpa (config := {decide := true}) [partB] using ha)
        exact .either a b this.1 this.2
      · obtain ⟨a, b, c, rfl⟩ := len3 hl
        have := (by simpa (config := {decide := true}) [partB] using ha)
        exact .when a b c this.1 this.2.1 this.2.2
      · obtain ⟨a, b, rfl⟩ := len2 hl
        have := (by simpa (config := {decide := true}) [partB] using ha)
        exact .loop a b this.1 this.2
      · obtain ⟨a, rfl⟩ := len1 hl
        exact .mask a (by simpa (config := {decide := true}) [partB] using ha)
      · cases len0 hl
        exact .unmask
      · obtain ⟨a, rfl⟩ := len1 hl
        exact .named _ a (.inl rfl) (by simpa (config := {decide := true}) [partB] using ha)
      · obtain ⟨a, rfl⟩ := len1 hl
        exact .named _ a (.inr (.inl rfl)) (by simpa (config := {decide := true}) [partB] using ha)
      · obtain ⟨a, b, rfl⟩ := len2 hl
        have := (by simpa (config := {decide := true}) [partB] using ha)
        exact .arm a b this.1 this.2
      · obtain ⟨a, rfl⟩ := len1 hl
        exact .named _ a (.inr (.inr (.inl rfl))) (by simpa (config := {decide := true}) [partB] using ha)
      · obtain ⟨a, rfl⟩ := len1 hl
        exact .named _ a (.inr (.inr (.inr (.inl rfl)))) (by simpa (config := {decide := true}) [partB] using ha)
      · obtain ⟨a, rfl⟩ := len1 hl
        exact .named _ a (.inr (.inr (.inr (.inr rfl)))) (by simpa (config := {decide := true}) [partB] using ha)
    · cases h
  · cases h
end K02
/-! k2Q6 -/
namespace K02
open Mi PySem
/-! ### the bodies in a statement, and the law's own look -/
theorem in_run (k : T) : innerS (.tup [.str "run", k]) = [] := by simp (config := {decide := true}) [innerS, t_FORMS, List.lookup, beq_str, isBodyF, List.zip, List.filter]
theorem in_either (a b : T) : innerS (.tup [.str "either", a, b]) = [a, b] := by simp (config := {decide := true}) [innerS, t_FORMS, List.lookup, beq_str, isBodyF, List.zip, List.filter]
theorem in_when (c a b : T) : innerS (.tup [.str "when", c, a, b]) = [a, b] := by simp (config := {decide := true}) [innerS, t_FORMS, List.lookup, beq_str, isBodyF, List.zip, List.filter]
theorem in_loop (k a : T) : innerS (.tup [.str "loop", k, a]) = [a] := by simp (config := {decide := true}) [innerS, t_FORMS, List.lookup, beq_str, isBodyF, List.zip, List.filter]
theorem in_mask (k : T) : innerS (.tup [.str "mask", k]) = [] := by simp (config := {decide := true}) [innerS, t_FORMS, List.lookup, beq_str, isBodyF, List.zip, List.filter]
theorem in_unmask : innerS (.tup [.str "unmask"]) = [] := by simp (config := {decide := true}) [innerS, t_FORMS, List.lookup, beq_str, isBodyF, List.zip, List.filter]
theorem in_named (w : Str) (n : T) (hw : w = "answer" ∨ w = "raise" ∨ w = "post" ∨ w = "add" ∨ w = "take") : innerS (.tup [.str w, n]) = [] := by
  rcases hw with rfl | rfl | rfl | rfl | rfl <;> simp (config := {decide := true}) [innerS, t_FORMS, List.lookup, beq_str, isBodyF, List.zip, List.filter]
theorem in_arm (n d : T) : innerS (.tup [.str "arm", n, d]) = [] := by simp (config := {decide := true}) [innerS, t_FORMS, List.lookup, beq_str, isBodyF, List.zip, List.filter]
theorem in_str2 (w a b : Str) (s : Sto) : inM (.t (.str w)) (.t (.tup [.str a, .str b])) s = some (.t (.bl (decide (w = a) || decide (w = b)))) := by
  show some (bD (L2.inV (.str w) [.str a, .str b])) = _
  unfold L2.inV
  simp only [List.any_cons, List.any_nil, Bool.or_false]
  show some (bD (L2.eqV (.str a) (.str w) || L2.eqV (.str b) (.str w))) = _
  have e : ∀ c : Str, L2.eqV (.str c) (.str w) = decide (w = c) := fun c => by
    show decide (c = w) = _
    by_cases h : w = c
    · rw [decide_eq_true h, decide_eq_true h.symm]
    · rw [decide_eq_false h, decide_eq_false fun z => h z.symm]
  rw [e, e]
  rfl
theorem atI_neg {α : Type} (xs : List α) (k : Nat) (h0 : 0 < k) (h : k ≤ xs.length) : L2.atI xs (-(k : Int)) = xs[xs.length - k]? := by
  unfold L2.atI L2.ixN
  rw [if_neg (by omega), if_pos (by omega)]
  show xs[(-(k : Int) + xs.length).toNat]? = _
  rw [show (-(k : Int) + (xs.length : Int)).toNat = xs.length - k by omega]
theorem ixm (ts : List T) (k : Nat) (h0 : 0 < k) (h : k ≤ ts.length) (s : Sto) : ixM (.t (.tup ts)) (.t (.int (-(k : Int)))) s = ts[ts.length - k]?.map D.t := by
  show L2.atI (ts.map D.t) (-(k : Int)) = _
  rw [atI_neg _ _ h0 (by rw [List.length_map]; exact h), List.getElem?_map, List.length_map]
theorem neg_int (a : Int) (s : Sto) : negM (.t (.int a)) s = some (.t (.int (-a))) := rfl
theorem ixm2_3 (a b c : T) (s : Sto) : ixM (.t (.tup [a, b, c])) (.t (.int (-2))) s = some (.t b) := ixm [a, b, c] 2 (by decide) (by simp) s
theorem ixm1_3 (a b c : T) (s : Sto) : ixM (.t (.tup [a, b, c])) (.t (.int (-1))) s = some (.t c) := ixm [a, b, c] 1 (by decide) (by simp) s
theorem ixm2_4 (a b c d : T) (s : Sto) : ixM (.t (.tup [a, b, c, d])) (.t (.int (-2))) s = some (.t c) := ixm [a, b, c, d] 2 (by decide) (by simp) s
theorem ixm1_4 (a b c d : T) (s : Sto) : ixM (.t (.tup [a, b, c, d])) (.t (.int (-1))) s = some (.t d) := ixm [a, b, c, d] 1 (by decide) (by simp) s
theorem v_law_inner {x : T} (h : St x) : m_law_inner [x] = .ok (.lst (innerS x)) := by
  cases h with
  | run k h => simp (config := {decide := true}) [in_run, m_law_inner, b_law_inner, defP, startE, seqM, ifM, retM, nxM, ifE, Mi.bin, un, lstM, tupM, plains, blOf, eVar, eC, Out.seq, argsM, Res.bind_ok, Res.out_ok, optR_ok, ix0, ix1, ix2, in_str2, eq_str, neg_int, ixm2_3, ixm1_3, ixm2_4, ixm1_4, exitP]
  | either a b ha hb => simp (config := {decide := true}) [in_either, m_law_inner, b_law_inner, defP, startE, seqM, ifM, retM, nxM, ifE, Mi.bin, un, lstM, tupM, plains, blOf, eVar, eC, Out.seq, argsM, Res.bind_ok, Res.out_ok, optR_ok, ix0, ix1, ix2, in_str2, eq_str, neg_int, ixm2_3, ixm1_3, ixm2_4, ixm1_4, exitP]
  | when c a b hc ha hb => simp (config := {decide := true}) [in_when, m_law_inner, b_law_inner, defP, startE, seqM, ifM, retM, nxM, ifE, Mi.bin, un, lstM, tupM, plains, blOf, eVar, eC, Out.seq, argsM, Res.bind_ok, Res.out_ok, optR_ok, ix0, ix1, ix2, in_str2, eq_str, neg_int, ixm2_3, ixm1_3, ixm2_4, ixm1_4, exitP]
  | loop k a h ha => simp (config := {decide := true}) [in_loop, m_law_inner, b_law_inner, defP, startE, seqM, ifM, retM, nxM, ifE, Mi.bin, un, lstM, tupM, plains, blOf, eVar, eC, Out.seq, argsM, Res.bind_ok, Res.out_ok, optR_ok, ix0, ix1, ix2, in_str2, eq_str, neg_int, ixm2_3, ixm1_3, ixm2_4, ixm1_4, exitP]
  | mask k h => simp (config := {decide := true}) [in_mask, m_law_inner, b_law_inner, defP, startE, seqM, ifM, retM, nxM, ifE, Mi.bin, un, lstM, tupM, plains, blOf, eVar, eC, Out.seq, argsM, Res.bind_ok, Res.out_ok, optR_ok, ix0, ix1, ix2, in_str2, eq_str, neg_int, ixm2_3, ixm1_3, ixm2_4, ixm1_4, exitP]
  | unmask => simp (config := {decide := true}) [in_unmask, m_law_inner, b_law_inner, defP, startE, seqM, ifM, retM, nxM, ifE, Mi.bin, un, lstM, tupM, plains, blOf, eVar, eC, Out.seq, argsM, Res.bind_ok, Res.out_ok, optR_ok, ix0, ix1, ix2, in_str2, eq_str, neg_int, ixm2_3, ixm1_3, ixm2_4, ixm1_4, exitP]
  | named w n hw h =>
    rw [in_named w n hw]
    rcases hw with rfl | rfl | rfl | rfl | rfl <;> simp (config := {decide := true}) [m_law_inner, b_law_inner, defP, startE, seqM, ifM, retM, nxM, ifE, Mi.bin, un, lstM, tupM, plains, blOf, eVar, eC, Out.seq, argsM, Res.bind_ok, Res.out_ok, optR_ok, ix0, ix1, ix2, in_str2, eq_str, neg_int, ixm2_3, ixm1_3, ixm2_4, ixm1_4, exitP]
  | arm n d h hd => simp (config := {decide := true}) [in_arm, m_law_inner, b_law_inner, defP, startE, seqM, ifM, retM, nxM, ifE, Mi.bin, un, lstM, tupM, plains, blOf, eVar, eC, Out.seq, argsM, Res.bind_ok, Res.out_ok, optR_ok, ix0, ix1, ix2, in_str2, eq_str, neg_int, ixm2_3, ixm1_3, ixm2_4, ixm1_4, exitP]
end K02
/-! k2Q7 -/
namespace K02
open Mi PySem
/-! ### ticks -/
def val (t : T) : Int := match t with
  | .int i => i
  | _ => 0
def mn (i j : Int) : Int := if j < i then j else i
def mx (i j : Int) : Int := if i < j then j else i
def stTk (f : T → Int × Int) (x : T) : Int × Int := match x with
  | .tup [.str w, a] => if w = "run" then (val a, val a) else (0, 0)
  | .tup [.str w, a, b] => if w = "either" then (mn (f a).1 (f b).1, mx (f a).2 (f b).2) else if w = "loop" then (0, val a * (f b).2) else (0, 0)
  | .tup [.str w, _, a, b] => if w = "when" then (mn (f a).1 (f b).1, mx (f a).2 (f b).2) else (0, 0)
  | _ => (0, 0)
def sumTk (f : T → Int × Int) : List T → Int × Int
  | [] => (0, 0)
  | x :: r => ((stTk f x).1 + (sumTk f r).1, (stTk f x).2 + (sumTk f r).2)
def tkB : Nat → T → Int × Int
  | 0, _ => (0, 0)
  | n + 1, .tup ts => sumTk (tkB n) ts
  | _ + 1, _ => (0, 0)
def PB : Nat → T → Bool
  | 0, _ => false
  | n + 1, .tup ts => ts.all fun x => stB x && (innerS x).all (PB n)
  | _ + 1, _ => false
def pr (p : Int × Int) : T := .tup [.int p.1, .int p.2]
theorem pr1 (p : Int × Int) (s : Sto) : ixM (.t (pr p)) (.t (.int 0)) s = some (.t (.int p.1)) := ix0 _ _ s
theorem pr2 (p : Int × Int) (s : Sto) : ixM (.t (pr p)) (.t (.int 1)) s = some (.t (.int p.2)) := ix1 _ _ _ s
theorem btw_int {k : T} {a b : Int} (h : btw k a b = true) : ∃ i, k = .int i ∧ a ≤ i ∧ i ≤ b := by
  unfold btw at h
  split at h
  · rename_i i
    rw [Bool.and_eq_true, decide_eq_true_eq, decide_eq_true_eq] at h
    exact ⟨i, rfl, h.1, h.2⟩
  · cases h
theorem mul_small (i j : Int) (h1 : 1 ≤ i) (h2 : i ≤ 5) (s : Sto) : mulA (.t (.int i)) (.t (.int j)) s = some (.t (.int (i * j))) := by
  unfold mulA mulM
  dsimp only
  rw [if_pos (.inl (by unfold B64; omega))]
  rfl
theorem st_inner {x : T} (h : St x) : m_inner_bodies [x] = .ok (.lst (innerS x)) := by
  cases h with
  | run k h => exact v_inner _ [.str "ticks"] _ (by simp (config := {decide := true}) [t_FORMS, List.lookup, beq_str]) rfl
  | either a b ha hb => exact v_inner _ [.str "body", .str "body"] _ (by simp (config := {decide := true}) [t_FORMS, List.lookup, beq_str]) rfl
  | when c a b hc ha hb => exact v_inner _ [.str "counter", .str "body", .str "body"] _ (by simp (config := {decide := true}) [t_FORMS, List.lookup, beq_str]) rfl
  | loop k a h ha => exact v_inner _ [.str "passes", .str "body"] _ (by simp (config := {decide := true}) [t_FORMS, List.lookup, beq_str]) rfl
  | mask k h => exact v_inner _ [.str "level"] _ (by simp (config := {decide := true}) [t_FORMS, List.lookup, beq_str]) rfl
  | unmask => exact v_inner _ [] _ (by simp (config := {decide := true}) [t_FORMS, List.lookup, beq_str]) rfl
  | named w n hw h =>
    rcases hw with rfl | rfl | rfl | rfl | rfl
    · exact v_inner _ [.str "source"] _ (by simp (config := {decide := true}) [t_FORMS, List.lookup, beq_str]) rfl
    · exact v_inner _ [.str "source"] _ (by simp (config := {decide := true}) [t_FORMS, List.lookup, beq_str]) rfl
    · exact v_inner _ [.str "task"] _ (by simp (config := {decide := true}) [t_FORMS, List.lookup, beq_str]) rfl
    · exact v_inner _ [.str "counter"] _ (by simp (config := {decide := true}) [t_FORMS, List.lookup, beq_str]) rfl
    · exact v_inner _ [.str "counter"] _ (by simp (config := {decide := true}) [t_FORMS, List.lookup, beq_str]) rfl
  | arm n d h hd => exact v_inner _ [.str "source", .str "delay"] _ (by simp (config := {decide := true}) [t_FORMS, List.lookup, beq_str]) rfl
theorem in_len {x : T} (h : St x) : (innerS x).length ≤ 2 := by
  cases h <;> first | simp [in_run] | simp [in_either] | simp [in_when] | simp [in_loop] | simp [in_mask] | simp [in_unmask] | (rw [in_named _ _ (by assumption)]; simp) | simp [in_arm]
/-- bounds of the inner bodies -/
theorem c_sb1 {R S : List T → Rp} {f : T → Int × Int} {x : T} (h : St x) (hR : ∀ b ∈ innerS x, R [b] = .ok (pr (f b))) : c_statement_bounds_1 R S [some (.t x), none, none, none, none] [] = .ok (.t (.lst ((innerS x).map fun b => pr (f b)))) [] := by
  refine lcM_all (it := seqIt (.t (.lst (innerS x))) (innerS x).length) (any_lst ?_) (nth_lst _ _) rfl (Nat.le_trans (in_len h) (by decide)) fun b hb => ⟨_, rfl, ?_⟩
  · show (match m_inner_bodies [x] with
      | .ok t => Res.ok (D.t t) []
      | .exc C x => .exc C x []
      | .bad => .bad) = _
    rw [st_inner h]
  · show (match R [b] with
      | .ok t => Res.ok (D.t t) []
      | .exc C x => .exc C x []
      | .bad => .bad) = _
    rw [hR b hb]
theorem c_sb2 {R S : List T → Rp} {x : T} (p q : Int × Int) : c_statement_bounds_2 R S [some (.t x), some (.t (.lst [pr p, pr q])), none, none, none] [] = .ok (.t (.lst [.int p.1, .int q.1])) [] := by
  have e := lcM_all (us := [3, 4]) (fi := anyOf (eVar 1)) (ga := gT 2 (gsCons (gN 3) (gsCons (gN 4) gsNil))) (fe := eVar 3) (env := [some (.t x), some (.t (.lst [pr p, pr q])), none, none, none]) (st := []) (s := []) (ts := [pr p, pr q]) (g := fun t => match t with | .tup [a, b] => a | _ => .non) (any_lst rfl) (nth_lst _ _) rfl (Nat.le_of_ble_eq_true rfl) fun t ht => by
    simp only [List.mem_cons, List.not_mem_nil, or_false] at ht
    rcases ht with rfl | rfl <;> exact ⟨_, rfl, rfl⟩
  exact e
theorem c_sb3 {R S : List T → Rp} {x : T} (p q : Int × Int) : c_statement_bounds_3 R S [some (.t x), some (.t (.lst [pr p, pr q])), none, none, none] [] = .ok (.t (.lst [.int p.2, .int q.2])) [] := by
  have e := lcM_all (us := [3, 4]) (fi := anyOf (eVar 1)) (ga := gT 2 (gsCons (gN 3) (gsCons (gN 4) gsNil))) (fe := eVar 4) (env := [some (.t x), some (.t (.lst [pr p, pr q])), none, none, none]) (st := []) (s := []) (ts := [pr p, pr q]) (g := fun t => match t with | .tup [a, b] => b | _ => .non) (any_lst rfl) (nth_lst _ _) rfl (Nat.le_of_ble_eq_true rfl) fun t ht => by
    simp only [List.mem_cons, List.not_mem_nil, or_false] at ht
    rcases ht with rfl | rfl <;> exact ⟨_, rfl, rfl⟩
  exact e
theorem min_two (i j : Int) (s : Sto) : minB [.t (.lst [.int i, .int j])] s = some (.t (.int (mn i j))) := by
  show some (iD (bot [i, j])) = _
  have e : bot [i, j] = mn i j := by simp [bot, mn]
  rw [e]
  rfl
theorem max_two (i j : Int) (s : Sto) : maxB [.t (.lst [.int i, .int j])] s = some (.t (.int (mx i j))) := by
  show some (iD (top [i, j])) = _
  have e : top [i, j] = mx i j := by simp [top, mx]
  rw [e]
  rfl
theorem v_sb {R S : List T → Rp} {f : T → Int × Int} {x : T} (h : St x) (hR : ∀ b ∈ innerS x, R [b] = .ok (pr (f b))) : defP 5 (b_statement_bounds R S) [x] = .ok (pr (stTk f x)) := by
  have e1 := c_sb1 (S := S) h hR
  cases h with
  | run k h =>
    obtain ⟨i, rfl, _, _⟩ := btw_int h
    simp (config := {decide := true}) [b_statement_bounds, defP, startE, seqM, ifM, retM, nxM, Mi.bin, tupM, plains, blOf, eVar, eC, Out.seq, argsM, Res.bind_ok, Res.out_ok, optR_ok, ix0, ix1, eq_str, exitP, pr, stTk, val]
  | either a b ha hb =>
    rw [in_either] at e1
    simp (config := {decide := true}) [b_statement_bounds, defP, startE, seqM, setM, ifM, retM, nxM, Mi.bin, Mi.notM, truM, tupM, plains, blOf, eVar, eC, Out.seq, argsM, callB, Res.bind_ok, Res.out_ok, optR_ok, ix0, ix1, eq_str, e1, c_sb2, c_sb3, min_two, max_two, exitP, stTk, tru, items]
    rfl
  | when c a b hc ha hb =>
    rw [in_when] at e1
    simp (config := {decide := true}) [b_statement_bounds, defP, startE, seqM, setM, ifM, retM, nxM, Mi.bin, Mi.notM, truM, tupM, plains, blOf, eVar, eC, Out.seq, argsM, callB, Res.bind_ok, Res.out_ok, optR_ok, ix0, ix1, eq_str, e1, c_sb2, c_sb3, min_two, max_two, exitP, stTk, tru, items]
    rfl
  | loop k a h ha =>
    obtain ⟨i, rfl, h1, h5⟩ := btw_int h
    rw [in_loop] at e1
    have e2 : ∀ s, ixM (.t (.lst [pr (f a)])) (.t (.int 0)) s = some (.t (pr (f a))) := fun s => ix_natL [pr (f a)] 0 s
    simp (config := {decide := true}) [b_statement_bounds, defP, startE, seqM, setM, ifM, retM, nxM, Mi.bin, Mi.notM, truM, tupM, plains, blOf, eVar, eC, Out.seq, argsM, callB, Res.bind_ok, Res.out_ok, optR_ok, ix0, ix1, eq_str, e1, e2, pr2, mul_small _ _ h1 h5, exitP, stTk, tru, items, val]
    rfl
  | mask k h =>
    rw [in_mask] at e1
    simp (config := {decide := true}) [b_statement_bounds, defP, startE, seqM, setM, ifM, retM, nxM, Mi.bin, Mi.notM, truM, tupM, plains, blOf, eVar, eC, Out.seq, argsM, Res.bind_ok, Res.out_ok, optR_ok, ix0, ix1, eq_str, e1, exitP, pr, stTk, tru, items]
  | unmask =>
    rw [in_unmask] at e1
    simp (config := {decide := true}) [b_statement_bounds, defP, startE, seqM, setM, ifM, retM, nxM, Mi.bin, Mi.notM, truM, tupM, plains, blOf, eVar, eC, Out.seq, argsM, Res.bind_ok, Res.out_ok, optR_ok, ix0, ix1, eq_str, e1, exitP, pr, stTk, tru, items]
  | named w n hw h =>
    rw [in_named w n hw] at e1
    rcases hw with rfl | rfl | rfl | rfl | rfl <;> simp (config := {decide := true}) [b_statement_bounds, defP, startE, seqM, setM, ifM, retM, nxM, Mi.bin, Mi.notM, truM, tupM, plains, blOf, eVar, eC, Out.seq, argsM, Res.bind_ok, Res.out_ok, optR_ok, ix0, ix1, eq_str, e1, exitP, pr, stTk, tru, items]
  | arm n d h hd =>
    rw [in_arm] at e1
    simp (config := {decide := true}) [b_statement_bounds, defP, startE, seqM, setM, ifM, retM, nxM, Mi.bin, Mi.notM, truM, tupM, plains, blOf, eVar, eC, Out.seq, argsM, Res.bind_ok, Res.out_ok, optR_ok, ix0, ix1, eq_str, e1, exitP, pr, stTk, tru, items]
/-- the loop of tick_bounds -/
theorem l_tb {R S : List T → Rp} {f : T → Int × Int} {b : T} : ∀ (ts : List T) (lo hi : Int) (x3 x4 x5 : Option D), (∀ x ∈ ts, S [x] = .ok (pr (stTk f x))) →
    ∃ y3 y4 y5, forL (gN 3) (seqM (asgM (callP S [eVar 3]) (gT 2 (gsCons (gN 4) (gsCons (gN 5) (gsNil))))) (seqM (augM 1 iaddM (eVar 4)) (augM 2 iaddM (eVar 5)))) (ts.map .t) [some (.t b), some (.t (.int lo)), some (.t (.int hi)), x3, x4, x5] [] =
      .nx [some (.t b), some (.t (.int (lo + (sumTk f ts).1))), some (.t (.int (hi + (sumTk f ts).2))), y3, y4, y5] []
  | [], lo, hi, x3, x4, x5, _ => ⟨x3, x4, x5, by simp [forL, sumTk]⟩
  | x :: r, lo, hi, x3, x4, x5, h => by
    have h1 := h x List.mem_cons_self
    obtain ⟨y3, y4, y5, e⟩ := l_tb (R := R) r (lo + (stTk f x).1) (hi + (stTk f x).2) (some (.t x)) (some (.t (.int (stTk f x).1))) (some (.t (.int (stTk f x).2))) fun z hz => h z (List.mem_cons_of_mem _ hz)
    refine ⟨y3, y4, y5, ?_⟩
    have e2 : (seqM (asgM (callP S [eVar 3]) (gT 2 (gsCons (gN 4) (gsCons (gN 5) (gsNil))))) (seqM (augM 1 iaddM (eVar 4)) (augM 2 iaddM (eVar 5)))) [some (.t b), some (.t (.int lo)), some (.t (.int hi)), some (.t x), x4, x5] [] =
        .nx [some (.t b), some (.t (.int (lo + (stTk f x).1))), some (.t (.int (hi + (stTk f x).2))), some (.t x), some (.t (.int (stTk f x).1)), some (.t (.int (stTk f x).2))] [] := by
      have e3 : callP S [eVar 3] [some (.t b), some (.t (.int lo)), some (.t (.int hi)), some (.t x), x4, x5] [] = .ok (.t (pr (stTk f x))) [] := by
        show (match S [x] with
          | .ok t => Res.ok (D.t t) []
          | .exc C x => .exc C x []
          | .bad => .bad) = _
        rw [h1]
      unfold seqM asgM
      rw [e3]
      rfl
    rw [List.map_cons, forL]
    show (match (seqM (asgM (callP S [eVar 3]) (gT 2 (gsCons (gN 4) (gsCons (gN 5) (gsNil))))) (seqM (augM 1 iaddM (eVar 4)) (augM 2 iaddM (eVar 5)))) [some (.t b), some (.t (.int lo)), some (.t (.int hi)), some (.t x), x4, x5] [] with
      | .nx e s => forL _ _ (r.map .t) e s
      | .ct e s => forL _ _ (r.map .t) e s
      | .bk e s => .nx e s
      | .rt d s => .rt d s
      | .exc C fs e s => .exc C fs e s
      | .bad => .bad) = _
    rw [e2]
    dsimp only
    rw [e, sumTk, Int.add_assoc, Int.add_assoc]
theorem v_tb {R S : List T → Rp} {f : T → Int × Int} {ts : List T} (h : ∀ x ∈ ts, S [x] = .ok (pr (stTk f x))) : defP 6 (b_tick_bounds R S) [.tup ts] = .ok (pr (sumTk f ts)) := by
  obtain ⟨y3, y4, y5, e⟩ := l_tb (R := R) (b := .tup ts) ts 0 0 none none none h
  have e2 : l_tick_bounds_1 R S [some (.t (.tup ts)), some (.t (.int 0)), some (.t (.int 0)), none, none, none] [] = _ := (forM_eq (any_tup rfl) (nth_tup ts _) (by rw [List.length_map]; exact Nat.le_refl _)).trans e
  simp [b_tick_bounds, defP, startE, seqM, setM, retM, tupM, plains, eVar, eC, Out.seq, argsM, Res.bind_ok, Res.out_ok, optR_ok, e2, exitP, pr]
theorem PB_tup {n : Nat} {v : T} (h : PB (n + 1) v = true) : ∃ ts, v = .tup ts ∧ ∀ x ∈ ts, stB x = true ∧ ∀ b ∈ innerS x, PB n b = true := by
  cases v with
  | tup ts =>
    have h : (ts.all fun x => stB x && (innerS x).all (PB n)) = true := h
    refine ⟨ts, rfl, fun x hx => ?_⟩
    have := List.all_eq_true.mp h x hx
    rw [Bool.and_eq_true] at this
    exact ⟨this.1, List.all_eq_true.mp this.2⟩
  | _ => cases h
theorem v_ticks : ∀ (n : Nat) (v : T) (k : Nat), PB n v = true → (g_tick_bounds (2 * n + k)).1 [v] = .ok (pr (tkB n v))
  | 0, v, k, h => by cases h
  | n + 1, v, k, h => by
    obtain ⟨ts, rfl, hs⟩ := PB_tup h
    rw [show 2 * (n + 1) + k = (2 * n + k + 1) + 1 by omega]
    show defP 6 (b_tick_bounds _ (g_tick_bounds (2 * n + k + 1)).2) [.tup ts] = .ok (pr (sumTk (tkB n) ts))
    refine v_tb fun x hx => ?_
    show defP 5 (b_statement_bounds (g_tick_bounds (2 * n + k)).1 _) [x] = _
    exact v_sb (st_of (hs x hx).1) fun b hb => v_ticks n b k ((hs x hx).2 b hb)
end K02
/-! k2Q8 -/
namespace K02
open Mi PySem
theorem c_lt1 {R : List T → Rp} {f : T → Int × Int} {x : T} (v lo hi x4 x5 : Option D) (h : St x) (hR : ∀ b ∈ innerS x, R [b] = .ok (pr (f b))) : c_law_ticks_1 R [v, some (.t x), lo, hi, x4, x5] [] = .ok (.t (.lst ((innerS x).map fun b => pr (f b)))) [] := by
  refine lcM_all (it := seqIt (.t (.lst (innerS x))) (innerS x).length) (any_lst ?_) (nth_lst _ _) rfl (Nat.le_trans (in_len h) (by decide)) fun b hb => ⟨_, rfl, ?_⟩
  · show (match m_law_inner [x] with
      | .ok t => Res.ok (D.t t) []
      | .exc C x => .exc C x []
      | .bad => .bad) = _
    rw [v_law_inner h]
  · show (match R [b] with
      | .ok t => Res.ok (D.t t) []
      | .exc C x => .exc C x []
      | .bad => .bad) = _
    rw [hR b hb]
theorem gd_pr (p : Int × Int) : gd 1 (pr p) = true := rfl
theorem ne_nil {n : Nat} {ts : List T} (hn : n ≤ 62) (h : ∀ t ∈ ts, gd n t = true) (s : Sto) : neM (.t (.lst ts)) (.t (.lst [])) s = some (.t (.bl (!ts.isEmpty))) := by
  have e := eq_nil hn h s
  unfold eqM at e
  unfold neM
  cases q : eqB (.t (.lst ts)) (.t (.lst [])) s with
  | none => (rw [q] at e; cases e)
  | some b =>
    rw [q] at e
    have e : some (D.t (.bl b)) = some (D.t (.bl ts.isEmpty)) := e
    cases e
    rfl
theorem min_2 (i j : Int) (s : Sto) : minB [.t (.int i), .t (.int j)] s = some (.t (.int (mn i j))) := rfl
theorem max_2 (i j : Int) (s : Sto) : maxB [.t (.int i), .t (.int j)] s = some (.t (.int (mx i j))) := by
  show some (iD (if j > i then j else i)) = _
  rfl
theorem ixl0 (a : T) (r : List T) (s : Sto) : ixM (.t (.lst (a :: r))) (.t (.int 0)) s = some (.t a) := ix_natL (a :: r) 0 s
theorem ixl1 (a b : T) (r : List T) (s : Sto) : ixM (.t (.lst (a :: b :: r))) (.t (.int 1)) s = some (.t b) := ix_natL (a :: b :: r) 1 s
def bd_lt (R : List T → Rp) : Mi.Env → Sto → Out :=
  seqM (setM 4 (c_law_ticks_1 R))
    (ifM (fun env st => blOf (Mi.bin eqM (Mi.bin ixM (eVar 1) (eC (.int 0))) (eC (.str "run")) env st)) (parM 2 3 [Mi.bin addM (eVar 2) (Mi.bin ixM (eVar 1) (eC (.int 1))), Mi.bin addM (eVar 3) (Mi.bin ixM (eVar 1) (eC (.int 1)))]) (ifM (fun env st => blOf (Mi.bin eqM (Mi.bin ixM (eVar 1) (eC (.int 0))) (eC (.str "loop")) env st)) (setM 3 (Mi.bin addM (eVar 3) (Mi.bin mulA (Mi.bin ixM (eVar 1) (eC (.int 1))) (Mi.bin ixM (Mi.bin ixM (eVar 4) (eC (.int 0))) (eC (.int 1)))))) (ifM (fun env st => blOf (Mi.bin neM (eVar 4) (lstM []) env st)) (seqM (setM 2 (Mi.bin addM (eVar 2) (callB minB [Mi.bin ixM (Mi.bin ixM (eVar 4) (eC (.int 0))) (eC (.int 0)), Mi.bin ixM (Mi.bin ixM (eVar 4) (eC (.int 1))) (eC (.int 0))])))
    (setM 3 (Mi.bin addM (eVar 3) (callB maxB [Mi.bin ixM (Mi.bin ixM (eVar 4) (eC (.int 0))) (eC (.int 1)), Mi.bin ixM (Mi.bin ixM (eVar 4) (eC (.int 1))) (eC (.int 1))])))) (nxM))))
theorem v_bd {R : List T → Rp} {f : T → Int × Int} {x : T} (v : D) (lo hi : Int) (x4 x5 : Option D) (h : St x) (hR : ∀ b ∈ innerS x, R [b] = .ok (pr (f b))) :
    bd_lt R [some v, some (.t x), some (.t (.int lo)), some (.t (.int hi)), x4, x5] [] = .nx [some v, some (.t x), some (.t (.int (lo + (stTk f x).1))), some (.t (.int (hi + (stTk f x).2))), some (.t (.lst ((innerS x).map fun b => pr (f b)))), x5] [] := by
  have e1 := c_lt1 (some v) (some (.t (.int lo))) (some (.t (.int hi))) x4 x5 h hR
  have e9 : ∀ s, neM (.t (.lst ((innerS x).map fun b => pr (f b)))) (.t (.lst [])) s = some (.t (.bl (!((innerS x).map fun b => pr (f b)).isEmpty))) := fun s => ne_nil (n := 1) (by decide) (fun t ht => by
    obtain ⟨b, _, rfl⟩ := List.mem_map.mp ht
    exact gd_pr _) s
  cases h with
  | run k h =>
    obtain ⟨i, rfl, _, _⟩ := btw_int h
    rw [in_run] at e1 e9 ⊢
    simp (config := {decide := true}) [bd_lt, seqM, setM, parM, ifM, retM, nxM, Mi.bin, lstM, tupM, plains, blOf, eVar, eC, Out.seq, argsM, callB, Res.bind_ok, Res.out_ok, optR_ok, ix0, ix1, eq_str, e1, add_int, stTk, val]
  | either a b ha hb =>
    rw [in_either] at e1 e9 ⊢
    simp only [List.map_cons, List.map_nil] at e9 e1
    simp (config := {decide := true}) [bd_lt, seqM, setM, parM, ifM, retM, nxM, Mi.bin, lstM, tupM, plains, blOf, eVar, eC, Out.seq, argsM, callB, Res.bind_ok, Res.out_ok, optR_ok, ix0, ix1, ixl0, ixl1, pr1, pr2, min_2, max_2, eq_str, e1, e9, add_int, stTk, val]
  | when c a b hc ha hb =>
    rw [in_when] at e1 e9 ⊢
    simp only [List.map_cons, List.map_nil] at e9 e1
    simp (config := {decide := true}) [bd_lt, seqM, setM, parM, ifM, retM, nxM, Mi.bin, lstM, tupM, plains, blOf, eVar, eC, Out.seq, argsM, callB, Res.bind_ok, Res.out_ok, optR_ok, ix0, ix1, ixl0, ixl1, pr1, pr2, min_2, max_2, eq_str, e1, e9, add_int, stTk, val]
  | loop k a h ha =>
    obtain ⟨i, rfl, h1, h5⟩ := btw_int h
    rw [in_loop] at e1 e9 ⊢
    simp only [List.map_cons, List.map_nil] at e9 e1
    simp (config := {decide := true}) [bd_lt, seqM, setM, parM, ifM, retM, nxM, Mi.bin, lstM, tupM, plains, blOf, eVar, eC, Out.seq, argsM, callB, Res.bind_ok, Res.out_ok, optR_ok, ix0, ix1, ixl0, ixl1, pr1, pr2, mul_small _ _ h1 h5, eq_str, e1, e9, add_int, stTk, val]
  | mask k h =>
    rw [in_mask] at e1 e9 ⊢
    simp only [List.map_cons, List.map_nil] at e9 e1
    simp (config := {decide := true}) [bd_lt, seqM, setM, parM, ifM, retM, nxM, Mi.bin, lstM, tupM, plains, blOf, eVar, eC, Out.seq, argsM, callB, Res.bind_ok, Res.out_ok, optR_ok, ix0, ix1, eq_str, e1, e9, add_int, stTk, val]
  | unmask =>
    rw [in_unmask] at e1 e9 ⊢
    simp only [List.map_cons, List.map_nil] at e9 e1
    simp (config := {decide := true}) [bd_lt, seqM, setM, parM, ifM, retM, nxM, Mi.bin, lstM, tupM, plains, blOf, eVar, eC, Out.seq, argsM, callB, Res.bind_ok, Res.out_ok, optR_ok, ix0, ix1, eq_str, e1, e9, add_int, stTk, val]
  | named w n hw h =>
    rw [in_named w n hw] at e1 e9 ⊢
    simp only [List.map_cons, List.map_nil] at e9 e1
    rcases hw with rfl | rfl | rfl | rfl | rfl <;> simp (config := {decide := true}) [bd_lt, seqM, setM, parM, ifM, retM, nxM, Mi.bin, lstM, tupM, plains, blOf, eVar, eC, Out.seq, argsM, callB, Res.bind_ok, Res.out_ok, optR_ok, ix0, ix1, eq_str, e1, e9, add_int, stTk, val]
  | arm n d h hd =>
    rw [in_arm] at e1 e9 ⊢
    simp only [List.map_cons, List.map_nil] at e9 e1
    simp (config := {decide := true}) [bd_lt, seqM, setM, parM, ifM, retM, nxM, Mi.bin, lstM, tupM, plains, blOf, eVar, eC, Out.seq, argsM, callB, Res.bind_ok, Res.out_ok, optR_ok, ix0, ix1, eq_str, e1, e9, add_int, stTk, val]
theorem l_lt {R : List T → Rp} {f : T → Int × Int} {b : T} : ∀ (ts : List T) (lo hi : Int) (x1 x4 x5 : Option D), (∀ x ∈ ts, St x ∧ ∀ b ∈ innerS x, R [b] = .ok (pr (f b))) →
    ∃ y1 y4 y5, forL (gN 1) (bd_lt R) (ts.map .t) [some (.t b), x1, some (.t (.int lo)), some (.t (.int hi)), x4, x5] [] =
      .nx [some (.t b), y1, some (.t (.int (lo + (sumTk f ts).1))), some (.t (.int (hi + (sumTk f ts).2))), y4, y5] []
  | [], lo, hi, x3, x4, x5, _ => ⟨x3, x4, x5, by simp [forL, sumTk]⟩
  | x :: r, lo, hi, x1, x4, x5, h => by
    obtain ⟨h1, h2⟩ := h x List.mem_cons_self
    obtain ⟨y3, y4, y5, e⟩ := l_lt (R := R) r (lo + (stTk f x).1) (hi + (stTk f x).2) (some (.t x)) (some (.t (.lst ((innerS x).map fun b => pr (f b))))) x5 fun z hz => h z (List.mem_cons_of_mem _ hz)
    refine ⟨y3, y4, y5, ?_⟩
    rw [List.map_cons, forL]
    show (match bd_lt R [some (.t b), some (.t x), some (.t (.int lo)), some (.t (.int hi)), x4, x5] [] with
      | .nx e s => forL _ _ (r.map .t) e s
      | .ct e s => forL _ _ (r.map .t) e s
      | .bk e s => .nx e s
      | .rt d s => .rt d s
      | .exc C fs e s => .exc C fs e s
      | .bad => .bad) = _
    rw [v_bd (.t b) lo hi x4 x5 h1 h2]
    dsimp only
    rw [e, sumTk, Int.add_assoc, Int.add_assoc]
theorem v_lticks : ∀ (n : Nat) (v : T) (k : Nat), PB n v = true → g_law_ticks (n + k) [v] = .ok (pr (tkB n v))
  | 0, v, k, h => by cases h
  | n + 1, v, k, h => by
    obtain ⟨ts, rfl, hs⟩ := PB_tup h
    rw [show n + 1 + k = (n + k) + 1 by omega]
    show defP 6 (b_law_ticks (g_law_ticks (n + k))) [.tup ts] = .ok (pr (sumTk (tkB n) ts))
    obtain ⟨y3, y4, y5, e⟩ := l_lt (R := g_law_ticks (n + k)) (f := tkB n) (b := .tup ts) ts 0 0 none none none fun x hx => ⟨st_of (hs x hx).1, fun b hb => v_lticks n b k ((hs x hx).2 b hb)⟩
    have e2 : l_law_ticks_2 (g_law_ticks (n + k)) [some (.t (.tup ts)), none, some (.t (.int 0)), some (.t (.int 0)), none, none] [] = _ := (forM_eq (any_tup rfl) (nth_tup ts _) (by rw [List.length_map]; exact Nat.le_refl _)).trans e
    have e0 : asgM (tupM [eC (.int 0), eC (.int 0)]) (gT 2 (gsCons (gN 2) (gsCons (gN 3) (gsNil)))) [some (.t (.tup ts)), none, none, none, none, none] [] = .nx [some (.t (.tup ts)), none, some (.t (.int 0)), some (.t (.int 0)), none, none] [] := rfl
    simp [b_law_ticks, defP, startE, seqM, retM, tupM, plains, eVar, Out.seq, argsM, Res.bind_ok, Res.out_ok, optR_ok, e0, e2, exitP, pr]
end K02
/-! k2Q9 -/
namespace K02
open Mi PySem
/-! ### the law's look at a line -/
def lpB (n : Nat) (x : T) : Bool := match x with
  | .tup [.str w, _, a] => if w = "loop" then decide (0 < (tkB n a).1) else true
  | _ => true
def RB : Nat → T → Bool
  | 0, _ => false
  | n + 1, .tup ts => ts.all fun x => stB x && (innerS x).all (RB n) && lpB n x
  | _ + 1, _ => false
def lnB (n : Nat) (x : T) : Bool := stB x && (innerS x).all (RB n) && lpB n x
theorem in_str5 (w a b c d e : Str) (s : Sto) : inM (.t (.str w)) (.t (.tup [.str a, .str b, .str c, .str d, .str e])) s = some (.t (.bl (decide (w = a) || (decide (w = b) || (decide (w = c) || (decide (w = d) || decide (w = e))))))) := by
  show some (bD (L2.inV (.str w) [.str a, .str b, .str c, .str d, .str e])) = _
  unfold L2.inV
  simp only [List.any_cons, List.any_nil, Bool.or_false]
  have e : ∀ c : Str, L2.eqV (.str c) (.str w) = decide (w = c) := fun c => by
    show decide (c = w) = _
    by_cases h : w = c
    · rw [decide_eq_true h, decide_eq_true h.symm]
    · rw [decide_eq_false h, decide_eq_false fun z => h z.symm]
  rw [e, e, e, e, e]
  rfl
theorem gt_int (a b : Int) (s : Sto) : gtM (.t (.int a)) (.t (.int b)) s = some (.t (.bl (decide (b < a)))) := rfl
theorem le_int (a b : Int) (s : Sto) : leM (.t (.int a)) (.t (.int b)) s = some (.t (.bl (decide (a ≤ b)))) := rfl
theorem ge_int (a b : Int) (s : Sto) : geM (.t (.int a)) (.t (.int b)) s = some (.t (.bl (decide (b ≤ a)))) := rfl
/-- t == () -/
theorem eq_unit {n : Nat} {ts : List T} (hn : n ≤ 62) (h : ∀ t ∈ ts, gd n t = true) (s : Sto) : eqM (.t (.tup ts)) (.t (.tup [])) s = some (.t (.bl ts.isEmpty)) := by
  obtain ⟨ps, e, a, b⟩ := gds_py n ts (gds_of h)
  have l := pyTs_len e
  have hs : SeqAt.shaped (.tuple ps) = true := by
    unfold SeqAt.shaped
    rw [Bool.and_eq_true, decide_eq_true_eq]
    exact ⟨a, by show PyData.depthAll ps + 1 ≤ 64; omega⟩
  show ((((pyTs ts).map PyData.tuple).bind fun p => (some (PyData.tuple [])).bind fun q => if (SeqAt.shaped p && SeqAt.shaped q) = true then some (PyData.eqv p q) else none).map bD) = _
  rw [e]
  show ((if (SeqAt.shaped (.tuple ps) && SeqAt.shaped (.tuple [])) = true then some (PyData.eqv (.tuple ps) (.tuple [])) else none).map bD) = _
  rw [hs, show SeqAt.shaped (.tuple []) = true from rfl]
  cases ts with
  | nil => cases ps with
    | nil => rfl
    | cons _ _ => cases l
  | cons t r => cases ps with
    | nil => cases l
    | cons _ _ => rfl
theorem callP2 {R : List T → Rp} {fa fb : Mi.Env → Sto → Res D} {env : Mi.Env} {s : Sto} {a b : T} {t : T} (ha : fa env s = .ok (.t a) s) (hb : fb env s = .ok (.t b) s) (h : R [a, b] = .ok t) : callP R [fa, fb] env s = .ok (.t t) s := by
  simp [callP, argsM, ha, hb, Res.bind_ok, plains, h]
section
variable {L R : List T → Rp} {n m : Nat} {d : Int}
theorem v_line_run (r : List T) (hm : m ≤ 60) (h : gd m (.tup (.str "run" :: r)) = true) : defP 4 (b_law_is_line L R) [.tup (.str "run" :: r), .int d] = .ok (.bl (lnB n (.tup (.str "run" :: r)))) := by
  obtain ⟨m', rfl, hl, hg⟩ := gd_tup.mp h
  have e0 := fun s => eq_unit (n := m') (by omega) hg s
  have pa := gd_pl h
  by_cases e : r.length = 1
  · obtain ⟨a, rfl⟩ := len1 e
    have ha := gd_pl (hg a (by simp))
    simp (config := {decide := true}) [b_law_is_line, defP, startE, seqM, setM, parM, ifM, ifE, retM, nxM, Mi.bin, Mi.orM, Mi.andM, Mi.notM, truM, andV, lstM, tupM, plains, blOf, eVar, eC, Out.seq, argsM, callB, callP, Res.bind_ok, Res.out_ok, optR_ok, isi_tup _ pa, isi_str, pl, isTup, isStr, tru_bl, ix0, ix1, eq_str, e0, in_str2, in_str5, len_tup, eq_int, ne_int, exitP, bD, lnB, stB, t_FORMS, List.lookup, beq_str, v_law_is_from a ha, partB, in_run, lpB]
  · have e4 : ¬ ((r.length : Int) + 1 = 2) := by omega
    simp (config := {decide := true}) [b_law_is_line, defP, startE, seqM, setM, parM, ifM, ifE, retM, nxM, Mi.bin, Mi.orM, Mi.andM, Mi.notM, truM, andV, lstM, tupM, plains, blOf, eVar, eC, Out.seq, argsM, callB, callP, Res.bind_ok, Res.out_ok, optR_ok, isi_tup _ pa, isi_str, pl, isTup, isStr, tru_bl, ix0, ix1, eq_str, e0, in_str2, in_str5, len_tup, eq_int, ne_int, exitP, bD, lnB, stB, t_FORMS, List.lookup, beq_str, e, e4]
theorem v_line_mask (r : List T) (hm : m ≤ 60) (h : gd m (.tup (.str "mask" :: r)) = true) : defP 4 (b_law_is_line L R) [.tup (.str "mask" :: r), .int d] = .ok (.bl (lnB n (.tup (.str "mask" :: r)))) := by
  obtain ⟨m', rfl, hl, hg⟩ := gd_tup.mp h
  have e0 := fun s => eq_unit (n := m') (by omega) hg s
  have pa := gd_pl h
  by_cases e : r.length = 1
  · obtain ⟨a, rfl⟩ := len1 e
    have ha := gd_pl (hg a (by simp))
    simp (config := {decide := true}) [b_law_is_line, defP, startE, seqM, setM, parM, ifM, ifE, retM, nxM, Mi.bin, Mi.orM, Mi.andM, Mi.notM, truM, andV, lstM, tupM, plains, blOf, eVar, eC, Out.seq, argsM, callB, callP, Res.bind_ok, Res.out_ok, optR_ok, isi_tup _ pa, isi_str, pl, isTup, isStr, tru_bl, ix0, ix1, eq_str, e0, in_str2, in_str5, len_tup, eq_int, ne_int, exitP, bD, lnB, stB, t_FORMS, List.lookup, beq_str, v_law_is_from a ha, partB, in_mask, lpB]
  · have e4 : ¬ ((r.length : Int) + 1 = 2) := by omega
    simp (config := {decide := true}) [b_law_is_line, defP, startE, seqM, setM, parM, ifM, ifE, retM, nxM, Mi.bin, Mi.orM, Mi.andM, Mi.notM, truM, andV, lstM, tupM, plains, blOf, eVar, eC, Out.seq, argsM, callB, callP, Res.bind_ok, Res.out_ok, optR_ok, isi_tup _ pa, isi_str, pl, isTup, isStr, tru_bl, ix0, ix1, eq_str, e0, in_str2, in_str5, len_tup, eq_int, ne_int, exitP, bD, lnB, stB, t_FORMS, List.lookup, beq_str, e, e4]
theorem v_line_unmask (r : List T) (hm : m ≤ 60) (h : gd m (.tup (.str "unmask" :: r)) = true) : defP 4 (b_law_is_line L R) [.tup (.str "unmask" :: r), .int d] = .ok (.bl (lnB n (.tup (.str "unmask" :: r)))) := by
  obtain ⟨m', rfl, hl, hg⟩ := gd_tup.mp h
  have e0 := fun s => eq_unit (n := m') (by omega) hg s
  have pa := gd_pl h
  by_cases e : r.length = 0
  · cases len0 e
    simp (config := {decide := true}) [b_law_is_line, defP, startE, seqM, setM, parM, ifM, ifE, retM, nxM, Mi.bin, Mi.orM, Mi.andM, Mi.notM, truM, andV, lstM, tupM, plains, blOf, eVar, eC, Out.seq, argsM, callB, callP, Res.bind_ok, Res.out_ok, optR_ok, isi_tup _ pa, isi_str, pl, isTup, isStr, tru_bl, ix0, ix1, eq_str, e0, in_str2, in_str5, len_tup, eq_int, ne_int, exitP, bD, lnB, stB, t_FORMS, List.lookup, beq_str, in_unmask, lpB]
  · have e4 : ¬ ((r.length : Int) + 1 = 1) := by omega
    simp (config := {decide := true}) [b_law_is_line, defP, startE, seqM, setM, parM, ifM, ifE, retM, nxM, Mi.bin, Mi.orM, Mi.andM, Mi.notM, truM, andV, lstM, tupM, plains, blOf, eVar, eC, Out.seq, argsM, callB, callP, Res.bind_ok, Res.out_ok, optR_ok, isi_tup _ pa, isi_str, pl, isTup, isStr, tru_bl, ix0, ix1, eq_str, e0, in_str2, in_str5, len_tup, eq_int, ne_int, exitP, bD, lnB, stB, t_FORMS, List.lookup, beq_str, e, e4]
theorem v_line_answer (r : List T) (hm : m ≤ 60) (h : gd m (.tup (.str "answer" :: r)) = true) : defP 4 (b_law_is_line L R) [.tup (.str "answer" :: r), .int d] = .ok (.bl (lnB n (.tup (.str "answer" :: r)))) := by
  obtain ⟨m', rfl, hl, hg⟩ := gd_tup.mp h
  have e0 := fun s => eq_unit (n := m') (by omega) hg s
  have pa := gd_pl h
  by_cases e : r.length = 1
  · obtain ⟨a, rfl⟩ := len1 e
    have ha := v_law_is_name a m' (by omega) (hg a (by simp))
    simp (config := {decide := true}) [b_law_is_line, defP, startE, seqM, setM, parM, ifM, ifE, retM, nxM, Mi.bin, Mi.orM, Mi.andM, Mi.notM, truM, andV, lstM, tupM, plains, blOf, eVar, eC, Out.seq, argsM, callB, callP, Res.bind_ok, Res.out_ok, optR_ok, isi_tup _ pa, isi_str, pl, isTup, isStr, tru_bl, ix0, ix1, eq_str, e0, in_str2, in_str5, len_tup, eq_int, ne_int, exitP, bD, lnB, stB, t_FORMS, List.lookup, beq_str, ha, partB, in_named "answer" a (by simp), lpB]
  · have e4 : ¬ ((r.length : Int) + 1 = 2) := by omega
    simp (config := {decide := true}) [b_law_is_line, defP, startE, seqM, setM, parM, ifM, ifE, retM, nxM, Mi.bin, Mi.orM, Mi.andM, Mi.notM, truM, andV, lstM, tupM, plains, blOf, eVar, eC, Out.seq, argsM, callB, callP, Res.bind_ok, Res.out_ok, optR_ok, isi_tup _ pa, isi_str, pl, isTup, isStr, tru_bl, ix0, ix1, eq_str, e0, in_str2, in_str5, len_tup, eq_int, ne_int, exitP, bD, lnB, stB, t_FORMS, List.lookup, beq_str, e, e4]
theorem v_line_raise (r : List T) (hm : m ≤ 60) (h : gd m (.tup (.str "raise" :: r)) = true) : defP 4 (b_law_is_line L R) [.tup (.str "raise" :: r), .int d] = .ok (.bl (lnB n (.tup (.str "raise" :: r)))) := by
  obtain ⟨m', rfl, hl, hg⟩ := gd_tup.mp h
  have e0 := fun s => eq_unit (n := m') (by omega) hg s
  have pa := gd_pl h
  by_cases e : r.length = 1
  · obtain ⟨a, rfl⟩ := len1 e
    have ha := v_law_is_name a m' (by omega) (hg a (by simp))
    simp (config := {decide := true}) [b_law_is_line, defP, startE, seqM, setM, parM, ifM, ifE, retM, nxM, Mi.bin, Mi.orM, Mi.andM, Mi.notM, truM, andV, lstM, tupM, plains, blOf, eVar, eC, Out.seq, argsM, callB, callP, Res.bind_ok, Res.out_ok, optR_ok, isi_tup _ pa, isi_str, pl, isTup, isStr, tru_bl, ix0, ix1, eq_str, e0, in_str2, in_str5, len_tup, eq_int, ne_int, exitP, bD, lnB, stB, t_FORMS, List.lookup, beq_str, ha, partB, in_named "raise" a (by simp), lpB]
  · have e4 : ¬ ((r.length : Int) + 1 = 2) := by omega
    simp (config := {decide := true}) [b_law_is_line, defP, startE, seqM, setM, parM, ifM, ifE, retM, nxM, Mi.bin, Mi.orM, Mi.andM, Mi.notM, truM, andV, lstM, tupM, plains, blOf, eVar, eC, Out.seq, argsM, callB, callP, Res.bind_ok, Res.out_ok, optR_ok, isi_tup _ pa, isi_str, pl, isTup, isStr, tru_bl, ix0, ix1, eq_str, e0, in_str2, in_str5, len_tup, eq_int, ne_int, exitP, bD, lnB, stB, t_FORMS, List.lookup, beq_str, e, e4]
theorem v_line_post (r : List T) (hm : m ≤ 60) (h : gd m (.tup (.str "post" :: r)) = true) : defP 4 (b_law_is_line L R) [.tup (.str "post" :: r), .int d] = .ok (.bl (lnB n (.tup (.str "post" :: r)))) := by
  obtain ⟨m', rfl, hl, hg⟩ := gd_tup.mp h
  have e0 := fun s => eq_unit (n := m') (by omega) hg s
  have pa := gd_pl h
  by_cases e : r.length = 1
  · obtain ⟨a, rfl⟩ := len1 e
    have ha := v_law_is_name a m' (by omega) (hg a (by simp))
    simp (config := {decide := true}) [b_law_is_line, defP, startE, seqM, setM, parM, ifM, ifE, retM, nxM, Mi.bin, Mi.orM, Mi.andM, Mi.notM, truM, andV, lstM, tupM, plains, blOf, eVar, eC, Out.seq, argsM, callB, callP, Res.bind_ok, Res.out_ok, optR_ok, isi_tup _ pa, isi_str, pl, isTup, isStr, tru_bl, ix0, ix1, eq_str, e0, in_str2, in_str5, len_tup, eq_int, ne_int, exitP, bD, lnB, stB, t_FORMS, List.lookup, beq_str, ha, partB, in_named "post" a (by simp), lpB]
  · have e4 : ¬ ((r.length : Int) + 1 = 2) := by omega
    simp (config := {decide := true}) [b_law_is_line, defP, startE, seqM, setM, parM, ifM, ifE, retM, nxM, Mi.bin, Mi.orM, Mi.andM, Mi.notM, truM, andV, lstM, tupM, plains, blOf, eVar, eC, Out.seq, argsM, callB, callP, Res.bind_ok, Res.out_ok, optR_ok, isi_tup _ pa, isi_str, pl, isTup, isStr, tru_bl, ix0, ix1, eq_str, e0, in_str2, in_str5, len_tup, eq_int, ne_int, exitP, bD, lnB, stB, t_FORMS, List.lookup, beq_str, e, e4]
theorem v_line_add (r : List T) (hm : m ≤ 60) (h : gd m (.tup (.str "add" :: r)) = true) : defP 4 (b_law_is_line L R) [.tup (.str "add" :: r), .int d] = .ok (.bl (lnB n (.tup (.str "add" :: r)))) := by
  obtain ⟨m', rfl, hl, hg⟩ := gd_tup.mp h
  have e0 := fun s => eq_unit (n := m') (by omega) hg s
  have pa := gd_pl h
  by_cases e : r.length = 1
  · obtain ⟨a, rfl⟩ := len1 e
    have ha := v_law_is_name a m' (by omega) (hg a (by simp))
    simp (config := {decide := true}) [b_law_is_line, defP, startE, seqM, setM, parM, ifM, ifE, retM, nxM, Mi.bin, Mi.orM, Mi.andM, Mi.notM, truM, andV, lstM, tupM, plains, blOf, eVar, eC, Out.seq, argsM, callB, callP, Res.bind_ok, Res.out_ok, optR_ok, isi_tup _ pa, isi_str, pl, isTup, isStr, tru_bl, ix0, ix1, eq_str, e0, in_str2, in_str5, len_tup, eq_int, ne_int, exitP, bD, lnB, stB, t_FORMS, List.lookup, beq_str, ha, partB, in_named "add" a (by simp), lpB]
  · have e4 : ¬ ((r.length : Int) + 1 = 2) := by omega
    simp (config := {decide := true}) [b_law_is_line, defP, startE, seqM, setM, parM, ifM, ifE, retM, nxM, Mi.bin, Mi.orM, Mi.andM, Mi.notM, truM, andV, lstM, tupM, plains, blOf, eVar, eC, Out.seq, argsM, callB, callP, Res.bind_ok, Res.out_ok, optR_ok, isi_tup _ pa, isi_str, pl, isTup, isStr, tru_bl, ix0, ix1, eq_str, e0, in_str2, in_str5, len_tup, eq_int, ne_int, exitP, bD, lnB, stB, t_FORMS, List.lookup, beq_str, e, e4]
theorem v_line_take (r : List T) (hm : m ≤ 60) (h : gd m (.tup (.str "take" :: r)) = true) : defP 4 (b_law_is_line L R) [.tup (.str "take" :: r), .int d] = .ok (.bl (lnB n (.tup (.str "take" :: r)))) := by
  obtain ⟨m', rfl, hl, hg⟩ := gd_tup.mp h
  have e0 := fun s => eq_unit (n := m') (by omega) hg s
  have pa := gd_pl h
  by_cases e : r.length = 1
  · obtain ⟨a, rfl⟩ := len1 e
    have ha := v_law_is_name a m' (by omega) (hg a (by simp))
    simp (config := {decide := true}) [b_law_is_line, defP, startE, seqM, setM, parM, ifM, ifE, retM, nxM, Mi.bin, Mi.orM, Mi.andM, Mi.notM, truM, andV, lstM, tupM, plains, blOf, eVar, eC, Out.seq, argsM, callB, callP, Res.bind_ok, Res.out_ok, optR_ok, isi_tup _ pa, isi_str, pl, isTup, isStr, tru_bl, ix0, ix1, eq_str, e0, in_str2, in_str5, len_tup, eq_int, ne_int, exitP, bD, lnB, stB, t_FORMS, List.lookup, beq_str, ha, partB, in_named "take" a (by simp), lpB]
  · have e4 : ¬ ((r.length : Int) + 1 = 2) := by omega
    simp (config := {decide := true}) [b_law_is_line, defP, startE, seqM, setM, parM, ifM, ifE, retM, nxM, Mi.bin, Mi.orM, Mi.andM, Mi.notM, truM, andV, lstM, tupM, plains, blOf, eVar, eC, Out.seq, argsM, callB, callP, Res.bind_ok, Res.out_ok, optR_ok, isi_tup _ pa, isi_str, pl, isTup, isStr, tru_bl, ix0, ix1, eq_str, e0, in_str2, in_str5, len_tup, eq_int, ne_int, exitP, bD, lnB, stB, t_FORMS, List.lookup, beq_str, e, e4]
theorem v_line_arm (r : List T) (hm : m ≤ 60) (h : gd m (.tup (.str "arm" :: r)) = true) : defP 4 (b_law_is_line L R) [.tup (.str "arm" :: r), .int d] = .ok (.bl (lnB n (.tup (.str "arm" :: r)))) := by
  obtain ⟨m', rfl, hl, hg⟩ := gd_tup.mp h
  have e0 := fun s => eq_unit (n := m') (by omega) hg s
  have pa := gd_pl h
  by_cases e : r.length = 2
  · obtain ⟨a, b, rfl⟩ := len2 e
    have ha := v_law_is_name a m' (by omega) (hg a (by simp))
    have hb := gd_pl (hg b (by simp))
    cases q : nmB a <;> simp (config := {decide := true}) [b_law_is_line, defP, startE, seqM, setM, parM, ifM, ifE, retM, nxM, Mi.bin, Mi.orM, Mi.andM, Mi.notM, truM, andV, lstM, tupM, plains, blOf, eVar, eC, Out.seq, argsM, callB, callP, Res.bind_ok, Res.out_ok, optR_ok, isi_tup _ pa, isi_str, pl, isTup, isStr, tru_bl, ix0, ix1, eq_str, e0, in_str2, in_str5, len_tup, eq_int, ne_int, exitP, bD, lnB, stB, t_FORMS, List.lookup, beq_str, ha, q, ix2, v_law_is_from b hb, partB, in_arm, lpB]
  · have e4 : ¬ ((r.length : Int) + 1 = 3) := by omega
    simp (config := {decide := true}) [b_law_is_line, defP, startE, seqM, setM, parM, ifM, ifE, retM, nxM, Mi.bin, Mi.orM, Mi.andM, Mi.notM, truM, andV, lstM, tupM, plains, blOf, eVar, eC, Out.seq, argsM, callB, callP, Res.bind_ok, Res.out_ok, optR_ok, isi_tup _ pa, isi_str, pl, isTup, isStr, tru_bl, ix0, ix1, eq_str, e0, in_str2, in_str5, len_tup, eq_int, ne_int, exitP, bD, lnB, stB, t_FORMS, List.lookup, beq_str, e, e4]
theorem v_line_loop (r : List T) (hm : m ≤ 60) (h : gd m (.tup (.str "loop" :: r)) = true) (hR : ∀ b ∈ r, R [b, .int (d + 1)] = .ok (.bl (RB n b))) (ht : ∀ b ∈ r, RB n b = true → g_law_ticks 6 [b] = .ok (pr (tkB n b))) (hu : ∀ b, RB n b = true → isTup b = true) : defP 4 (b_law_is_line L R) [.tup (.str "loop" :: r), .int d] = .ok (.bl (lnB n (.tup (.str "loop" :: r)))) := by
  obtain ⟨m', rfl, hl, hg⟩ := gd_tup.mp h
  have e0 := fun s => eq_unit (n := m') (by omega) hg s
  have pa := gd_pl h
  by_cases e : r.length = 2
  · obtain ⟨a, b, rfl⟩ := len2 e
    have ha := gd_pl (hg a (by simp))
    have e5 := hR b (by simp)
    have e6 := ht b (by simp)
    cases q : btw a 1 5 with
    | false => simp (config := {decide := true}) [b_law_is_line, defP, startE, seqM, setM, parM, ifM, ifE, retM, nxM, Mi.bin, Mi.orM, Mi.andM, Mi.notM, truM, andV, lstM, tupM, plains, blOf, eVar, eC, Out.seq, argsM, callB, callP, Res.bind_ok, Res.out_ok, optR_ok, isi_tup _ pa, isi_str, pl, isTup, isStr, tru_bl, ix0, ix1, eq_str, e0, in_str2, in_str5, len_tup, eq_int, ne_int, exitP, bD, lnB, stB, t_FORMS, List.lookup, beq_str, v_law_is_from a ha, q, partB, in_loop, lpB]
    | true =>
      cases q2 : RB n b with
      | false =>
        rw [q2] at e5
        cases q3 : isTup b <;> simp (config := {decide := true}) [b_law_is_line, defP, startE, seqM, setM, parM, ifM, ifE, retM, nxM, Mi.bin, Mi.orM, Mi.andM, Mi.notM, truM, andV, lstM, tupM, plains, blOf, eVar, eC, Out.seq, argsM, callB, callP, Res.bind_ok, Res.out_ok, optR_ok, isi_tup _ pa, isi_str, pl, isTup, isStr, tru_bl, ix0, ix1, eq_str, e0, in_str2, in_str5, len_tup, eq_int, ne_int, exitP, bD, lnB, stB, t_FORMS, List.lookup, beq_str, v_law_is_from a ha, q, q2, q3, ix2, add_int, e5, partB, in_loop, lpB]
      | true =>
        rw [q2] at e5
        have e7 := e6 q2
        have e8 := hu b q2
        simp (config := {decide := true}) [b_law_is_line, defP, startE, seqM, setM, parM, ifM, ifE, retM, nxM, Mi.bin, Mi.orM, Mi.andM, Mi.notM, truM, andV, lstM, tupM, plains, blOf, eVar, eC, Out.seq, argsM, callB, callP, Res.bind_ok, Res.out_ok, optR_ok, isi_tup _ pa, isi_str, pl, isTup, isStr, tru_bl, ix0, ix1, eq_str, e0, in_str2, in_str5, len_tup, eq_int, ne_int, exitP, bD, lnB, stB, t_FORMS, List.lookup, beq_str, v_law_is_from a ha, q, q2, ix2, add_int, gt_int, pr1, e5, e7, e8, partB, in_loop, lpB]
        exact fun _ => e8
  · have e4 : ¬ ((r.length : Int) + 1 = 3) := by omega
    simp (config := {decide := true}) [b_law_is_line, defP, startE, seqM, setM, parM, ifM, ifE, retM, nxM, Mi.bin, Mi.orM, Mi.andM, Mi.notM, truM, andV, lstM, tupM, plains, blOf, eVar, eC, Out.seq, argsM, callB, callP, Res.bind_ok, Res.out_ok, optR_ok, isi_tup _ pa, isi_str, pl, isTup, isStr, tru_bl, ix0, ix1, eq_str, e0, in_str2, in_str5, len_tup, eq_int, ne_int, exitP, bD, lnB, stB, t_FORMS, List.lookup, beq_str, e, e4]
theorem v_line_either (r : List T) (hm : m ≤ 60) (h : gd m (.tup (.str "either" :: r)) = true) (hR : ∀ b ∈ r, R [b, .int (d + 1)] = .ok (.bl (RB n b))) (ht : ∀ b ∈ r, RB n b = true → g_law_ticks 6 [b] = .ok (pr (tkB n b))) (hu : ∀ b, RB n b = true → isTup b = true) : defP 4 (b_law_is_line L R) [.tup (.str "either" :: r), .int d] = .ok (.bl (lnB n (.tup (.str "either" :: r)))) := by
  obtain ⟨m', rfl, hl, hg⟩ := gd_tup.mp h
  have e0 := fun s => eq_unit (n := m') (by omega) hg s
  have pa := gd_pl h
  by_cases e : r.length = 2
  · obtain ⟨a, b, rfl⟩ := len2 e
    have e5 := hR a (by simp)
    have e6 := hR b (by simp)
    have e8 := hu a
    have e9 := hu b
    cases q2 : RB n a with
    | false =>
      rw [q2] at e5
      cases q3 : isTup a <;> cases q4 : isTup b <;> simp (config := {decide := true}) [b_law_is_line, defP, startE, seqM, setM, parM, ifM, ifE, retM, nxM, Mi.bin, Mi.orM, Mi.andM, Mi.notM, truM, andV, lstM, tupM, plains, blOf, eVar, eC, Out.seq, argsM, callB, callP, Res.bind_ok, Res.out_ok, optR_ok, isi_tup _ pa, isi_str, pl, isTup, isStr, tru_bl, ix0, ix1, eq_str, e0, in_str2, in_str5, len_tup, eq_int, ne_int, exitP, bD, lnB, stB, t_FORMS, List.lookup, beq_str, neg_int, un, ixm2_3, ixm1_3, q2, q3, q4, add_int, e5, partB, in_either, lpB]
    | true =>
      rw [q2] at e5
      have e10 := e8 q2
      cases q3 : RB n b with
      | false =>
        rw [q3] at e6
        cases q4 : isTup b <;> simp (config := {decide := true}) [b_law_is_line, defP, startE, seqM, setM, parM, ifM, ifE, retM, nxM, Mi.bin, Mi.orM, Mi.andM, Mi.notM, truM, andV, lstM, tupM, plains, blOf, eVar, eC, Out.seq, argsM, callB, callP, Res.bind_ok, Res.out_ok, optR_ok, isi_tup _ pa, isi_str, pl, isTup, isStr, tru_bl, ix0, ix1, eq_str, e0, in_str2, in_str5, len_tup, eq_int, ne_int, exitP, bD, lnB, stB, t_FORMS, List.lookup, beq_str, neg_int, un, ixm2_3, ixm1_3, q2, q3, q4, e10, add_int, e5, e6, partB, in_either, lpB]
      | true =>
        rw [q3] at e6
        have e11 := e9 q3
        simp (config := {decide := true}) [b_law_is_line, defP, startE, seqM, setM, parM, ifM, ifE, retM, nxM, Mi.bin, Mi.orM, Mi.andM, Mi.notM, truM, andV, lstM, tupM, plains, blOf, eVar, eC, Out.seq, argsM, callB, callP, Res.bind_ok, Res.out_ok, optR_ok, isi_tup _ pa, isi_str, pl, isTup, isStr, tru_bl, ix0, ix1, eq_str, e0, in_str2, in_str5, len_tup, eq_int, ne_int, exitP, bD, lnB, stB, t_FORMS, List.lookup, beq_str, neg_int, un, ixm2_3, ixm1_3, q2, q3, e10, e11, add_int, e5, e6, partB, in_either, lpB]
        exact ⟨e10, e11⟩
  · have e4 : ¬ ((r.length : Int) + 1 = 3) := by omega
    simp (config := {decide := true}) [b_law_is_line, defP, startE, seqM, setM, parM, ifM, ifE, retM, nxM, Mi.bin, Mi.orM, Mi.andM, Mi.notM, truM, andV, lstM, tupM, plains, blOf, eVar, eC, Out.seq, argsM, callB, callP, Res.bind_ok, Res.out_ok, optR_ok, isi_tup _ pa, isi_str, pl, isTup, isStr, tru_bl, ix0, ix1, eq_str, e0, in_str2, in_str5, len_tup, eq_int, ne_int, exitP, bD, lnB, stB, t_FORMS, List.lookup, beq_str, e, e4]
theorem v_line_when (r : List T) (hm : m ≤ 60) (h : gd m (.tup (.str "when" :: r)) = true) (hR : ∀ b ∈ r, R [b, .int (d + 1)] = .ok (.bl (RB n b))) (ht : ∀ b ∈ r, RB n b = true → g_law_ticks 6 [b] = .ok (pr (tkB n b))) (hu : ∀ b, RB n b = true → isTup b = true) : defP 4 (b_law_is_line L R) [.tup (.str "when" :: r), .int d] = .ok (.bl (lnB n (.tup (.str "when" :: r)))) := by
  obtain ⟨m', rfl, hl, hg⟩ := gd_tup.mp h
  have e0 := fun s => eq_unit (n := m') (by omega) hg s
  have pa := gd_pl h
  by_cases e : r.length = 3
  · obtain ⟨c, a, b, rfl⟩ := len3 e
    have hc := v_law_is_name c m' (by omega) (hg c (by simp))
    have e5 := hR a (by simp)
    have e6 := hR b (by simp)
    have e8 := hu a
    have e9 := hu b
    cases qn : nmB c with
    | false => simp (config := {decide := true}) [b_law_is_line, defP, startE, seqM, setM, parM, ifM, ifE, retM, nxM, Mi.bin, Mi.orM, Mi.andM, Mi.notM, truM, andV, lstM, tupM, plains, blOf, eVar, eC, Out.seq, argsM, callB, callP, Res.bind_ok, Res.out_ok, optR_ok, isi_tup _ pa, isi_str, pl, isTup, isStr, tru_bl, ix0, ix1, eq_str, e0, in_str2, in_str5, len_tup, eq_int, ne_int, exitP, bD, lnB, stB, t_FORMS, List.lookup, beq_str, neg_int, un, ixm2_4, ixm1_4, hc, qn, partB, in_when, lpB]
    | true =>
      cases q2 : RB n a with
      | false =>
        rw [q2] at e5
        cases q3 : isTup a <;> cases q4 : isTup b <;> simp (config := {decide := true}) [b_law_is_line, defP, startE, seqM, setM, parM, ifM, ifE, retM, nxM, Mi.bin, Mi.orM, Mi.andM, Mi.notM, truM, andV, lstM, tupM, plains, blOf, eVar, eC, Out.seq, argsM, callB, callP, Res.bind_ok, Res.out_ok, optR_ok, isi_tup _ pa, isi_str, pl, isTup, isStr, tru_bl, ix0, ix1, eq_str, e0, in_str2, in_str5, len_tup, eq_int, ne_int, exitP, bD, lnB, stB, t_FORMS, List.lookup, beq_str, neg_int, un, ixm2_4, ixm1_4, hc, qn, q2, q3, q4, add_int, e5, partB, in_when, lpB]
      | true =>
        rw [q2] at e5
        have e10 := e8 q2
        cases q3 : RB n b with
        | false =>
          rw [q3] at e6
          cases q4 : isTup b <;> simp (config := {decide := true}) [b_law_is_line, defP, startE, seqM, setM, parM, ifM, ifE, retM, nxM, Mi.bin, Mi.orM, Mi.andM, Mi.notM, truM, andV, lstM, tupM, plains, blOf, eVar, eC, Out.seq, argsM, callB, callP, Res.bind_ok, Res.out_ok, optR_ok, isi_tup _ pa, isi_str, pl, isTup, isStr, tru_bl, ix0, ix1, eq_str, e0, in_str2, in_str5, len_tup, eq_int, ne_int, exitP, bD, lnB, stB, t_FORMS, List.lookup, beq_str, neg_int, un, ixm2_4, ixm1_4, hc, qn, q2, q3, q4, e10, add_int, e5, e6, partB, in_when, lpB]
        | true =>
          rw [q3] at e6
          have e11 := e9 q3
          simp (config := {decide := true}) [b_law_is_line, defP, startE, seqM, setM, parM, ifM, ifE, retM, nxM, Mi.bin, Mi.orM, Mi.andM, Mi.notM, truM, andV, lstM, tupM, plains, blOf, eVar, eC, Out.seq, argsM, callB, callP, Res.bind_ok, Res.out_ok, optR_ok, isi_tup _ pa, isi_str, pl, isTup, isStr, tru_bl, ix0, ix1, eq_str, e0, in_str2, in_str5, len_tup, eq_int, ne_int, exitP, bD, lnB, stB, t_FORMS, List.lookup, beq_str, neg_int, un, ixm2_4, ixm1_4, hc, qn, q2, q3, e10, e11, add_int, e5, e6, partB, in_when, lpB]
          exact ⟨e10, e11⟩
  · have e4 : ¬ ((r.length : Int) + 1 = 4) := by omega
    simp (config := {decide := true}) [b_law_is_line, defP, startE, seqM, setM, parM, ifM, ifE, retM, nxM, Mi.bin, Mi.orM, Mi.andM, Mi.notM, truM, andV, lstM, tupM, plains, blOf, eVar, eC, Out.seq, argsM, callB, callP, Res.bind_ok, Res.out_ok, optR_ok, isi_tup _ pa, isi_str, pl, isTup, isStr, tru_bl, ix0, ix1, eq_str, e0, in_str2, in_str5, len_tup, eq_int, ne_int, exitP, bD, lnB, stB, t_FORMS, List.lookup, beq_str, e, e4]
theorem v_line_other (w : Str) (r : List T) (hm : m ≤ 60) (h : gd m (.tup (.str w :: r)) = true) (n0 : ¬ w = "run") (n1 : ¬ w = "either") (n2 : ¬ w = "when") (n3 : ¬ w = "loop") (n4 : ¬ w = "mask") (n5 : ¬ w = "unmask") (n6 : ¬ w = "answer") (n7 : ¬ w = "raise") (n8 : ¬ w = "arm") (n9 : ¬ w = "post") (n10 : ¬ w = "add") (n11 : ¬ w = "take") : defP 4 (b_law_is_line L R) [.tup (.str w :: r), .int d] = .ok (.bl (lnB n (.tup (.str w :: r)))) := by
  obtain ⟨m', rfl, hl, hg⟩ := gd_tup.mp h
  have e0 := fun s => eq_unit (n := m') (by omega) hg s
  have pa := gd_pl h
  have pw := gd_pl (hg (.str w) (by simp))
  simp (config := {decide := true}) [b_law_is_line, defP, startE, seqM, setM, parM, ifM, ifE, retM, nxM, Mi.bin, Mi.orM, Mi.andM, Mi.notM, truM, andV, lstM, tupM, plains, blOf, eVar, eC, Out.seq, argsM, callB, callP, Res.bind_ok, Res.out_ok, optR_ok, isi_tup _ pa, isi_str, pl, isTup, isStr, tru_bl, ix0, ix1, eq_str, e0, in_str2, in_str5, len_tup, eq_int, ne_int, exitP, bD, lnB, stB, t_FORMS, List.lookup, beq_str, isi_str _ pw, n0, n1, n2, n3, n4, n5, n6, n7, n8, n9, n10, n11]
end
end K02
/-! k2Q10 -/
namespace K02
open Mi PySem
theorem RB_tup {n : Nat} {v : T} (h : RB n v = true) : ∃ m ts, n = m + 1 ∧ v = .tup ts ∧ ∀ x ∈ ts, lnB m x = true := by
  cases n with
  | zero => cases h
  | succ m =>
    cases v with
    | tup ts => exact ⟨m, ts, rfl, rfl, List.all_eq_true.mp h⟩
    | _ => cases h
theorem RB_isTup {n : Nat} {v : T} (h : RB n v = true) : isTup v = true := by
  obtain ⟨m, ts, _, rfl, _⟩ := RB_tup h
  rfl
theorem lnB_parts {n : Nat} {x : T} (h : lnB n x = true) : stB x = true ∧ (∀ b ∈ innerS x, RB n b = true) ∧ lpB n x = true := by
  unfold lnB at h
  rw [Bool.and_eq_true, Bool.and_eq_true] at h
  exact ⟨h.1.1, List.all_eq_true.mp h.1.2, h.2⟩
theorem RB_PB : ∀ (n : Nat) (v : T), RB n v = true → PB n v = true
  | 0, v, h => by cases h
  | n + 1, v, h => by
    obtain ⟨m, ts, e, rfl, hs⟩ := RB_tup h
    cases e
    show (ts.all fun x => stB x && (innerS x).all (PB n)) = true
    refine List.all_eq_true.mpr fun x hx => ?_
    obtain ⟨a, b, _⟩ := lnB_parts (hs x hx)
    rw [Bool.and_eq_true]
    exact ⟨a, List.all_eq_true.mpr fun z hz => RB_PB n z (b z hz)⟩
theorem v_line {L R : List T → Rp} {n m : Nat} {d : Int} (x : T) (hm : m ≤ 60) (h : gd m x = true) (hR : ∀ b k, k ≤ m → gd k b = true → R [b, .int (d + 1)] = .ok (.bl (RB n b))) (hn : n ≤ 6) :
    defP 4 (b_law_is_line L R) [x, .int d] = .ok (.bl (lnB n x)) := by
  have ht : ∀ b, RB n b = true → g_law_ticks 6 [b] = .ok (pr (tkB n b)) := fun b hb => by
    have := v_lticks n b (6 - n) (RB_PB n b hb)
    rwa [show n + (6 - n) = 6 by omega] at this
  cases x with
  | tup l =>
    obtain ⟨m', rfl, hl, hg⟩ := gd_tup.mp h
    cases l with
    | nil => rfl
    | cons a r =>
      have ha := hg a List.mem_cons_self
      have hR' : ∀ b ∈ r, R [b, .int (d + 1)] = .ok (.bl (RB n b)) := fun b hb => hR b m' (by omega) (hg b (List.mem_cons_of_mem _ hb))
      have ht' : ∀ b ∈ r, RB n b = true → g_law_ticks 6 [b] = .ok (pr (tkB n b)) := fun b _ => ht b
      have hu : ∀ b, RB n b = true → isTup b = true := fun b => RB_isTup
      cases a with
      | str w =>
        by_cases n0 : w = "run"
        · subst n0; exact v_line_run r hm h
        by_cases n1 : w = "either"
        · subst n1; exact v_line_either r hm h hR' ht' hu
        by_cases n2 : w = "when"
        · subst n2; exact v_line_when r hm h hR' ht' hu
        by_cases n3 : w = "loop"
        · subst n3; exact v_line_loop r hm h hR' ht' hu
        by_cases n4 : w = "mask"
        · subst n4; exact v_line_mask r hm h
        by_cases n5 : w = "unmask"
        · subst n5; exact v_line_unmask r hm h
        by_cases n6 : w = "answer"
        · subst n6; exact v_line_answer r hm h
        by_cases n7 : w = "raise"
        · subst n7; exact v_line_raise r hm h
        by_cases n8 : w = "arm"
        · subst n8; exact v_line_arm r hm h
        by_cases n9 : w = "post"
        · subst n9; exact v_line_post r hm h
        by_cases n10 : w = "add"
        · subst n10; exact v_line_add r hm h
        by_cases n11 : w = "take"
        · subst n11; exact v_line_take r hm h
        exact v_line_other w r hm h n0 n1 n2 n3 n4 n5 n6 n7 n8 n9 n10 n11
      | glb _ => cases m' <;> cases ha
      | ty _ => cases m' <;> cases ha
      | scr _ => cases m' <;> cases ha
      | _ =>
        have e0 := fun s => eq_unit (n := m') (by omega) hg s
        have pa := gd_pl h
        have pw := gd_pl ha
        simp (config := {decide := true}) [b_law_is_line, defP, startE, seqM, ifM, retM, nxM, Mi.bin, Mi.orM, Mi.notM, truM, tupM, plains, blOf, eVar, eC, Out.seq, argsM, callB, Res.bind_ok, Res.out_ok, optR_ok, isi_tup _ pa, isi_str _ pw, isTup, isStr, tru_bl, ix0, e0, exitP, bD, lnB, stB]
  | glb _ => cases m <;> cases h
  | ty _ => cases m <;> cases h
  | scr _ => cases m <;> cases h
  | _ =>
    have pa := gd_pl h
    simp (config := {decide := true}) [b_law_is_line, defP, startE, seqM, ifM, retM, nxM, Mi.bin, Mi.orM, Mi.notM, truM, tupM, plains, blOf, eVar, eC, Out.seq, argsM, callB, Res.bind_ok, Res.out_ok, optR_ok, isi_tup _ pa, isTup, isStr, tru_bl, exitP, bD, lnB, stB]
theorem c_lr {L R : List T → Rp} {n m : Nat} {ts : List T} {d : Int} (hl : ts.length ≤ 1000) (h : ∀ x ∈ ts, L [x, .int d] = .ok (.bl (lnB n x))) :
    c_law_right_1 L R [some (.t (.tup ts)), some (.t (.int d)), none] [] = .ok (.t (.lst (ts.filter fun x => !lnB n x))) [] := by
  have e := lcM_T (us := [2]) (fi := anyOf (eVar 0)) (ga := gN 2) (gt := Mi.notM (truM (callP L [eVar 2, eVar 1]))) (fe := eVar 2) (env := [some (.t (.tup ts)), some (.t (.int d)), none]) (st := []) (p := fun x => !lnB n x) (g := id) (any_tup rfl) (nth_tup ts _) rfl (Nat.le_trans hl (Nat.le_of_ble_eq_true rfl)) fun x hx => by
    refine ⟨_, rfl, ?_, fun _ => rfl⟩
    have e1 : callP L [eVar 2, eVar 1] [some (.t (.tup ts)), some (.t (.int d)), some (.t x)] [] = .ok (.t (.bl (lnB n x))) [] := callP2 rfl rfl (h x hx)
    show (Mi.notM (truM (callP L [eVar 2, eVar 1]))) [some (.t (.tup ts)), some (.t (.int d)), some (.t x)] [] = _
    simp [Mi.notM, truM, e1, Res.bind_ok, tru_bl, optR_ok]
  rw [List.map_id] at e
  exact e
theorem filt_all (f : T → Bool) (ts : List T) : (ts.filter fun x => !f x).isEmpty = ts.all f := by
  induction ts with
  | nil => rfl
  | cons a r ih =>
    rw [List.filter_cons, List.all_cons, ← ih]
    cases f a <;> rfl
theorem v_right : ∀ (n m : Nat) (v : T) (k : Nat), n ≤ 5 → m ≤ 60 → gd m v = true → (g_law_is_line (2 * n + 1 + k)).2 [v, .int (5 - (n : Int))] = .ok (.bl (RB n v))
  | 0, m, v, k, hn, hm, h => by
    have pa := gd_pl h
    rw [show 2 * 0 + 1 + k = k + 1 by omega]
    show defP 3 (b_law_right _ _) [v, .int 5] = _
    cases q : isTup v <;> simp (config := {decide := true}) [b_law_right, defP, startE, retM, andV, callB, argsM, eVar, eC, Mi.bin, Res.bind_ok, Res.out_ok, optR_ok, isi_tup _ pa, tru_bl, le_int, q, exitP, RB]
  | n + 1, m, v, k, hn, hm, h => by
    have pa := gd_pl h
    rw [show 2 * (n + 1) + 1 + k = (2 * n + 1 + k) + 1 + 1 by omega]
    show defP 3 (b_law_right (defP 4 (b_law_is_line (g_law_is_line (2 * n + 1 + k)).1 (g_law_is_line (2 * n + 1 + k)).2)) (g_law_is_line (2 * n + 1 + k + 1)).2) [v, .int (5 - ((n + 1 : Nat) : Int))] = _
    have hd4 : (5 - ((n + 1 : Nat) : Int)) ≤ 4 := by omega
    have hd1 : (5 - ((n + 1 : Nat) : Int)) + 1 = 5 - (n : Int) := by omega
    generalize (5 - ((n + 1 : Nat) : Int)) = d at hd4 hd1 ⊢
    have hd : decide (d ≤ 4) = true := decide_eq_true hd4
    cases v with
    | tup ts =>
      obtain ⟨m', rfl, hl, hg⟩ := gd_tup.mp h
      have e1 := c_lr (L := defP 4 (b_law_is_line (g_law_is_line (2 * n + 1 + k)).1 (g_law_is_line (2 * n + 1 + k)).2)) (R := (g_law_is_line (2 * n + 1 + k + 1)).2) (n := n) (m := m') (ts := ts) (d := d) hl fun x hx => v_line x (by omega) (hg x hx) (fun b j hj hb => by
        rw [hd1]
        exact v_right n j b k (by omega) (by omega) hb) (by omega)
      have e2 := fun s => eq_nil (n := m') (by omega) (ts := ts.filter fun x => !lnB n x) (fun t ht => hg t (List.mem_filter.mp ht).1) s
      simp only [filt_all] at e2
      simp (config := {decide := true}) [b_law_right, defP, startE, retM, andV, callB, argsM, eVar, eC, Mi.bin, lstM, plains, Res.bind_ok, Res.out_ok, optR_ok, isi_tup _ pa, isTup, tru_bl, le_int, hd4, e1, e2, exitP, RB]
      rfl
    | glb _ => cases m <;> cases h
    | ty _ => cases m <;> cases h
    | scr _ => cases m <;> cases h
    | _ => simp (config := {decide := true}) [b_law_right, defP, startE, retM, andV, callB, argsM, eVar, eC, Mi.bin, Res.bind_ok, Res.out_ok, optR_ok, isi_tup _ pa, isTup, tru_bl, exitP, RB]
end K02
/-! k2Q11 -/
namespace K02
open Mi PySem
/-! ### all statements, as the law counts them -/
def allL (A : T → List T) : List T → List T
  | [] => []
  | x :: r => (x :: (innerS x).flatMap A) ++ allL A r
def allS : Nat → T → List T
  | 0, _ => []
  | n + 1, .tup ts => allL (allS n) ts
  | _ + 1, _ => []
theorem fm_le {A : T → List T} {b : T} : ∀ {l : List T}, b ∈ l → (A b).length ≤ (l.flatMap A).length
  | a :: r, h => by
    rw [List.flatMap_cons, List.length_append]
    (rcases List.mem_cons.mp h with e | e)
    · rw [e]; omega
    · have := fm_le (A := A) e
      omega
theorem callP1 {R : List T → Rp} {fa : Mi.Env → Sto → Res D} {env : Mi.Env} {s : Sto} {a : T} {t : T} (ha : fa env s = .ok (.t a) s) (h : R [a] = .ok t) : callP R [fa] env s = .ok (.t t) s := by
  simp [callP, argsM, ha, Res.bind_ok, plains, h]
theorem addN_rt {F G : List T} {k : Nat} {st : Sto} (h : st[k]? = some (.lst (F.map .t))) (hl : F.length + G.length ≤ LIM) : addN (.r k) (.t (.lst G)) st = some (.r st.length, st ++ [.lst ((F ++ G).map .t)]) := by
  have e1 : litems st (.r k) = some (F.map .t) := by
    show (match st[k]? with
      | some (.lst ds) => some ds
      | none => none) = _
    rw [h]
  unfold addN
  rw [e1]
  show (if (F.map D.t).length + (G.map D.t).length ≤ LIM then some (D.r st.length, st ++ [SO.lst (F.map D.t ++ G.map D.t)]) else none) = _
  rw [List.length_map, List.length_map, if_pos hl, List.map_append]
theorem l_la1 {R : List T → Rp} {A : T → List T} {v x2 : Option D} : ∀ (bs F : List T) (k : Nat) (st : Sto) (x3 : Option D), st[k]? = some (.lst (F.map .t)) → (∀ b ∈ bs, R [b] = .ok (.lst (A b))) → F.length + (bs.flatMap A).length ≤ LIM →
    ∃ k' st' y3, forL (gN 3) (setM 1 (binN addN (eVar 1) (callP R [eVar 3]))) (bs.map .t) [v, some (.r k), x2, x3] st = .nx [v, some (.r k'), x2, y3] st' ∧ st'[k']? = some (.lst ((F ++ bs.flatMap A).map .t))
  | [], F, k, st, x3, h, _, _ => ⟨k, st, x3, rfl, by simpa using h⟩
  | b :: r, F, k, st, x3, h, hR, hl => by
    rw [List.flatMap_cons, List.length_append] at hl
    have e1 : callP R [eVar 3] [v, some (.r k), x2, some (.t b)] st = .ok (.t (.lst (A b))) st := callP1 rfl (hR b List.mem_cons_self)
    have e2 := addN_rt (G := A b) h (by omega)
    have e3 : (st ++ [SO.lst ((F ++ A b).map .t)])[st.length]? = some (.lst ((F ++ A b).map .t)) := by
      rw [List.getElem?_append_right (Nat.le_refl _), Nat.sub_self]; rfl
    obtain ⟨k', st', y3, e4, e5⟩ := l_la1 (R := R) (A := A) (v := v) (x2 := x2) r (F ++ A b) st.length _ (some (.t b)) e3 (fun z hz => hR z (List.mem_cons_of_mem _ hz)) (by rw [List.length_append]; omega)
    refine ⟨k', st', y3, ?_, ?_⟩
    · rw [List.map_cons, forL]
      have e6 : setM 1 (binN addN (eVar 1) (callP R [eVar 3])) [v, some (.r k), x2, some (.t b)] st = .nx [v, some (.r st.length), x2, some (.t b)] (st ++ [.lst ((F ++ A b).map .t)]) := by
        unfold setM binN
        show (Res.bind (.ok (D.r k) st) fun x st1 => (callP R [eVar 3] [v, some (.r k), x2, some (.t b)] st1).bind fun y st2 => optS (addN x y st2)).out _ _ = _
        rw [Res.bind_ok, e1, Res.bind_ok, e2]
        rfl
      show (match setM 1 (binN addN (eVar 1) (callP R [eVar 3])) [v, some (.r k), x2, some (.t b)] st with
        | .nx e s => forL _ _ (r.map .t) e s
        | .ct e s => forL _ _ (r.map .t) e s
        | .bk e s => .nx e s
        | .rt d s => .rt d s
        | .exc C fs e s => .exc C fs e s
        | .bad => .bad) = _
      rw [e6]
      exact e4
    · rw [e5, List.flatMap_cons, List.append_assoc]
theorem app_r {F : List T} {k : Nat} {st : Sto} {x : T} (h : st[k]? = some (.lst (F.map .t))) (hl : F.length < LIM) : ∃ st', appG (.r k) [.t x] st = some (.t .non, st') ∧ st'[k]? = some (.lst ((F ++ [x]).map .t)) ∧ tyOk "list" st (.r k) = true ∧ ∀ j, j ≠ k → st'[j]? = st[j]? := by
  refine ⟨st.set k (.lst (F.map .t ++ [.t x])), ?_, ?_, ?_, fun j hj => List.getElem?_set_ne (fun z => hj z.symm)⟩
  · show (match st[k]? with
      | some (SO.lst xs) => if xs.length < LIM then some (D.t .non, st.set k (SO.lst (xs ++ [D.t x]))) else none
      | _ => none) = _
    rw [h]
    show (if (F.map D.t).length < LIM then _ else _) = _
    rw [List.length_map, if_pos hl]
  · have hk : k < st.length := (List.getElem?_eq_some_iff.mp h).1
    rw [List.getElem?_set_self hk, List.map_append]
    rfl
  · show (decide ("list" = "list") && (items st (.r k)).isSome) = true
    have e : items st (.r k) = some (F.map .t) := by
      show (match st[k]? with
        | some (.lst ds) => some ds
        | none => none) = _
      rw [h]
    rw [e]
    rfl
theorem l_la2 {R : List T → Rp} {A : T → List T} {v : D} : ∀ (ts F : List T) (k : Nat) (st : Sto) (x2 x3 : Option D), st[k]? = some (.lst (F.map .t)) → (∀ x ∈ ts, St x ∧ ∀ b ∈ innerS x, R [b] = .ok (.lst (A b))) → F.length + (allL A ts).length ≤ LIM →
    ∃ k' st' y2 y3, forL (gN 2) (seqM (dropM (methM "list" appG (eVar 1) [eVar 2])) (l_law_all_1 R)) (ts.map .t) [some v, some (.r k), x2, x3] st = .nx [some v, some (.r k'), y2, y3] st' ∧ st'[k']? = some (.lst ((F ++ allL A ts).map .t))
  | [], F, k, st, x2, x3, h, _, _ => ⟨k, st, x2, x3, rfl, by simpa [allL] using h⟩
  | x :: r, F, k, st, x2, x3, h, hR, hl => by
    rw [allL, List.length_append, List.length_cons] at hl
    obtain ⟨hs, hb⟩ := hR x List.mem_cons_self
    obtain ⟨st1, a1, a2, a3, _⟩ := app_r (x := x) h (by omega)
    obtain ⟨k2, st2, z3, b1, b2⟩ := l_la1 (R := R) (A := A) (v := some v) (x2 := some (.t x)) (innerS x) (F ++ [x]) k st1 x3 a2 hb (by rw [List.length_append, List.length_singleton]; omega)
    obtain ⟨k', st', y2, y3, e4, e5⟩ := l_la2 (R := R) (A := A) (v := v) r ((F ++ [x]) ++ (innerS x).flatMap A) k2 st2 (some (.t x)) z3 b2 (fun z hz => hR z (List.mem_cons_of_mem _ hz)) (by rw [List.length_append, List.length_append, List.length_singleton]; omega)
    refine ⟨k', st', y2, y3, ?_, ?_⟩
    · rw [List.map_cons, forL]
      have e6 : (seqM (dropM (methM "list" appG (eVar 1) [eVar 2])) (l_law_all_1 R)) [some v, some (.r k), some (.t x), x3] st = .nx [some v, some (.r k2), some (.t x), z3] st2 := by
        have c1 : dropM (methM "list" appG (eVar 1) [eVar 2]) [some v, some (.r k), some (.t x), x3] st = .nx [some v, some (.r k), some (.t x), x3] st1 := by
          unfold dropM methM
          show (Res.bind (.ok (D.r k) st) _).out _ _ = _
          rw [Res.bind_ok, a3]
          show (Res.bind (.ok [D.t x] st) fun ds st2 => optS (appG (D.r k) ds st2)).out _ _ = _
          rw [Res.bind_ok, a1]
          rfl
        unfold seqM
        rw [c1]
        show l_law_all_1 R [some v, some (.r k), some (.t x), x3] st1 = _
        exact (forM_eq (it := seqIt (.t (.lst (innerS x))) (innerS x).length) (any_lst (callP1 rfl (v_law_inner hs))) (nth_lst _ _) (by rw [List.length_map]; exact Nat.le_refl _)).trans b1
      show (match (seqM (dropM (methM "list" appG (eVar 1) [eVar 2])) (l_law_all_1 R)) [some v, some (.r k), some (.t x), x3] st with
        | .nx e s => forL _ _ (r.map .t) e s
        | .ct e s => forL _ _ (r.map .t) e s
        | .bk e s => .nx e s
        | .rt d s => .rt d s
        | .exc C fs e s => .exc C fs e s
        | .bad => .bad) = _
      rw [e6]
      exact e4
    · rw [e5, allL]
      congr 2
      simp
theorem v_lall : ∀ (n : Nat) (v : T) (k : Nat), PB n v = true → (allS n v).length ≤ LIM → g_law_all (n + k) [v] = .ok (.lst (allS n v))
  | 0, v, k, h, _ => by cases h
  | n + 1, v, k, h, hl => by
    obtain ⟨ts, rfl, hs⟩ := PB_tup h
    rw [show n + 1 + k = (n + k) + 1 by omega]
    have hl : (allL (allS n) ts).length ≤ LIM := hl
    have sub : ∀ (ts : List T), (allL (allS n) ts).length ≤ LIM → ∀ x ∈ ts, ∀ b ∈ innerS x, (allS n b).length ≤ LIM := fun ts => by
      induction ts with
      | nil => intro _ x hx; cases hx
      | cons y r ih =>
        intro hl x hx b hb
        rw [allL, List.length_append, List.length_cons] at hl
        rcases List.mem_cons.mp hx with e | e
        · subst e
          have : (allS n b).length ≤ ((innerS x).flatMap (allS n)).length := by
            exact fm_le hb
          omega
        · exact ih (by omega) x e b hb
    show defP 4 (b_law_all (g_law_all (n + k))) [.tup ts] = .ok (.lst (allL (allS n) ts))
    obtain ⟨k', st', y2, y3, e, e5⟩ := l_la2 (R := g_law_all (n + k)) (A := allS n) (v := .t (.tup ts)) ts [] 0 [.lst []] none none rfl (fun x hx => ⟨st_of (hs x hx).1, fun b hb => v_lall n b k ((hs x hx).2 b hb) (sub ts hl x hx b hb)⟩) (by rw [List.length_nil]; omega)
    have e2 : l_law_all_2 (g_law_all (n + k)) [some (.t (.tup ts)), some (.r 0), none, none] [.lst []] = _ := (forM_eq (any_tup rfl) (nth_tup ts _) (by rw [List.length_map]; exact Nat.le_refl _)).trans e
    unfold defP b_law_all seqM
    show exitP (((l_law_all_2 (g_law_all (n + k)) [some (.t (.tup ts)), some (.r 0), none, none] [.lst []]).seq (retM (eVar 1)))) = _
    rw [e2]
    show exitP (.rt (.r k') st') = _
    show (match st'[k']? with
      | some (.lst ds) => (match plains ds with
        | some ts => Rp.ok (.lst ts)
        | none => .bad)
      | _ => .bad) = _
    rw [e5]
    simp [plains_map]
end K02
/-! k2Q12 -/
namespace K02
open Mi PySem
/-! ### all statements, as the program collects them -/
def enc (p : T × Nat) : T := .tup [p.1, .int p.2]
abbrev st2 (F : List T) (W : List (T × Nat)) : Sto := [.lst (F.map .t), .lst ((W.map enc).map .t)]
theorem c_as1 {x : T} (v x4 x6 : Option D) (l : Nat) (st : Sto) (h : St x) : c_all_statements_1 [v, some (.r 0), some (.r 1), some (.t x), x4, some (.t (.int l)), x6] st = .ok (.t (.lst (((innerS x).map fun b => (b, l + 1)).map enc))) st := by
  have e := lcM_all (us := [6]) (fi := anyOf (callP m_inner_bodies [eVar 3])) (ga := gN 6) (fe := tupM [eVar 6, Mi.bin addM (eVar 5) (eC (.int 1))]) (env := [v, some (.r 0), some (.r 1), some (.t x), x4, some (.t (.int l)), x6]) (st := st) (s := st) (it := seqIt (.t (.lst (innerS x))) (innerS x).length) (ts := innerS x) (g := fun b => enc (b, l + 1))
    (any_lst (callP1 rfl (st_inner h))) (nth_lst _ _) rfl (Nat.le_trans (in_len h) (Nat.le_of_ble_eq_true rfl)) fun b hb => ⟨_, rfl, rfl⟩
  rw [List.map_map]
  exact e
def bd_as : Mi.Env → Sto → Out := seqM (ifM (Mi.notM (truM (callP m_is_statement [eVar 3]))) (retM (eC (.non))) (nxM))
    (seqM (dropM (methM "list" appG (eVar 1) [eVar 3])) (dropM (methM "list" extG (eVar 2) [c_all_statements_1])))
theorem v_as_no {x : T} {m : Nat} (v x4 x6 : Option D) (l : Nat) (st : Sto) (hg : gd m x = true) (h : stB x = false) : bd_as [v, some (.r 0), some (.r 1), some (.t x), x4, some (.t (.int l)), x6] st = .rt (.t .non) st := by
  have e1 : callP m_is_statement [eVar 3] [v, some (.r 0), some (.r 1), some (.t x), x4, some (.t (.int l)), x6] st = .ok (.t (.bl false)) st := callP1 rfl (h ▸ v_is_statement x m hg)
  simp [bd_as, seqM, ifM, retM, Mi.notM, truM, e1, Res.bind_ok, Res.out_ok, optR_ok, tru_bl, eC, Out.seq]
theorem v_as_yes {x : T} {m : Nat} (v x4 x6 : Option D) (l : Nat) (F : List T) (W : List (T × Nat)) (hg : gd m x = true) (h : stB x = true) (hF : F.length ≤ 1000) (hW : W.length ≤ 1000) :
    bd_as [v, some (.r 0), some (.r 1), some (.t x), x4, some (.t (.int l)), x6] (st2 F W) = .nx [v, some (.r 0), some (.r 1), some (.t x), x4, some (.t (.int l)), x6] (st2 (F ++ [x]) (W ++ (innerS x).map fun b => (b, l + 1))) := by
  have e1 : callP m_is_statement [eVar 3] [v, some (.r 0), some (.r 1), some (.t x), x4, some (.t (.int l)), x6] (st2 F W) = .ok (.t (.bl true)) (st2 F W) := callP1 rfl (h ▸ v_is_statement x m hg)
  have lim : (2000 : Nat) < LIM := Nat.lt_of_lt_of_le (by decide) (Nat.le_of_ble_eq_true (n := 2001) rfl)
  have e2 : appG (.r 0) [.t x] (st2 F W) = some (.t .non, st2 (F ++ [x]) W) := by
    show (if (F.map D.t).length < LIM then some (D.t .non, (st2 F W).set 0 (.lst (F.map D.t ++ [.t x]))) else none) = _
    rw [List.length_map, if_pos (by omega)]
    show some (D.t .non, [SO.lst (F.map D.t ++ [.t x]), SO.lst ((W.map enc).map .t)]) = some (D.t .non, [SO.lst ((F ++ [x]).map D.t), SO.lst ((W.map enc).map .t)])
    rw [List.map_append]
    rfl
  have il := in_len (st_of h)
  have e3 : extG (.r 1) [.t (.lst (((innerS x).map fun b => (b, l + 1)).map enc))] (st2 (F ++ [x]) W) = some (.t .non, st2 (F ++ [x]) (W ++ (innerS x).map fun b => (b, l + 1))) := by
    show (if ((W.map enc).map D.t).length + ((((innerS x).map fun b => (b, l + 1)).map enc).map D.t).length ≤ LIM then some (D.t .non, (st2 (F ++ [x]) W).set 1 (.lst ((W.map enc).map D.t ++ (((innerS x).map fun b => (b, l + 1)).map enc).map D.t))) else none) = _
    rw [if_pos (by simp only [List.length_map]; omega)]
    show some (D.t .non, [SO.lst ((F ++ [x]).map D.t), SO.lst ((W.map enc).map D.t ++ (((innerS x).map fun b => (b, l + 1)).map enc).map D.t)]) = some (D.t .non, [SO.lst ((F ++ [x]).map D.t), SO.lst (((W ++ (innerS x).map fun b => (b, l + 1)).map enc).map D.t)])
    simp only [List.map_append]
  have e4 := c_as1 v x4 x6 l (st2 (F ++ [x]) W) (st_of h)
  have t1 : tyOk "list" (st2 F W) (.r 0) = true := rfl
  have t2 : tyOk "list" (st2 (F ++ [x]) W) (.r 1) = true := rfl
  have f1 : ∀ s, eVar 1 [v, some (.r 0), some (.r 1), some (.t x), x4, some (.t (.int l)), x6] s = .ok (.r 0) s := fun _ => rfl
  have f2 : ∀ s, eVar 2 [v, some (.r 0), some (.r 1), some (.t x), x4, some (.t (.int l)), x6] s = .ok (.r 1) s := fun _ => rfl
  have f3 : ∀ s, eVar 3 [v, some (.r 0), some (.r 1), some (.t x), x4, some (.t (.int l)), x6] s = .ok (.t x) s := fun _ => rfl
  generalize hs0 : st2 F W = s0 at *
  generalize hs1 : st2 (F ++ [x]) W = s1 at *
  simp only [bd_as, seqM, ifM, nxM, dropM, methM, Mi.notM, truM, argsM, e1, e2, e3, e4, t1, t2, f1, f2, f3, Res.bind_ok, Res.out_ok, optR_ok, optS, tru_bl, Out.seq, if_true, Bool.not_true, Bool.false_eq_true, if_false]
theorem l_as {m : Nat} {v x4 : Option D} {l : Nat} : ∀ (ts F : List T) (W : List (T × Nat)) (x3 x6 : Option D), (∀ x ∈ ts, gd m x = true) → F.length + ts.length ≤ 100 → W.length + 2 * ts.length ≤ 500 →
    (ts.all stB = true → ∃ y3, forL (gN 3) bd_as (ts.map .t) [v, some (.r 0), some (.r 1), x3, x4, some (.t (.int l)), x6] (st2 F W) = .nx [v, some (.r 0), some (.r 1), y3, x4, some (.t (.int l)), x6] (st2 (F ++ ts) (W ++ ts.flatMap fun x => (innerS x).map fun b => (b, l + 1)))) ∧
    (ts.all stB = false → ∃ s, forL (gN 3) bd_as (ts.map .t) [v, some (.r 0), some (.r 1), x3, x4, some (.t (.int l)), x6] (st2 F W) = .rt (.t .non) s)
  | [], F, W, x3, x6, _, _, _ => ⟨fun _ => ⟨x3, by simp [forL]⟩, fun h => by cases h⟩
  | x :: r, F, W, x3, x6, hg, hF, hW => by
    rw [List.length_cons] at hF hW
    have gx := hg x List.mem_cons_self
    have st : ∀ o, bd_as [v, some (.r 0), some (.r 1), some (.t x), x4, some (.t (.int l)), x6] (st2 F W) = o → forL (gN 3) bd_as ((x :: r).map .t) [v, some (.r 0), some (.r 1), x3, x4, some (.t (.int l)), x6] (st2 F W) = (match o with
        | .nx e s => forL (gN 3) bd_as (r.map .t) e s
        | .ct e s => forL (gN 3) bd_as (r.map .t) e s
        | .bk e s => .nx e s
        | .rt d s => .rt d s
        | .exc C fs e s => .exc C fs e s
        | .bad => .bad) := fun o e => by
      rw [List.map_cons, forL]
      show (match bd_as [v, some (.r 0), some (.r 1), some (.t x), x4, some (.t (.int l)), x6] (st2 F W) with
        | .nx e s => forL (gN 3) bd_as (r.map .t) e s
        | .ct e s => forL (gN 3) bd_as (r.map .t) e s
        | .bk e s => .nx e s
        | .rt d s => .rt d s
        | .exc C fs e s => .exc C fs e s
        | .bad => .bad) = _
      rw [e]
    cases hb : stB x with
    | false =>
      refine ⟨fun h => ?_, fun _ => ⟨_, st _ (v_as_no v x4 x6 l _ gx hb)⟩⟩
      rw [List.all_cons, hb] at h
      cases h
    | true =>
      have il := in_len (st_of hb)
      obtain ⟨h1, h2⟩ := l_as (m := m) (v := v) (x4 := x4) (l := l) r (F ++ [x]) (W ++ (innerS x).map fun b => (b, l + 1)) (some (.t x)) x6 (fun z hz => hg z (List.mem_cons_of_mem _ hz)) (by rw [List.length_append, List.length_singleton]; omega) (by rw [List.length_append, List.length_map]; omega)
      have e := st _ (v_as_yes v x4 x6 l F W gx hb (by omega) (by omega))
      refine ⟨fun h => ?_, fun h => ?_⟩
      · rw [List.all_cons, hb, Bool.true_and] at h
        obtain ⟨y3, e3⟩ := h1 h
        refine ⟨y3, e.trans (e3.trans ?_)⟩
        rw [List.flatMap_cons, List.append_assoc, List.append_assoc]
        rfl
      · rw [List.all_cons, hb, Bool.true_and] at h
        obtain ⟨s, e3⟩ := h2 h
        exact ⟨s, e.trans e3⟩
end K02
/-! k2Q13 -/
namespace K02
open Mi PySem
def goodW (W : List (T × Nat)) : Bool := W.all fun p => PB (5 - p.2) p.1
def sW (W : List (T × Nat)) : List T := W.flatMap fun p => allS (5 - p.2) p.1
theorem inner_gd {m : Nat} {x b : T} (h : gd m x = true) (hb : b ∈ innerS x) : ∃ j, j < m ∧ gd j b = true := by
  unfold innerS at hb
  split at hb
  · rename_i w r
    obtain ⟨m', rfl, _, hg⟩ := gd_tup.mp h
    split at hb
    · (obtain ⟨p, hp, rfl⟩ := List.mem_map.mp hb)
      have := List.of_mem_zip (List.mem_filter.mp hp).1
      exact ⟨m', by omega, hg _ (List.mem_cons_of_mem _ this.2)⟩
    · cases hb
  · cases hb
theorem allL_perm (A : T → List T) : ∀ ts : List T, (allL A ts).Perm (ts ++ ts.flatMap fun x => (innerS x).flatMap A)
  | [] => .refl _
  | x :: r => by
    rw [allL, List.flatMap_cons, List.cons_append, List.cons_append]
    refine .cons _ ?_
    refine ((allL_perm A r).append_left _).trans ?_
    (rw [← List.append_assoc, ← List.append_assoc])
    exact List.perm_append_comm.append_right _
theorem sW_flat (l : Nat) : ∀ ts : List T, sW (ts.flatMap fun x => (innerS x).map fun b => (b, l + 1)) = ts.flatMap fun x => (innerS x).flatMap (allS (5 - (l + 1)))
  | [] => rfl
  | x :: r => by
    unfold sW
    rw [List.flatMap_cons, List.flatMap_append, List.flatMap_cons]
    have ih := sW_flat l r
    unfold sW at ih
    rw [ih]
    congr 1
    rw [List.flatMap_map]
theorem goodW_flat (l : Nat) (ts : List T) (hs : ts.all stB = true) : goodW (ts.flatMap fun x => (innerS x).map fun b => (b, l + 1)) = ts.all fun x => stB x && (innerS x).all (PB (5 - (l + 1))) := by
  induction ts with
  | nil => rfl
  | cons x r ih =>
    rw [List.all_cons, Bool.and_eq_true] at hs
    unfold goodW at ih ⊢
    rw [List.flatMap_cons, List.all_append, ih hs.2, List.all_cons, hs.1, List.all_map]
    rfl
abbrev wb : Mi.Env → Sto → Out := seqM (asgM (methM "list" popG (eVar 2) []) (gT 2 (gsCons (gN 4) (gsCons (gN 5) (gsNil)))))
    (seqM (ifM (Mi.orM (Mi.notM (truM (callB isiB [eVar 4, eC (.ty "tuple")]))) (fun env st => blOf (Mi.bin gtM (eVar 5) (eC c_MOST_LEVELS) env st))) (retM (eC .non)) (nxM))
    (seqM (ifM (fun env st => blOf (Mi.bin gtM (Mi.bin addM (callB lenB [eVar 1]) (callB lenB [eVar 4])) (eC c_MOST_STATEMENTS) env st)) (retM (eC .non)) (nxM))
    (l_all_statements_2)))
section
variable {v x3 x4 x5 x6 : Option D} {F : List T} {W : List (T × Nat)} {b : T} {l : Nat}
theorem pop_at : popG (.r 1) [] (st2 F (W ++ [(b, l)])) = some (.t (enc (b, l)), st2 F W) := by
  show ((((W ++ [(b, l)]).map enc).map D.t)[(((W ++ [(b, l)]).map enc).map D.t).length - 1]?).map (fun y => (y, (st2 F (W ++ [(b, l)])).set 1 (.lst (((W ++ [(b, l)]).map enc).map D.t).dropLast))) = _
  simp only [List.map_append, List.map_cons, List.map_nil, List.length_append, List.length_map, List.length_cons, List.length_nil, Nat.zero_add, Nat.add_sub_cancel, List.dropLast_concat]
  rw [List.getElem?_append_right (by simp)]
  simp only [List.length_map, Nat.sub_self]
  rfl
theorem len_r : lenB [.r 0] (st2 F W) = some (.t (.int F.length)) := by
  show some (iD ((F.map D.t).length)) = _
  rw [List.length_map]
  rfl
theorem wb_bad {m : Nat} (hg : gd m b = true) (h : isTup b = false ∨ 4 < l) : ∃ s, wb [v, some (.r 0), some (.r 1), x3, x4, x5, x6] (st2 F (W ++ [(b, l)])) = .rt (.t .non) s := by
  refine ⟨st2 F W, ?_⟩
  have pa := gd_pl hg
  have e1 := pop_at (F := F) (W := W) (b := b) (l := l)
  have t1 : tyOk "list" (st2 F (W ++ [(b, l)])) (.r 1) = true := rfl
  have e2 : ∀ s, eVar 4 [v, some (.r 0), some (.r 1), x3, some (.t b), some (.t (.int l)), x6] s = .ok (.t b) s := fun _ => rfl
  have e3 : ∀ s, eVar 5 [v, some (.r 0), some (.r 1), x3, some (.t b), some (.t (.int l)), x6] s = .ok (.t (.int l)) s := fun _ => rfl
  have a1 : asgM (methM "list" popG (eVar 2) []) (gT 2 (gsCons (gN 4) (gsCons (gN 5) (gsNil)))) [v, some (.r 0), some (.r 1), x3, x4, x5, x6] (st2 F (W ++ [(b, l)])) = .nx [v, some (.r 0), some (.r 1), x3, some (.t b), some (.t (.int l)), x6] (st2 F W) := by
    unfold asgM methM
    show (Res.bind (.ok (D.r 1) _) _).out _ _ = _
    rw [Res.bind_ok, t1]
    show (optS (popG (.r 1) [] (st2 F (W ++ [(b, l)])))).out _ _ = _
    rw [e1]
    rfl
  generalize st2 F (W ++ [(b, l)]) = s0 at a1 ⊢
  generalize st2 F W = s1 at a1 ⊢
  cases q : isTup b with
  | false => simp only [wb, seqM, a1, ifM, Mi.orM, Mi.notM, truM, callB, argsM, e2, eC, isi_tup _ pa, q, Res.bind_ok, Res.out_ok, optR_ok, tru_bl, Out.seq, Bool.not_false, if_true, retM]
  | true =>
    rw [q] at h
    have h4 : (4 : Int) < l := by
      rcases h with h | h
      · cases h
      · omega
    simp only [wb, seqM, a1, ifM, Mi.orM, Mi.notM, truM, callB, argsM, e2, e3, eC, isi_tup _ pa, q, Mi.bin, blOf, c_MOST_LEVELS, gt_int, Res.bind_ok, Res.out_ok, optR_ok, tru_bl, Out.seq, Bool.not_true, Bool.false_eq_true, if_false, decide_eq_true h4, if_true, retM]
theorem wb_tup {m : Nat} {ts : List T} (hg : gd m (.tup ts) = true) (h : l ≤ 4) : wb [v, some (.r 0), some (.r 1), x3, x4, x5, x6] (st2 F (W ++ [(.tup ts, l)])) =
    if 40 < F.length + ts.length then .rt (.t .non) (st2 F W) else forL (gN 3) bd_as (ts.map .t) [v, some (.r 0), some (.r 1), x3, some (.t (.tup ts)), some (.t (.int l)), x6] (st2 F W) := by
  have pa := gd_pl hg
  have e1 := pop_at (F := F) (W := W) (b := .tup ts) (l := l)
  have t1 : tyOk "list" (st2 F (W ++ [(.tup ts, l)])) (.r 1) = true := rfl
  have e2 : ∀ s, eVar 4 [v, some (.r 0), some (.r 1), x3, some (.t (.tup ts)), some (.t (.int l)), x6] s = .ok (.t (.tup ts)) s := fun _ => rfl
  have e3 : ∀ s, eVar 5 [v, some (.r 0), some (.r 1), x3, some (.t (.tup ts)), some (.t (.int l)), x6] s = .ok (.t (.int l)) s := fun _ => rfl
  have e4 : ∀ s, eVar 1 [v, some (.r 0), some (.r 1), x3, some (.t (.tup ts)), some (.t (.int l)), x6] s = .ok (.r 0) s := fun _ => rfl
  have a1 : asgM (methM "list" popG (eVar 2) []) (gT 2 (gsCons (gN 4) (gsCons (gN 5) (gsNil)))) [v, some (.r 0), some (.r 1), x3, x4, x5, x6] (st2 F (W ++ [(.tup ts, l)])) = .nx [v, some (.r 0), some (.r 1), x3, some (.t (.tup ts)), some (.t (.int l)), x6] (st2 F W) := by
    unfold asgM methM
    show (Res.bind (.ok (D.r 1) _) _).out _ _ = _
    rw [Res.bind_ok, t1]
    show (optS (popG (.r 1) [] (st2 F (W ++ [(.tup ts, l)])))).out _ _ = _
    rw [e1]
    rfl
  have e5 := len_r (F := F) (W := W)
  have e6 : l_all_statements_2 [v, some (.r 0), some (.r 1), x3, some (.t (.tup ts)), some (.t (.int l)), x6] (st2 F W) = forL (gN 3) bd_as (ts.map .t) [v, some (.r 0), some (.r 1), x3, some (.t (.tup ts)), some (.t (.int l)), x6] (st2 F W) :=
    forM_eq (any_tup rfl) (nth_tup ts _) (by rw [List.length_map]; exact Nat.le_refl _)
  generalize st2 F (W ++ [(.tup ts, l)]) = s0 at a1 ⊢
  generalize st2 F W = s1 at a1 e5 e6 ⊢
  have h4 : ¬ ((4 : Int) < l) := by omega
  by_cases c : 40 < F.length + ts.length
  · have c' : (40 : Int) < (F.length : Int) + ts.length := by omega
    rw [if_pos c]
    simp only [wb, seqM, a1, ifM, Mi.orM, Mi.notM, truM, callB, argsM, e2, e3, e4, e5, eC, isi_tup _ pa, isTup, Mi.bin, blOf, c_MOST_LEVELS, c_MOST_STATEMENTS, gt_int, len_tup, add_int, Res.bind_ok, Res.out_ok, optR_ok, tru_bl, Out.seq, nxM, Bool.not_true, Bool.false_eq_true, if_false, decide_eq_false h4, decide_eq_true c', if_true, retM]
  · have c' : ¬ ((40 : Int) < (F.length : Int) + ts.length) := by omega
    rw [if_neg c]
    simp only [wb, seqM, a1, ifM, Mi.orM, Mi.notM, truM, callB, argsM, e2, e3, e4, e5, eC, isi_tup _ pa, isTup, Mi.bin, blOf, c_MOST_LEVELS, c_MOST_STATEMENTS, gt_int, len_tup, add_int, Res.bind_ok, Res.out_ok, optR_ok, tru_bl, Out.seq, nxM, Bool.not_true, Bool.false_eq_true, if_false, decide_eq_false h4, decide_eq_false c', e6]
end
end K02
/-! k2Q14 -/
namespace K02
open Mi PySem
theorem PB_lvl {l : Nat} {ts : List T} (h : l ≤ 4) : PB (5 - l) (.tup ts) = ts.all fun x => stB x && (innerS x).all (PB (5 - (l + 1))) := by
  rw [show 5 - l = (5 - (l + 1)) + 1 by omega]
  rfl
theorem allS_lvl {l : Nat} {ts : List T} (h : l ≤ 4) : allS (5 - l) (.tup ts) = allL (allS (5 - (l + 1))) ts := by
  rw [show 5 - l = (5 - (l + 1)) + 1 by omega]
  rfl
theorem PB_no {l : Nat} {b : T} (h : isTup b = false ∨ 4 < l) : PB (5 - l) b = false := by
  rcases h with h | h
  · cases b with
    | tup ts => cases h
    | _ => cases q : (5 - l) <;> rfl
  · rw [show 5 - l = 0 by omega]
    rfl
theorem all_false {α : Type} {f g : α → Bool} : ∀ {l : List α}, l.all f = false → (l.all fun x => f x && g x) = false
  | a :: r, h => by
    rw [List.all_cons] at h ⊢
    cases q : f a with
    | false => rfl
    | true =>
      rw [q, Bool.true_and] at h
      rw [all_false h, Bool.and_false]
theorem fm_len {r : List T} : ∀ {l : Nat}, (r.flatMap fun x => (innerS x).map fun b => (b, l + 1)).length ≤ 2 * r.length ∨ r.all stB = false := by
  intro l
  induction r with
  | nil => left; simp
  | cons x r ih =>
    cases q : stB x with
    | false => right; rw [List.all_cons, q]; rfl
    | true =>
      rcases ih with ih | ih
      · left
        rw [List.flatMap_cons, List.length_append, List.length_map, List.length_cons]
        have := in_len (st_of q)
        omega
      · right; rw [List.all_cons, ih, Bool.and_false]
theorem w_as (v : Option D) : ∀ (m : Nat) (F : List T) (W : List (T × Nat)) (x3 x4 x5 x6 : Option D), (∀ p ∈ W, ∃ j, gd j p.1 = true) → F.length ≤ 40 → W.length + 2 * (40 - F.length) < m → m ≤ 200 →
    (goodW W = true → F.length + (sW W).length ≤ 40 → ∃ y3 y4 y5 y6 F', whileI (truM (eVar 2)) wb m [v, some (.r 0), some (.r 1), x3, x4, x5, x6] (st2 F W) = .nx [v, some (.r 0), some (.r 1), y3, y4, y5, y6] (st2 F' []) ∧ F'.Perm (F ++ sW W)) ∧
    ((goodW W = false ∨ 40 < F.length + (sW W).length) → ∃ s, whileI (truM (eVar 2)) wb m [v, some (.r 0), some (.r 1), x3, x4, x5, x6] (st2 F W) = .rt (.t .non) s)
  | 0, F, W, x3, x4, x5, x6, hg, hF, hm, _ => by omega
  | m + 1, F, W, x3, x4, x5, x6, hg, hF, hm, h200 => by
    rcases List.eq_nil_or_concat W with rfl | ⟨W', p, rfl⟩
    · have e : whileI (truM (eVar 2)) wb (m + 1) [v, some (.r 0), some (.r 1), x3, x4, x5, x6] (st2 F []) = .nx [v, some (.r 0), some (.r 1), x3, x4, x5, x6] (st2 F []) := rfl
      refine ⟨fun _ _ => ⟨x3, x4, x5, x6, F, e, ?_⟩, fun h => ?_⟩
      · show F.Perm (F ++ [])
        rw [List.append_nil]
      · rcases h with h | h
        · cases h
        · have : (sW ([] : List (T × Nat))).length = 0 := rfl
          omega
    · obtain ⟨b, l⟩ := p
      rw [List.concat_eq_append] at hg hm ⊢
      obtain ⟨j, hj⟩ := hg (b, l) (by simp)
      have gW : goodW (W' ++ [(b, l)]) = (goodW W' && PB (5 - l) b) := by
        unfold goodW
        rw [List.all_append]
        simp
      have sWe : sW (W' ++ [(b, l)]) = sW W' ++ allS (5 - l) b := by
        unfold sW
        rw [List.flatMap_append]
        simp
      have step : whileI (truM (eVar 2)) wb (m + 1) [v, some (.r 0), some (.r 1), x3, x4, x5, x6] (st2 F (W' ++ [(b, l)])) = (match wb [v, some (.r 0), some (.r 1), x3, x4, x5, x6] (st2 F (W' ++ [(b, l)])) with
          | .nx e s => whileI (truM (eVar 2)) wb m e s
          | .ct e s => whileI (truM (eVar 2)) wb m e s
          | .bk e s => .nx e s
          | .rt d s => .rt d s
          | .exc C fs e s => .exc C fs e s
          | .bad => .bad) := by
        have t : truM (eVar 2) [v, some (.r 0), some (.r 1), x3, x4, x5, x6] (st2 F (W' ++ [(b, l)])) = .ok true (st2 F (W' ++ [(b, l)])) := by
          show optR (some (!(((W' ++ [(b, l)]).map enc).map D.t).isEmpty)) _ = _
          simp [optR_ok]
        rw [whileI, t]
        rfl
      rw [List.length_append, List.length_singleton] at hm
      by_cases hb : isTup b = false ∨ 4 < l
      · obtain ⟨s, e⟩ := wb_bad (v := v) (x3 := x3) (x4 := x4) (x5 := x5) (x6 := x6) (F := F) (W := W') hj hb
        rw [e] at step
        refine ⟨fun h => ?_, fun _ => ⟨s, step⟩⟩
        rw [gW, PB_no hb, Bool.and_false] at h
        cases h
      · have hl : l ≤ 4 := Nat.le_of_not_lt fun z => hb (.inr z)
        cases b with
        | tup ts =>
          obtain ⟨j', rfl, _, hts⟩ := gd_tup.mp hj
          have e := wb_tup (v := v) (x3 := x3) (x4 := x4) (x5 := x5) (x6 := x6) (F := F) (W := W') hj hl
          have pl := (allL_perm (allS (5 - (l + 1))) ts).length_eq
          rw [List.length_append] at pl
          by_cases c : 40 < F.length + ts.length
          · rw [if_pos c] at e
            rw [e] at step
            refine ⟨fun _ h => ?_, fun _ => ⟨_, step⟩⟩
            rw [sWe, allS_lvl hl, List.length_append, pl] at h
            omega
          · rw [if_neg c] at e
            rw [e] at step
            obtain ⟨h1, h2⟩ := l_as (m := j') (v := v) (x4 := some (.t (.tup ts))) (l := l) ts F W' x3 x6 hts (by omega) (by omega)
            cases q : ts.all stB with
            | false =>
              obtain ⟨s, e3⟩ := h2 q
              rw [e3] at step
              refine ⟨fun h => ?_, fun _ => ⟨s, step⟩⟩
              rw [gW, PB_lvl hl, all_false q, Bool.and_false] at h
              cases h
            | true =>
              obtain ⟨y3, e3⟩ := h1 q
              rw [e3] at step
              have fl : (ts.flatMap fun x => (innerS x).map fun b => (b, l + 1)).length ≤ 2 * ts.length := by
                rcases fm_len (r := ts) (l := l) with z | z
                · exact z
                · rw [q] at z; cases z
              obtain ⟨i1, i2⟩ := w_as v m (F ++ ts) (W' ++ ts.flatMap fun x => (innerS x).map fun b => (b, l + 1)) y3 (some (.t (.tup ts))) (some (.t (.int l))) x6 (fun p hp => by
                (rcases List.mem_append.mp hp with hp | hp)
                · exact hg p (List.mem_append_left _ hp)
                · obtain ⟨x, hx, hp⟩ := List.mem_flatMap.mp hp
                  obtain ⟨z, hz, rfl⟩ := List.mem_map.mp hp
                  obtain ⟨j2, _, g2⟩ := inner_gd (hts x hx) hz
                  exact ⟨j2, g2⟩) (by rw [List.length_append]; omega) (by rw [List.length_append, List.length_append]; omega) (by omega)
              have g2 : goodW (W' ++ ts.flatMap fun x => (innerS x).map fun b => (b, l + 1)) = goodW (W' ++ [(.tup ts, l)]) := by
                rw [gW, PB_lvl hl, ← goodW_flat l ts q]
                unfold goodW
                rw [List.all_append]
              have p2 : ((F ++ ts) ++ sW (W' ++ ts.flatMap fun x => (innerS x).map fun b => (b, l + 1))).Perm (F ++ sW (W' ++ [(.tup ts, l)])) := by
                have e5 : sW (W' ++ ts.flatMap fun x => (innerS x).map fun b => (b, l + 1)) = sW W' ++ ts.flatMap fun x => (innerS x).flatMap (allS (5 - (l + 1))) := by
                  rw [← sW_flat l ts]
                  unfold sW
                  rw [List.flatMap_append]
                rw [e5, sWe, allS_lvl hl, List.append_assoc]
                (refine List.Perm.append_left _ ?_)
                refine .trans ?_ ((allL_perm _ ts).symm.append_left _)
                (rw [← List.append_assoc, ← List.append_assoc])
                exact List.perm_append_comm.append_right _
              have n2 := p2.length_eq
              rw [List.length_append, List.length_append (as := F) (bs := sW _)] at n2
              refine ⟨fun h3 h4 => ?_, fun h => ?_⟩
              · obtain ⟨z3, z4, z5, z6, F', e7, p7⟩ := i1 (by rw [g2]; exact h3) (by omega)
                exact ⟨z3, z4, z5, z6, F', step.trans e7, p7.trans p2⟩
              · obtain ⟨s, e7⟩ := i2 (by
                  rcases h with h | h
                  · left; rw [g2]; exact h
                  · right; omega)
                exact ⟨s, step.trans e7⟩
        | _ => exact absurd (.inl rfl) hb
theorem v_all {v : T} {j : Nat} (hg : gd j v = true) : (PB 4 v = true → (allS 4 v).length ≤ 40 → ∃ F', m_all_statements [v] = .ok (.lst F') ∧ F'.Perm (allS 4 v)) ∧
    ((PB 4 v = false ∨ 40 < (allS 4 v).length) → m_all_statements [v] = .ok .non) := by
  obtain ⟨h1, h2⟩ := w_as (some (.t v)) 200 [] [(v, 1)] none none none none (fun p hp => by
    rw [List.mem_singleton] at hp
    subst hp
    exact ⟨j, hg⟩) (by decide) (by simp) (Nat.le_refl _)
  have g : goodW [(v, 1)] = PB 4 v := by simp [goodW]
  have s : sW [(v, 1)] = allS 4 v := by simp [sW]
  simp only [g, s, List.length_nil, Nat.zero_add, List.nil_append] at h1 h2
  have run : m_all_statements [v] = exitP ((l_all_statements_3 [some (.t v), some (.r 0), some (.r 1), none, none, none, none] (st2 [] [(v, 1)])).seq (retM (eVar 1))) := rfl
  refine ⟨fun a b => ?_, fun a => ?_⟩
  · obtain ⟨y3, y4, y5, y6, F', e, p⟩ := h1 a b
    refine ⟨F', ?_, p⟩
    rw [run]
    show exitP ((whileI (truM (eVar 2)) wb 200 [some (.t v), some (.r 0), some (.r 1), none, none, none, none] (st2 [] [(v, 1)])).seq (retM (eVar 1))) = _
    rw [e]
    show (match plains (F'.map D.t) with
      | some ts => Rp.ok (.lst ts)
      | none => .bad) = _
    rw [plains_map]
  · obtain ⟨s, e⟩ := h2 a
    rw [run]
    show exitP ((whileI (truM (eVar 2)) wb 200 [some (.t v), some (.r 0), some (.r 1), none, none, none, none] (st2 [] [(v, 1)])).seq (retM (eVar 1))) = _
    rw [e]
    rfl
end K02
/-! k2Q15 -/
namespace K02
open Mi PySem
theorem st_head {x : T} (h : St x) : ∃ w r, x = .tup (.str w :: r) := by
  cases h <;> exact ⟨_, _, rfl⟩
def isW (w : Str) (x : T) : Bool := match x with
  | .tup (.str u :: _) => decide (u = w)
  | _ => false
def isBr (x : T) : Bool := isW "either" x || isW "loop" x
def lbody (x : T) : T := match x with
  | .tup [_, _, a] => a
  | _ => .non
def lp (x : T) : Bool := !isW "loop" x || decide (0 < (tkB 5 (lbody x)).1)
/-- more fuel says the same -/
theorem stTk_eq {f g : T → Int × Int} {x : T} (h : St x) (e : ∀ b ∈ innerS x, f b = g b) : stTk f x = stTk g x := by
  cases h with
  | run k h => simp (config := {decide := true}) [stTk]
  | either a b ha hb =>
    rw [in_either] at e
    simp (config := {decide := true}) [stTk, e a (by simp), e b (by simp)]
  | when c a b hc ha hb =>
    rw [in_when] at e
    simp (config := {decide := true}) [stTk, e a (by simp), e b (by simp)]
  | loop k a h ha =>
    rw [in_loop] at e
    simp (config := {decide := true}) [stTk, e a (by simp)]
  | mask k h => simp (config := {decide := true}) [stTk]
  | unmask => simp (config := {decide := true}) [stTk]
  | named w n hw h => rcases hw with rfl | rfl | rfl | rfl | rfl <;> simp (config := {decide := true}) [stTk]
  | arm n d h hd => simp (config := {decide := true}) [stTk]
theorem sumTk_eq {f g : T → Int × Int} : ∀ {ts : List T}, (∀ x ∈ ts, stTk f x = stTk g x) → sumTk f ts = sumTk g ts
  | [], _ => rfl
  | x :: r, h => by
    rw [sumTk, sumTk, h x List.mem_cons_self, sumTk_eq fun z hz => h z (List.mem_cons_of_mem _ hz)]
theorem tk_more : ∀ (n : Nat) (v : T) (k : Nat), PB n v = true → tkB (n + k) v = tkB n v
  | 0, v, k, h => by cases h
  | n + 1, v, k, h => by
    obtain ⟨ts, rfl, hs⟩ := PB_tup h
    rw [show n + 1 + k = (n + k) + 1 by omega]
    show sumTk (tkB (n + k)) ts = sumTk (tkB n) ts
    exact sumTk_eq fun x hx => stTk_eq (st_of (hs x hx).1) fun b hb => tk_more n b k ((hs x hx).2 b hb)
theorem lpB_lp {n : Nat} {x : T} (hn : n ≤ 5) (h : stB x = true) (hi : ∀ b ∈ innerS x, PB n b = true) : lpB n x = lp x := by
  cases st_of h with
  | run k h => simp (config := {decide := true}) [lpB, lp, isW]
  | either a b ha hb => simp (config := {decide := true}) [lpB, lp, isW]
  | when c a b hc ha hb => simp (config := {decide := true}) [lpB, lp, isW]
  | loop k a h ha =>
    rw [in_loop] at hi
    have e := tk_more n a (5 - n) (hi a (by simp))
    rw [show n + (5 - n) = 5 by omega] at e
    simp (config := {decide := true}) [lpB, lp, isW, lbody, e]
  | mask k h => simp (config := {decide := true}) [lpB, lp, isW]
  | unmask => simp (config := {decide := true}) [lpB, lp, isW]
  | named w n hw h => rcases hw with rfl | rfl | rfl | rfl | rfl <;> simp (config := {decide := true}) [lpB, lp, isW]
  | arm n d h hd => simp (config := {decide := true}) [lpB, lp, isW]
theorem allL_all (A : T → List T) (p : T → Bool) : ∀ ts : List T, (allL A ts).all p = ts.all fun x => p x && (innerS x).all fun b => (A b).all p
  | [] => rfl
  | x :: r => by
    rw [allL, List.all_append, List.all_cons, List.all_cons, allL_all A p r, List.all_flatMap]
theorem PB_zero_or {n : Nat} {v : T} (h : PB (n + 1) v = false) : RB (n + 1) v = false := by
  cases q : RB (n + 1) v with
  | false => rfl
  | true => rw [RB_PB _ _ q] at h; cases h
theorem RB_eq : ∀ (n : Nat) (v : T), n ≤ 5 → RB n v = (PB n v && (allS n v).all lp)
  | 0, v, _ => rfl
  | n + 1, v, hn => by
    cases v with
    | tup ts =>
      show (ts.all fun x => stB x && (innerS x).all (RB n) && lpB n x) = ((ts.all fun x => stB x && (innerS x).all (PB n)) && (allL (allS n) ts).all lp)
      rw [allL_all]
      induction ts with
      | nil => rfl
      | cons x r ih =>
        rw [List.all_cons, List.all_cons, List.all_cons, ih]
        have e1 : (innerS x).all (RB n) = ((innerS x).all (PB n) && (innerS x).all fun b => (allS n b).all lp) := by
          generalize innerS x = l
          induction l with
          | nil => rfl
          | cons b r2 ih2 =>
            rw [List.all_cons, List.all_cons, List.all_cons, ih2, RB_eq n b (by omega)]
            cases PB n b <;> cases (allS n b).all lp <;> cases r2.all (PB n) <;> simp
        cases q1 : stB x with
        | false => simp
        | true =>
          cases q2 : (innerS x).all (PB n) with
          | false => rw [e1, q2]; simp
          | true =>
            rw [lpB_lp (by omega) q1 (List.all_eq_true.mp q2), e1, q2]
            cases lp x <;> cases ((innerS x).all fun b => (allS n b).all lp) <;> simp
    | _ => rfl
/-- what all statements are -/
theorem allL_mem {A : T → List T} {y : T} : ∀ {ts : List T}, y ∈ allL A ts → ∃ x ∈ ts, y = x ∨ ∃ b ∈ innerS x, y ∈ A b
  | x :: r, h => by
    rw [allL] at h
    (rcases List.mem_append.mp h with h | h)
    · rcases List.mem_cons.mp h with h | h
      · exact ⟨x, List.mem_cons_self, .inl h⟩
      · obtain ⟨b, hb, hy⟩ := List.mem_flatMap.mp h
        exact ⟨x, List.mem_cons_self, .inr ⟨b, hb, hy⟩⟩
    · obtain ⟨z, hz, w⟩ := allL_mem h
      exact ⟨z, List.mem_cons_of_mem _ hz, w⟩
theorem allS_ok : ∀ (n : Nat) (v : T), PB n v = true → ∀ x ∈ allS n v, St x ∧ ∀ b ∈ innerS x, ∃ k, k < n ∧ PB k b = true
  | 0, v, h => by cases h
  | n + 1, v, h => by
    obtain ⟨ts, rfl, hs⟩ := PB_tup h
    intro x hx
    obtain ⟨z, hz, e | ⟨b, hb, hy⟩⟩ := allL_mem (show x ∈ allL (allS n) ts from hx)
    · subst e
      exact ⟨st_of (hs x hz).1, fun b hb => ⟨n, by omega, (hs x hz).2 b hb⟩⟩
    · obtain ⟨a1, a2⟩ := allS_ok n b ((hs z hz).2 b hb) x hy
      exact ⟨a1, fun c hc => by
        obtain ⟨k, hk, hp⟩ := a2 c hc
        exact ⟨k, by omega, hp⟩⟩
end K02
/-! k2Q16 -/
namespace K02
open Mi PySem
theorem lim1 : (2000 : Nat) ≤ LIM := Nat.le_of_ble_eq_true rfl
theorem c_b1 {v : Option D} {F : List T} (hl : F.length ≤ 1000) (h : ∀ x ∈ F, St x) : c_is_body_1 [v, some (.t (.lst F)), none, none, none, none] [] = .ok (.t (.lst (F.filter isBr))) [] := by
  have e := lcM_T (us := [4]) (fi := anyOf (eVar 1)) (ga := gN 4) (gt := fun env st => blOf (Mi.bin inM (Mi.bin ixM (eVar 4) (eC (.int 0))) (tupM [eC (.str "either"), eC (.str "loop")]) env st)) (fe := eVar 4) (env := [v, some (.t (.lst F)), none, none, none, none]) (st := []) (s := []) (p := isBr) (g := id) (any_lst rfl) (nth_lst F _) rfl (Nat.le_trans hl (Nat.le_trans (by decide) lim1)) fun x hx => by
    obtain ⟨w, r, rfl⟩ := st_head (h x hx)
    refine ⟨_, rfl, ?_, fun _ => rfl⟩
    have f : ∀ s, eVar 4 [v, some (.t (.lst F)), none, none, some (.t (.tup (.str w :: r))), none] s = .ok (.t (.tup (.str w :: r))) s := fun _ => rfl
    show blOf (Mi.bin inM (Mi.bin ixM (eVar 4) (eC (.int 0))) (tupM [eC (.str "either"), eC (.str "loop")]) [v, some (.t (.lst F)), none, none, some (.t (.tup (.str w :: r))), none] []) = _
    simp [blOf, Mi.bin, f, eC, tupM, argsM, plains, ix0, in_str2, Res.bind_ok, optR_ok, isBr, isW]
  rw [List.map_id] at e
  exact e
theorem c_b2 {v x2 : Option D} {F : List T} (hl : F.length ≤ 1000) (h : ∀ x ∈ F, St x) : c_is_body_2 [v, some (.t (.lst F)), x2, none, none, none] [] = .ok (.t (.lst ((F.filter (isW "loop")).map lbody))) [] := by
  refine lcM_T (it := seqIt (.t (.lst F)) F.length) (any_lst rfl) (nth_lst F _) rfl (Nat.le_trans hl (Nat.le_trans (by decide) lim1)) fun x hx => ?_
  refine ⟨_, rfl, ?_, fun hp => ?_⟩
  · obtain ⟨w, r, rfl⟩ := st_head (h x hx)
    have f : ∀ s, eVar 4 [v, some (.t (.lst F)), x2, none, some (.t (.tup (.str w :: r))), none] s = .ok (.t (.tup (.str w :: r))) s := fun _ => rfl
    show blOf (Mi.bin eqM (Mi.bin ixM (eVar 4) (eC (.int 0))) (eC (.str "loop")) [v, some (.t (.lst F)), x2, none, some (.t (.tup (.str w :: r))), none] []) = _
    simp [blOf, Mi.bin, f, eC, ix0, eq_str, Res.bind_ok, optR_ok, isW]
  · have f : ∀ s, eVar 4 [v, some (.t (.lst F)), x2, none, some (.t x), none] s = .ok (.t x) s := fun _ => rfl
    show Mi.bin ixM (eVar 4) (eC (.int 2)) [v, some (.t (.lst F)), x2, none, some (.t x), none] [] = _
    cases h x hx with
    | loop k a h ha => simp [Mi.bin, f, eC, ix2, Res.bind_ok, optR_ok, lbody]
    | named w n hw h => rcases hw with rfl | rfl | rfl | rfl | rfl <;> (simp (config := {decide := true}) [isW] at hp)
    | _ => simp (config := {decide := true}) [isW] at hp
theorem v_uses {b : T} {n : Nat} (hn : n ≤ 5) (h : PB n b = true) : m_uses_ticks [b] = .ok (.bl (decide (0 < (tkB 5 b).1))) := by
  have e := v_ticks n b (12 - 2 * n) h
  rw [show 2 * n + (12 - 2 * n) = 12 by omega] at e
  have e2 := tk_more n b (5 - n) h
  rw [show n + (5 - n) = 5 by omega] at e2
  have e3 : callP ((g_tick_bounds 12).1) [eVar 0] [some (.t b)] [] = .ok (.t (pr (tkB n b))) [] := callP1 rfl e
  simp only [m_uses_ticks, b_uses_ticks, defP, retM, Mi.bin]
  show exitP (((((callP ((g_tick_bounds 12).1) [eVar 0] [some (.t b)] []).bind fun x st1 => (eC (.int 0) _ st1).bind fun y st2 => optR (ixM x y st2) st2).bind fun x st1 => (eC (.int 1) _ st1).bind fun y st2 => optR (geM x y st2) st2)).out _ _) = _
  rw [e3]
  simp only [Res.bind_ok, eC, pr1, optR_ok, ge_int, Res.out_ok, exitP]
  rw [e2]
  congr 2
theorem c_b3 {v x1 x2 : Option D} {G : List T} (hl : G.length ≤ 1000) (h : ∀ b ∈ G, ∃ n, n ≤ 5 ∧ PB n b = true) : c_is_body_3 [v, x1, x2, some (.t (.lst G)), none, none] [] = .ok (.t (.lst (G.map fun b => .bl (decide (0 < (tkB 5 b).1))))) [] := by
  refine lcM_all (it := seqIt (.t (.lst G)) G.length) (any_lst rfl) (nth_lst G _) rfl (Nat.le_trans hl (Nat.le_trans (by decide) lim1)) fun b hb => ⟨_, rfl, ?_⟩
  obtain ⟨n, hn, hp⟩ := h b hb
  exact callP1 rfl (v_uses hn hp)
theorem all_lp : ∀ F : List T, (((F.filter (isW "loop")).map lbody).all fun b => decide (0 < (tkB 5 b).1)) = F.all lp
  | [] => rfl
  | x :: r => by
    rw [List.filter_cons, List.all_cons, ← all_lp r]
    unfold lp
    cases isW "loop" x <;> simp
def nBr (n : Nat) (v : T) : Nat := (allS n v).countP isBr
def body (v : T) : Bool := RB 4 v && (decide ((allS 4 v).length ≤ 40) && decide (nBr 4 v ≤ 6))
theorem v_is_body {v : T} {j : Nat} (hg : gd j v = true) : m_is_body [v] = .ok (.bl (body v)) := by
  obtain ⟨h1, h2⟩ := v_all hg
  by_cases c : PB 4 v = true ∧ (allS 4 v).length ≤ 40
  · obtain ⟨F, e, p⟩ := h1 c.1 c.2
    have ok := allS_ok 4 v c.1
    have hF : ∀ x ∈ F, St x := fun x hx => (ok x (p.mem_iff.mp hx)).1
    have lF : F.length ≤ 1000 := by rw [p.length_eq]; omega
    have e0 : callP m_all_statements [eVar 0] [some (.t v), none, none, none, none, none] [] = .ok (.t (.lst F)) [] := callP1 rfl e
    have e1 := c_b1 (v := some (.t v)) lF hF
    have e2 := c_b2 (v := some (.t v)) (x2 := some (.t (.lst (F.filter isBr)))) lF hF
    have e3 := c_b3 (v := some (.t v)) (x1 := some (.t (.lst F))) (x2 := some (.t (.lst (F.filter isBr)))) (G := (F.filter (isW "loop")).map lbody) (by
      rw [List.length_map]
      exact Nat.le_trans (List.length_filter_le _ _) lF) fun b hb => by
        obtain ⟨x, hx, rfl⟩ := List.mem_map.mp hb
        obtain ⟨hx, hw⟩ := List.mem_filter.mp hx
        obtain ⟨hs, hi⟩ := ok x (p.mem_iff.mp hx)
        cases hs with
        | loop k a h ha =>
          rw [in_loop] at hi
          obtain ⟨n, hn, hp⟩ := hi a (by simp)
          exact ⟨n, by omega, hp⟩
        | named w n hw2 h => rcases hw2 with rfl | rfl | rfl | rfl | rfl <;> (simp (config := {decide := true}) [isW] at hw)
        | _ => simp (config := {decide := true}) [isW] at hw
    have e4 : isM (.t (.lst F)) (.t .non) [] = some (.t (.bl false)) := rfl
    have f0 : setM 1 (callP m_all_statements [eVar 0]) [some (.t v), none, none, none, none, none] [] = .nx [some (.t v), some (.t (.lst F)), none, none, none, none] [] := by unfold setM; rw [e0]; rfl
    have f1 : ifM (fun env st => blOf (Mi.bin isM (eVar 1) (eC .non) env st)) (retM (eC (.bl false))) nxM [some (.t v), some (.t (.lst F)), none, none, none, none] [] = .nx [some (.t v), some (.t (.lst F)), none, none, none, none] [] := rfl
    have f2 : setM 2 c_is_body_1 [some (.t v), some (.t (.lst F)), none, none, none, none] [] = .nx [some (.t v), some (.t (.lst F)), some (.t (.lst (F.filter isBr))), none, none, none] [] := by unfold setM; rw [e1]; rfl
    have f3 : setM 3 c_is_body_2 [some (.t v), some (.t (.lst F)), some (.t (.lst (F.filter isBr))), none, none, none] [] = .nx [some (.t v), some (.t (.lst F)), some (.t (.lst (F.filter isBr))), some (.t (.lst ((F.filter (isW "loop")).map lbody))), none, none] [] := by unfold setM; rw [e2]; rfl
    have nb : (F.filter isBr).length = nBr 4 v := by rw [← List.countP_eq_length_filter]; exact p.countP_eq _
    have al : F.all lp = (allS 4 v).all lp := by
      (rw [Bool.eq_iff_iff, List.all_eq_true, List.all_eq_true])
      exact ⟨fun h x hx => h x (p.mem_iff.mpr hx), fun h x hx => h x (p.mem_iff.mp hx)⟩
    have bd : body v = (decide (nBr 4 v ≤ 6) && (allS 4 v).all lp) := by
      unfold body
      rw [RB_eq 4 v (by decide), c.1, decide_eq_true c.2]
      cases (allS 4 v).all lp <;> simp
    have run : m_is_body [v] = exitP ((b_is_body [some (.t v), none, none, none, none, none] [])) := rfl
    rw [run, bd]
    unfold b_is_body seqM
    rw [f0]
    simp only [Out.seq]
    rw [f1]
    simp only
    rw [f2]
    simp only
    rw [f3]
    simp only
    have g1 : Mi.bin leM (callB lenB [eVar 2]) (eC c_MOST_BRANCHES) [some (.t v), some (.t (.lst F)), some (.t (.lst (F.filter isBr))), some (.t (.lst ((F.filter (isW "loop")).map lbody))), none, none] [] = .ok (.t (.bl (decide (nBr 4 v ≤ 6)))) [] := by
      have q : lenB [.t (.lst (F.filter isBr))] [] = some (.t (.int (nBr 4 v))) := by rw [len_lst, nb]
      show ((optR (lenB [.t (.lst (F.filter isBr))] []) []).bind fun x st1 => (eC c_MOST_BRANCHES _ st1).bind fun y st2 => optR (leM x y st2) st2) = _
      rw [q]
      simp only [optR_ok, Res.bind_ok, eC, c_MOST_BRANCHES, le_int]
      congr 3
      simp
      omega
    have g2 : callB allB [c_is_body_3] [some (.t v), some (.t (.lst F)), some (.t (.lst (F.filter isBr))), some (.t (.lst ((F.filter (isW "loop")).map lbody))), none, none] [] = .ok (.t (.bl ((allS 4 v).all lp))) [] := by
      unfold callB argsM
      rw [e3]
      show optR (allB [.t (.lst _)] []) [] = _
      rw [all_bls, all_lp, al]
      rfl
    unfold retM andV
    rw [g1]
    simp only [Res.bind_ok, tru_bl, optR_ok]
    cases q : decide (nBr 4 v ≤ 6) with
    | false => rfl
    | true =>
      (simp only [if_true, Bool.true_and])
      rw [g2]
      rfl
  · have no : PB 4 v = false ∨ 40 < (allS 4 v).length := by
      cases q : PB 4 v with
      | false => exact .inl rfl
      | true => exact .inr (Nat.lt_of_not_le fun z => c ⟨q, z⟩)
    have e := h2 no
    have bd : body v = false := by
      unfold body
      rcases no with q | q
      · rw [RB_eq 4 v (by decide), q]; rfl
      · rw [decide_eq_false (Nat.not_le_of_lt q)]; simp
    have e0 : callP m_all_statements [eVar 0] [some (.t v), none, none, none, none, none] [] = .ok (.t .non) [] := callP1 rfl e
    have f0 : setM 1 (callP m_all_statements [eVar 0]) [some (.t v), none, none, none, none, none] [] = .nx [some (.t v), some (.t .non), none, none, none, none] [] := by unfold setM; rw [e0]; rfl
    have run : m_is_body [v] = exitP ((b_is_body [some (.t v), none, none, none, none, none] [])) := rfl
    rw [run, bd]
    unfold b_is_body seqM
    rw [f0]
    rfl
end K02
/-! k2Q17 -/
namespace K02
open Mi PySem
/-! ### the law's own is_body -/
def wd (x : T) : T := match x with
  | .tup (a :: _) => a
  | _ => .non
theorem c_lb {v : T} {F : List T} (hr : g_law_all 6 [v] = .ok (.lst F)) (hl : F.length ≤ 1000) (h : ∀ x ∈ F, St x) : c_law_is_body_1 [some (.t v), none, none] [] = .ok (.t (.lst (F.map wd))) [] := by
  refine lcM_all (it := seqIt (.t (.lst F)) F.length) (any_lst (callP1 rfl hr)) (nth_lst F _) rfl (Nat.le_trans hl (Nat.le_trans (by decide) lim1)) fun x hx => ⟨_, rfl, ?_⟩
  obtain ⟨w, r, rfl⟩ := st_head (h x hx)
  have f : ∀ s, eVar 2 [some (.t v), none, some (.t (.tup (.str w :: r)))] s = .ok (.t (.tup (.str w :: r))) s := fun _ => rfl
  show Mi.bin ixM (eVar 2) (eC (.int 0)) [some (.t v), none, some (.t (.tup (.str w :: r)))] [] = _
  simp [Mi.bin, f, eC, ix0, Res.bind_ok, optR_ok, wd]
theorem tvs_wd : ∀ {F : List T}, (∀ x ∈ F, St x) → ∃ vs, tVs ((F.map wd).map .t) = some vs ∧ ∀ w : Str, vs.countP (fun z => L2.eqV z (.str w)) = F.countP (isW w)
  | [], _ => ⟨[], rfl, fun _ => rfl⟩
  | x :: r, h => by
    obtain ⟨vs, e1, e2⟩ := tvs_wd fun z hz => h z (List.mem_cons_of_mem _ hz)
    obtain ⟨u, l, rfl⟩ := st_head (h x List.mem_cons_self)
    refine ⟨.str u :: vs, ?_, fun w => ?_⟩
    · show (tV (.str u)).bind (fun v => (tVs ((r.map wd).map .t)).map (v :: ·)) = _
      rw [e1]
      rfl
    · rw [List.countP_cons, List.countP_cons, e2]
      rfl
theorem count_wd {F : List T} (h : ∀ x ∈ F, St x) (w : Str) (s : Sto) : countG (.t (.lst (F.map wd))) [.t (.str w)] s = some (.t (.int (F.countP (isW w))), s) := by
  obtain ⟨vs, e1, e2⟩ := tvs_wd h
  show ((tVs ((F.map wd).map .t)).map fun vs => (iD ((vs.countP fun z => L2.eqV z (.str w) : Nat) : Int), s)) = _
  rw [e1]
  show some (iD ((vs.countP fun z => L2.eqV z (.str w) : Nat) : Int), s) = _
  rw [e2]
  rfl
theorem isW_one {a b : Str} (h : a ≠ b) (x : T) : isW a x = true → isW b x = true → False := by
  unfold isW
  split
  · rename_i u _
    intro h1 h2
    exact h ((of_decide_eq_true h1).symm.trans (of_decide_eq_true h2))
  · intro h1; cases h1
theorem br_count : ∀ F : List T, F.countP isBr = F.countP (isW "either") + F.countP (isW "loop")
  | [] => rfl
  | x :: r => by
    rw [List.countP_cons, List.countP_cons, List.countP_cons, br_count r]
    unfold isBr
    have no := isW_one (a := "either") (b := "loop") (by decide) x
    cases q1 : isW "either" x <;> cases q2 : isW "loop" x <;> simp
    · omega
    · omega
    · exact absurd q2 fun z => no q1 z
theorem v_law_is_body {v : T} {j : Nat} (hj : j ≤ 60) (hg : gd j v = true) (hl : PB 4 v = true → (allS 4 v).length ≤ 1000) : m_law_is_body [v] = .ok (.bl (body v)) := by
  have e := v_right 4 j v 3 (by decide) hj hg
  rw [show 2 * 4 + 1 + 3 = 12 by rfl, show (5 - ((4 : Nat) : Int)) = 1 by rfl] at e
  have e0 : callP ((g_law_is_line 12).2) [eVar 0, eC (.int 1)] [some (.t v), none, none] [] = .ok (.t (.bl (RB 4 v))) [] := callP2 rfl rfl e
  have run : m_law_is_body [v] = exitP (b_law_is_body [some (.t v), none, none] []) := rfl
  rw [run]
  cases q : RB 4 v with
  | false =>
    rw [q] at e0
    have bd : body v = false := by unfold body; rw [q]; rfl
    rw [bd]
    simp only [b_law_is_body, seqM, ifM, Mi.notM, truM, e0, Res.bind_ok, optR_ok, tru_bl, Res.out_ok, Bool.not_false, if_true, retM, eC, Out.seq, exitP]
  | true =>
    rw [q] at e0
    have pb := RB_PB 4 v q
    have l1 := hl pb
    have ok := fun x hx => (allS_ok 4 v pb x hx).1
    have e1 := v_lall 4 v 2 pb (Nat.le_trans l1 (Nat.le_trans (by decide) lim1))
    have e2 := c_lb e1 l1 ok
    have f2 : setM 1 c_law_is_body_1 [some (.t v), none, none] [] = .nx [some (.t v), some (.t (.lst ((allS 4 v).map wd))), none] [] := by unfold setM; rw [e2]; rfl
    have bd : body v = (decide ((allS 4 v).length ≤ 40) && decide (nBr 4 v ≤ 6)) := by unfold body; rw [q, Bool.true_and]
    rw [bd]
    have fv : ∀ s, eVar 1 [some (.t v), some (.t (.lst ((allS 4 v).map wd))), none] s = .ok (.t (.lst ((allS 4 v).map wd))) s := fun _ => rfl
    have ty : ∀ s, tyOk "list" s (.t (.lst ((allS 4 v).map wd))) = true := fun _ => rfl
    have c1 := count_wd ok
    simp only [b_law_is_body, seqM, ifM, Mi.notM, truM, e0, Res.bind_ok, optR_ok, tru_bl, Res.out_ok, Bool.not_true, Bool.false_eq_true, if_false, nxM, Out.seq, f2, retM, andV, Mi.bin, callB, methM, argsM, fv, ty, if_true, optS, c1, len_lst, le_int, add_int, eC]
    have l2 : decide ((((allS 4 v).map wd).length : Int) ≤ 40) = decide ((allS 4 v).length ≤ 40) := by
      rw [List.length_map, decide_eq_decide]
      omega
    have l3 : decide (((allS 4 v).countP (isW "either") : Int) + ((allS 4 v).countP (isW "loop") : Int) ≤ 6) = decide (nBr 4 v ≤ 6) := by
      unfold nBr
      rw [br_count, decide_eq_decide]
      omega
    rw [l2, l3]
    cases decide ((allS 4 v).length ≤ 40) <;> rfl
/-- both say the same -/
theorem same_body {v : T} {j : Nat} (hj : j ≤ 60) (hg : gd j v = true) (hl : PB 4 v = true → (allS 4 v).length ≤ 1000) : m_is_body [v] = .ok (.bl (body v)) ∧ m_law_is_body [v] = .ok (.bl (body v)) := ⟨v_is_body hg, v_law_is_body hj hg hl⟩
end K02
/-! k2Q18 -/
namespace K02
open Mi PySem
/-! ### drawn numbers -/
def pool (a q : Int) : SO := .lst [.t (.int a), .t (.int q)]
def PoolAt (st : Sto) (k : Nat) : Prop := ∃ a q, st[k]? = some (pool a q) ∧ 0 ≤ q ∧ q < 2147483647
section
variable {st : Sto} {k : Nat} {a q : Int}
theorem ixp0 (h : st[k]? = some (pool a q)) : ixM (.r k) (.t (.int 0)) st = some (.t (.int a)) := by
  show (match st[k]? with
    | some (.lst ds) => some ds
    | none => none).bind (fun ds => L2.atI ds 0) = _
  rw [h]
  rfl
theorem ixp1 (h : st[k]? = some (pool a q)) : ixM (.r k) (.t (.int 1)) st = some (.t (.int q)) := by
  show (match st[k]? with
    | some (.lst ds) => some ds
    | none => none).bind (fun ds => L2.atI ds 1) = _
  rw [h]
  rfl
theorem set_pool (h : st[k]? = some (pool a q)) (b p : Int) : (st.set k (pool b p))[k]? = some (pool b p) := List.getElem?_set_self (List.getElem?_eq_some_iff.mp h).1
theorem setp0 {fi f : Mi.Env → Sto → Res D} {env : Mi.Env} {b : Int} (h : st[k]? = some (pool a q)) (hv : eVar 0 env st = .ok (.r k) st) (hi : fi env st = .ok (.t (.int 0)) st) (hf : f env st = .ok (.t (.int b)) st) : setItM (eVar 0) fi f env st = .nx env (st.set k (pool b q)) := by
  simp only [setItM, hf, hv, hi, Res.out_ok, h, pool]
  rfl
theorem setp1 {fi f : Mi.Env → Sto → Res D} {env : Mi.Env} {b : Int} (h : st[k]? = some (pool a q)) (hv : eVar 0 env st = .ok (.r k) st) (hi : fi env st = .ok (.t (.int 1)) st) (hf : f env st = .ok (.t (.int b)) st) : setItM (eVar 0) fi f env st = .nx env (st.set k (pool a b)) := by
  simp only [setItM, hf, hv, hi, Res.out_ok, h, pool]
  rfl
theorem int_int (i : Int) (s : Sto) : intB [.t (.int i)] s = some (.t (.int i)) := rfl
theorem mod_int (i j : Int) (h : 0 < j) (s : Sto) : modM (.t (.int i)) (.t (.int j)) s = some (.t (.int (i % j))) := by
  show (if 0 < j then some (iD (i % j)) else none) = _
  rw [if_pos h]
  rfl
theorem div_int (i j : Int) (h : 0 < j) (h2 : j < 1073741824) (s : Sto) : fdivM (.t (.int i)) (.t (.int j)) s = some (.t (.int (i / j))) := by
  show (if 0 < j ∧ j < 1073741824 then some (iD (i / j)) else none) = _
  rw [if_pos ⟨h, h2⟩]
  rfl
theorem mul_int (i j : Int) (h : -B64 < i ∧ i < B64) (s : Sto) : mulA (.t (.int i)) (.t (.int j)) s = some (.t (.int (i * j))) := by
  unfold mulA mulM
  dsimp only
  rw [if_pos (.inl h)]
  rfl
theorem b64 {i : Int} (h0 : 0 ≤ i) (h : i < 18446744073709551616) : -B64 < i ∧ i < B64 := by
  unfold B64
  omega
theorem v_take (n : Int) (h1 : 1 ≤ n) (h2 : n < 1073741824) (hp : PoolAt st k) : ∃ r st', m_law_take [.r k, .t (.int n)] st = .ok (.t (.int r)) st' ∧ 0 ≤ r ∧ r < n ∧ PoolAt st' k ∧ st'.length = st.length ∧ ∃ b p, st' = st.set k (pool b p) := by
  obtain ⟨a, q, h, q0, q1⟩ := hp
  have run : m_law_take [.r k, .t (.int n)] st = exitG (b_law_take [some (.r k), some (.t (.int n)), none] st) := rfl
  have v0 : ∀ x s, eVar 0 [some (.r k), some (.t (.int n)), x] s = .ok (.r k) s := fun _ _ => rfl
  have v1 : ∀ x s, eVar 1 [some (.r k), some (.t (.int n)), x] s = .ok (.t (.int n)) s := fun _ _ => rfl
  have v2 : ∀ z s, eVar 2 [some (.r k), some (.t (.int n)), some z] s = .ok z s := fun _ _ => rfl
  have n0 : 0 < n := by omega
  by_cases c : 0 < a
  · refine ⟨a % n, st.set k (pool (a / n) q), ?_, Int.emod_nonneg _ (by omega), Int.emod_lt_of_pos _ n0, ⟨_, _, set_pool h _ _, q0, q1⟩, List.length_set, _, _, rfl⟩
    have e1 : ∀ x, Mi.bin ixM (eVar 0) (eC (.int 0)) [some (.r k), some (.t (.int n)), x] st = .ok (.t (.int a)) st := fun x => by simp only [Mi.bin, v0, eC, Res.bind_ok, ixp0 h, optR_ok]
    have e2 : ∀ x, Mi.bin modM (callB intB [Mi.bin ixM (eVar 0) (eC (.int 0))]) (eVar 1) [some (.r k), some (.t (.int n)), x] st = .ok (.t (.int (a % n))) st := fun x => by
      rw [Mi.bin, callB]
      simp only [argsM, e1, Res.bind_ok, int_int, optR_ok, v1, mod_int a n n0]
    have e3 : ∀ x, Mi.bin fdivM (callB intB [Mi.bin ixM (eVar 0) (eC (.int 0))]) (eVar 1) [some (.r k), some (.t (.int n)), x] st = .ok (.t (.int (a / n))) st := fun x => by
      rw [Mi.bin, callB]
      simp only [argsM, e1, Res.bind_ok, int_int, optR_ok, v1, div_int a n n0 h2]
    have e4 : setItM (eVar 0) (eC (.int 0)) (Mi.bin fdivM (callB intB [Mi.bin ixM (eVar 0) (eC (.int 0))]) (eVar 1)) [some (.r k), some (.t (.int n)), some (.t (.int (a % n)))] st = .nx _ _ := setp0 h (v0 _ _) rfl (e3 _)
    have e5 : blOf (Mi.bin gtM (Mi.bin ixM (eVar 0) (eC (.int 0))) (eC (.int 0)) [some (.r k), some (.t (.int n)), none] st) = .ok true st := by
      rw [Mi.bin, e1]
      simp only [Res.bind_ok, eC, gt_int, optR_ok, blOf, decide_eq_true c]
    rw [run, b_law_take, seqM, ifM, e5]
    simp only [Res.out_ok, if_true]
    rw [seqM, setM, e2]
    simp only [Res.out_ok, Out.seq, List.set]
    rw [seqM, e4]
    simp only [Out.seq, retM, v2, Res.out_ok, exitG]
  · have hm := Int.emod_nonneg (q * 48271 + 12345) (show (2147483647 : Int) ≠ 0 by decide)
    have hm2 := Int.emod_lt_of_pos (q * 48271 + 12345) (show (0 : Int) < 2147483647 by decide)
    have e1 : Mi.bin ixM (eVar 0) (eC (.int 0)) [some (.r k), some (.t (.int n)), none] st = .ok (.t (.int a)) st := by simp only [Mi.bin, v0, eC, Res.bind_ok, ixp0 h, optR_ok]
    have e5 : blOf (Mi.bin gtM (Mi.bin ixM (eVar 0) (eC (.int 0))) (eC (.int 0)) [some (.r k), some (.t (.int n)), none] st) = .ok false st := by
      rw [Mi.bin, e1]
      simp only [Res.bind_ok, eC, gt_int, optR_ok, blOf, decide_eq_false c]
    have e2 : Mi.bin ixM (eVar 0) (eC (.int 1)) [some (.r k), some (.t (.int n)), none] st = .ok (.t (.int q)) st := by simp only [Mi.bin, v0, eC, Res.bind_ok, ixp1 h, optR_ok]
    have e3 : Mi.bin modM (callB intB [Mi.bin addM (Mi.bin mulA (Mi.bin ixM (eVar 0) (eC (.int 1))) (eC (.int 48271))) (eC (.int 12345))]) (eC (.int 2147483647)) [some (.r k), some (.t (.int n)), none] st = .ok (.t (.int ((q * 48271 + 12345) % 2147483647))) st := by
      have z : Mi.bin addM (Mi.bin mulA (Mi.bin ixM (eVar 0) (eC (.int 1))) (eC (.int 48271))) (eC (.int 12345)) [some (.r k), some (.t (.int n)), none] st = .ok (.t (.int (q * 48271 + 12345))) st := by
        have z1 : Mi.bin mulA (Mi.bin ixM (eVar 0) (eC (.int 1))) (eC (.int 48271)) [some (.r k), some (.t (.int n)), none] st = .ok (.t (.int (q * 48271))) st := by
          rw [Mi.bin, e2]
          simp only [Res.bind_ok, eC, mul_int q 48271 (b64 q0 (by omega)), optR_ok]
        rw [Mi.bin, z1]
        simp only [Res.bind_ok, eC, add_int, optR_ok]
      rw [Mi.bin, callB]
      simp only [argsM, z, Res.bind_ok, int_int, optR_ok, eC, mod_int _ 2147483647 (by decide)]
    have e4 : setItM (eVar 0) (eC (.int 1)) (Mi.bin modM (callB intB [Mi.bin addM (Mi.bin mulA (Mi.bin ixM (eVar 0) (eC (.int 1))) (eC (.int 48271))) (eC (.int 12345))]) (eC (.int 2147483647))) [some (.r k), some (.t (.int n)), none] st = .nx _ _ := setp1 h (v0 _ _) rfl e3
    generalize hq : (q * 48271 + 12345) % 2147483647 = p at hm hm2 e4
    have h' := set_pool h a p
    have e6 : Mi.bin ixM (eVar 0) (eC (.int 1)) [some (.r k), some (.t (.int n)), none] (st.set k (pool a p)) = .ok (.t (.int p)) (st.set k (pool a p)) := by simp only [Mi.bin, v0, eC, Res.bind_ok, ixp1 h', optR_ok]
    have e7 : Mi.bin modM (callB intB [Mi.bin mulA (Mi.bin ixM (eVar 0) (eC (.int 1))) (Mi.bin ixM (eVar 0) (eC (.int 1)))]) (eC (.int 2147483629)) [some (.r k), some (.t (.int n)), none] (st.set k (pool a p)) = .ok (.t (.int (p * p % 2147483629))) (st.set k (pool a p)) := by
      have z : Mi.bin mulA (Mi.bin ixM (eVar 0) (eC (.int 1))) (Mi.bin ixM (eVar 0) (eC (.int 1))) [some (.r k), some (.t (.int n)), none] (st.set k (pool a p)) = .ok (.t (.int (p * p))) (st.set k (pool a p)) := by
        rw [Mi.bin, e6]
        simp only [Res.bind_ok, e6, mul_int p p (b64 hm (by omega)), optR_ok]
      rw [Mi.bin, callB]
      simp only [argsM, z, Res.bind_ok, int_int, optR_ok, eC, mod_int _ 2147483629 (by decide)]
    have e8 : Mi.bin fdivM (Mi.bin modM (callB intB [Mi.bin mulA (Mi.bin ixM (eVar 0) (eC (.int 1))) (Mi.bin ixM (eVar 0) (eC (.int 1)))]) (eC (.int 2147483629))) (eC (.int 64)) [some (.r k), some (.t (.int n)), none] (st.set k (pool a p)) = .ok (.t (.int (p * p % 2147483629 / 64))) (st.set k (pool a p)) := by
      rw [Mi.bin, e7]
      simp only [Res.bind_ok, eC, div_int _ 64 (by decide) (by decide), optR_ok]
    refine ⟨(p * p % 2147483629 / 64) % n, st.set k (pool a p), ?_, Int.emod_nonneg _ (by omega), Int.emod_lt_of_pos _ n0, ⟨_, _, h', hm, hm2⟩, List.length_set, _, _, rfl⟩
    rw [run, b_law_take, seqM, ifM, e5]
    simp only [Res.out_ok, Bool.false_eq_true, if_false, nxM, Out.seq]
    rw [seqM, e4]
    simp only [Out.seq]
    rw [retM, Mi.bin, callB]
    simp only [argsM, e8, Res.bind_ok, int_int, optR_ok, v1, mod_int _ n n0, Res.out_ok, exitG]
end
end K02
/-! k2Q19 -/
namespace K02
open Mi PySem
theorem mul_intR (i j : Int) (h : -B64 < j ∧ j < B64) (s : Sto) : mulA (.t (.int i)) (.t (.int j)) s = some (.t (.int (i * j))) := by
  unfold mulA mulM
  dsimp only
  rw [if_pos (.inr h)]
  rfl
theorem lt_int (a b : Int) (s : Sto) : ltM (.t (.int a)) (.t (.int b)) s = some (.t (.bl (decide (a < b)))) := rfl
theorem len_scr (ns : List Int) (s : Sto) : lenB [script ns] s = some (.t (.int ns.length)) := by
  show some (iD (((ns.map T.int).map D.t).length)) = _
  rw [List.length_map, List.length_map]
  rfl
theorem ix_scr {ns : List Int} {k : Nat} {c : Int} (h : ns[k]? = some c) (s : Sto) : ixM (script ns) (.t (.int k)) s = some (.t (.int c)) := by
  show L2.atI ((ns.map T.int).map D.t) k = _
  rw [atI_nat, List.getElem?_map, List.getElem?_map, h]
  rfl
theorem pow18 (s : Sto) : powM (.t (.int 10)) (.t (.int 18)) s = some (.t (.int 1000000000000000000)) := by
  unfold powM
  dsimp only
  rw [if_pos ⟨by decide, by decide, by decide⟩]
  have e : (10 : Int) ^ (18 : Int).toNat = 1000000000000000000 := by decide
  rw [e]
  rfl
def pool_tail : Mi.Env → Sto → Out := (seqM (setM 3 (Mi.bin modM (callB intB [Mi.bin mulA (Mi.bin addM (Mi.bin addM (Mi.bin addM (Mi.bin modM (callB intB [eVar 2]) (eC (.int 2147483629))) (Mi.bin mulA (Mi.bin mulA (eC (.int 7919)) (eVar 1)) (eVar 1))) (Mi.bin mulA (eC (.int 31)) (eVar 1))) (eC (.int 17))) (eC (.int 48271))]) (eC (.int 2147483647))))
    (retM (newM [Mi.bin mulA (eVar 2) (callB intB [Mi.bin geM (eVar 2) (Mi.bin powM (eC (.int 10)) (eC (.int 18)))]), Mi.bin modM (callB intB [Mi.bin mulA (eVar 3) (eVar 3)]) (eC (.int 2147483629))])))
theorem pool_end (ns : List Int) (k : Nat) (hk : k ≤ 63) (c : Int) (st : Sto) : ∃ q a, pool_tail [some (script ns), some (.t (.int k)), some (.t (.int c)), none] st = .rt (.r st.length) (st ++ [pool a q]) ∧ 0 ≤ q ∧ q < 2147483647 := by
  have v1 : ∀ x y s, eVar 1 [some (script ns), some (.t (.int k)), x, y] s = .ok (.t (.int k)) s := fun _ _ _ => rfl
  have v2 : ∀ y s, eVar 2 [some (script ns), some (.t (.int k)), some (.t (.int c)), y] s = .ok (.t (.int c)) s := fun _ _ => rfl
  have v3 : ∀ y s, eVar 3 [some (script ns), some (.t (.int k)), some (.t (.int c)), some y] s = .ok y s := fun _ _ => rfl
  have k0 : (0 : Int) ≤ k := by omega
  have k1 : (k : Int) ≤ 63 := by omega
  obtain ⟨P1, p1, a1, a2⟩ : ∃ P, mulA (.t (.int 7919)) (.t (.int k)) st = some (.t (.int P)) ∧ 0 ≤ P ∧ P < 18446744073709551616 := ⟨_, mul_int _ _ (b64 (by decide) (by decide)) st, by omega, by omega⟩
  obtain ⟨P2, p2⟩ : ∃ P, mulA (.t (.int P1)) (.t (.int k)) st = some (.t (.int P)) := ⟨_, mul_int _ _ (b64 a1 a2) st⟩
  obtain ⟨P3, p3⟩ : ∃ P, mulA (.t (.int 31)) (.t (.int k)) st = some (.t (.int P)) := ⟨_, mul_int _ _ (b64 (by decide) (by decide)) st⟩
  obtain ⟨C, pc⟩ : ∃ C, modM (.t (.int c)) (.t (.int 2147483629)) st = some (.t (.int C)) := ⟨_, mod_int _ 2147483629 (by decide) st⟩
  obtain ⟨S1, s1⟩ : ∃ S, addM (.t (.int C)) (.t (.int P2)) st = some (.t (.int S)) := ⟨_, add_int _ _ st⟩
  obtain ⟨S2, s2⟩ : ∃ S, addM (.t (.int S1)) (.t (.int P3)) st = some (.t (.int S)) := ⟨_, add_int _ _ st⟩
  obtain ⟨S3, s3⟩ : ∃ S, addM (.t (.int S2)) (.t (.int 17)) st = some (.t (.int S)) := ⟨_, add_int _ _ st⟩
  obtain ⟨X, p4⟩ : ∃ S, mulA (.t (.int S3)) (.t (.int 48271)) st = some (.t (.int S)) := ⟨_, mul_intR _ _ (b64 (by decide) (by decide)) st⟩
  obtain ⟨M, p8, q0, q1⟩ : ∃ S, modM (.t (.int X)) (.t (.int 2147483647)) st = some (.t (.int S)) ∧ 0 ≤ S ∧ S < 2147483647 := ⟨_, mod_int _ 2147483647 (by decide) st, Int.emod_nonneg _ (by decide), Int.emod_lt_of_pos _ (by decide)⟩
  have e3 : Mi.bin modM (callB intB [Mi.bin mulA (Mi.bin addM (Mi.bin addM (Mi.bin addM (Mi.bin modM (callB intB [eVar 2]) (eC (.int 2147483629))) (Mi.bin mulA (Mi.bin mulA (eC (.int 7919)) (eVar 1)) (eVar 1))) (Mi.bin mulA (eC (.int 31)) (eVar 1))) (eC (.int 17))) (eC (.int 48271))]) (eC (.int 2147483647)) [some (script ns), some (.t (.int k)), some (.t (.int c)), none] st = .ok (.t (.int M)) st := by
    have z0 : callB intB [eVar 2] [some (script ns), some (.t (.int k)), some (.t (.int c)), none] st = .ok (.t (.int c)) st := rfl
    have y1 : Mi.bin mulA (eC (.int 7919)) (eVar 1) [some (script ns), some (.t (.int k)), some (.t (.int c)), none] st = .ok (.t (.int P1)) st := by rw [Mi.bin, eC, Res.bind_ok, v1, Res.bind_ok, p1, optR_ok]
    have y2 : Mi.bin mulA (Mi.bin mulA (eC (.int 7919)) (eVar 1)) (eVar 1) [some (script ns), some (.t (.int k)), some (.t (.int c)), none] st = .ok (.t (.int P2)) st := by rw [Mi.bin, y1, Res.bind_ok, v1, Res.bind_ok, p2, optR_ok]
    have y3 : Mi.bin mulA (eC (.int 31)) (eVar 1) [some (script ns), some (.t (.int k)), some (.t (.int c)), none] st = .ok (.t (.int P3)) st := by rw [Mi.bin, eC, Res.bind_ok, v1, Res.bind_ok, p3, optR_ok]
    have y0 : Mi.bin modM (callB intB [eVar 2]) (eC (.int 2147483629)) [some (script ns), some (.t (.int k)), some (.t (.int c)), none] st = .ok (.t (.int C)) st := by rw [Mi.bin, z0, Res.bind_ok, eC, Res.bind_ok, pc, optR_ok]
    have y4 : Mi.bin addM (Mi.bin modM (callB intB [eVar 2]) (eC (.int 2147483629))) (Mi.bin mulA (Mi.bin mulA (eC (.int 7919)) (eVar 1)) (eVar 1)) [some (script ns), some (.t (.int k)), some (.t (.int c)), none] st = .ok (.t (.int S1)) st := by rw [Mi.bin, y0, Res.bind_ok, y2, Res.bind_ok, s1, optR_ok]
    have y5 : Mi.bin addM (Mi.bin addM (Mi.bin modM (callB intB [eVar 2]) (eC (.int 2147483629))) (Mi.bin mulA (Mi.bin mulA (eC (.int 7919)) (eVar 1)) (eVar 1))) (Mi.bin mulA (eC (.int 31)) (eVar 1)) [some (script ns), some (.t (.int k)), some (.t (.int c)), none] st = .ok (.t (.int S2)) st := by rw [Mi.bin, y4, Res.bind_ok, y3, Res.bind_ok, s2, optR_ok]
    have y6 : Mi.bin addM (Mi.bin addM (Mi.bin addM (Mi.bin modM (callB intB [eVar 2]) (eC (.int 2147483629))) (Mi.bin mulA (Mi.bin mulA (eC (.int 7919)) (eVar 1)) (eVar 1))) (Mi.bin mulA (eC (.int 31)) (eVar 1))) (eC (.int 17)) [some (script ns), some (.t (.int k)), some (.t (.int c)), none] st = .ok (.t (.int S3)) st := by rw [Mi.bin, y5, Res.bind_ok, eC, Res.bind_ok, s3, optR_ok]
    have y7 : Mi.bin mulA (Mi.bin addM (Mi.bin addM (Mi.bin addM (Mi.bin modM (callB intB [eVar 2]) (eC (.int 2147483629))) (Mi.bin mulA (Mi.bin mulA (eC (.int 7919)) (eVar 1)) (eVar 1))) (Mi.bin mulA (eC (.int 31)) (eVar 1))) (eC (.int 17))) (eC (.int 48271)) [some (script ns), some (.t (.int k)), some (.t (.int c)), none] st = .ok (.t (.int X)) st := by rw [Mi.bin, y6, Res.bind_ok, eC, Res.bind_ok, p4, optR_ok]
    rw [Mi.bin, callB]
    simp only [argsM]
    rw [y7]
    simp only [Res.bind_ok, int_int, optR_ok]
    rw [eC, Res.bind_ok, p8, optR_ok]
  have p5 : mulA (.t (.int M)) (.t (.int M)) st = some (.t (.int (M * M))) := mul_int _ _ (b64 q0 (by omega)) st
  have p6 := pow18 st
  have p7 : ∀ b : Bool, ∃ z, Mi.bin mulA (eVar 2) (fun env s => optR (intB [.t (.bl b)] s) s) [some (script ns), some (.t (.int k)), some (.t (.int c)), some (.t (.int M))] st = .ok (.t (.int z)) st := fun b => by
    refine ⟨c * (if b then 1 else 0), ?_⟩
    have z : mulA (.t (.int c)) (.t (.int (if b then 1 else 0))) st = some (.t (.int (c * (if b then 1 else 0)))) := mul_intR _ _ (by cases b <;> exact b64 (by decide) (by decide)) st
    have i : intB [.t (.bl b)] st = some (.t (.int (if b then 1 else 0))) := rfl
    simp only [Mi.bin, v2, Res.bind_ok, i, optR_ok, z]
  obtain ⟨z, hz⟩ := p7 (decide (1000000000000000000 ≤ c))
  have e4 : Mi.bin mulA (eVar 2) (callB intB [Mi.bin geM (eVar 2) (Mi.bin powM (eC (.int 10)) (eC (.int 18)))]) [some (script ns), some (.t (.int k)), some (.t (.int c)), some (.t (.int M))] st = .ok (.t (.int z)) st := by
    rw [← hz]
    simp only [Mi.bin, callB, argsM, v2, eC, Res.bind_ok, optR_ok, p6, ge_int]
  have e5 : Mi.bin modM (callB intB [Mi.bin mulA (eVar 3) (eVar 3)]) (eC (.int 2147483629)) [some (script ns), some (.t (.int k)), some (.t (.int c)), some (.t (.int M))] st = .ok (.t (.int (M * M % 2147483629))) st := by
    simp only [Mi.bin, callB, argsM, v3, eC, Res.bind_ok, optR_ok, p5, int_int, mod_int _ 2147483629 (by decide)]
  have r0 := Int.emod_nonneg (M * M) (show (2147483629 : Int) ≠ 0 by decide)
  have r1 := Int.emod_lt_of_pos (M * M) (show (0 : Int) < 2147483629 by decide)
  refine ⟨M * M % 2147483629, z, ?_, r0, by omega⟩
  rw [pool_tail, seqM, setM, e3]
  simp only [Res.out_ok, Out.seq, List.set]
  rw [retM, newM]
  simp only [argsM, e4, e5, Res.bind_ok, Res.out_ok]
  rfl
theorem seq_nx (e : Mi.Env) (s : Sto) (k : Mi.Env → Sto → Out) : (Out.nx e s).seq k = k e s := rfl
theorem v_pool (ns : List Int) (k : Nat) (hk : k ≤ 63) (st : Sto) : ∃ st', m_law_pool [script ns, .t (.int k)] st = .ok (.r st.length) st' ∧ PoolAt st' st.length ∧ st'.length = st.length + 1 ∧ ∃ a q, st' = st ++ [pool a q] := by
  have run : m_law_pool [script ns, .t (.int k)] st = exitG (seqM (setM 2 (eC (.int 0))) (seqM (ifM (fun env st => blOf (Mi.bin ltM (eVar 1) (callB lenB [eVar 0]) env st)) (setM 2 (callB absB [Mi.bin ixM (eVar 0) (eVar 1)])) (nxM)) pool_tail) [some (script ns), some (.t (.int k)), none, none] st) := rfl
  have v0 : ∀ x y s, eVar 0 [some (script ns), some (.t (.int k)), x, y] s = .ok (script ns) s := fun _ _ _ => rfl
  have v1 : ∀ x y s, eVar 1 [some (script ns), some (.t (.int k)), x, y] s = .ok (.t (.int k)) s := fun _ _ _ => rfl
  have new : ∀ q a : Int, 0 ≤ q → q < 2147483647 → PoolAt (st ++ [pool a q]) st.length ∧ (st ++ [pool a q]).length = st.length + 1 := fun q a h0 h1 => ⟨⟨a, q, by rw [List.getElem?_append_right (Nat.le_refl _), Nat.sub_self]; rfl, h0, h1⟩, by rw [List.length_append]; rfl⟩
  have t1 : setM 2 (eC (.int 0)) [some (script ns), some (.t (.int k)), none, none] st = .nx [some (script ns), some (.t (.int k)), some (.t (.int 0)), none] st := rfl
  have w : ∃ c, ifM (fun env st => blOf (Mi.bin ltM (eVar 1) (callB lenB [eVar 0]) env st)) (setM 2 (callB absB [Mi.bin ixM (eVar 0) (eVar 1)])) (nxM) [some (script ns), some (.t (.int k)), some (.t (.int 0)), none] st = .nx [some (script ns), some (.t (.int k)), some (.t (.int c)), none] st := by
    have e0 : Mi.bin ltM (eVar 1) (callB lenB [eVar 0]) [some (script ns), some (.t (.int k)), some (.t (.int 0)), none] st = .ok (.t (.bl (decide ((k : Int) < ns.length)))) st := by
      rw [Mi.bin, v1, Res.bind_ok, callB]
      simp only [argsM, v0, Res.bind_ok, len_scr, optR_ok, lt_int]
    by_cases c : k < ns.length
    · have hc : ns[k]? = some ns[k] := List.getElem?_eq_getElem c
      refine ⟨if ns[k] < 0 then -ns[k] else ns[k], ?_⟩
      have e1 : callB absB [Mi.bin ixM (eVar 0) (eVar 1)] [some (script ns), some (.t (.int k)), some (.t (.int 0)), none] st = .ok (.t (.int (if ns[k] < 0 then -ns[k] else ns[k]))) st := by
        rw [callB]
        simp only [argsM, Mi.bin, v0, v1, Res.bind_ok, ix_scr hc, optR_ok]
        rfl
      have d : decide ((k : Int) < ns.length) = true := decide_eq_true (by omega)
      rw [d] at e0
      rw [ifM, e0]
      show (if true = true then setM 2 (callB absB [Mi.bin ixM (eVar 0) (eVar 1)]) [some (script ns), some (.t (.int k)), some (.t (.int 0)), none] st else nxM [some (script ns), some (.t (.int k)), some (.t (.int 0)), none] st) = _
      rw [if_pos rfl, setM, e1]
      rfl
    · refine ⟨0, ?_⟩
      have d : decide ((k : Int) < ns.length) = false := decide_eq_false (by omega)
      rw [d] at e0
      rw [ifM, e0]
      rfl
  obtain ⟨c, t2⟩ := w
  obtain ⟨q, a, e, h0, h1⟩ := pool_end ns k hk c st
  obtain ⟨n1, n2⟩ := new q a h0 h1
  refine ⟨_, ?_, n1, n2, _, _, rfl⟩
  rw [run, seqM, t1, seq_nx, seqM, t2, seq_nx, e]
  rfl
end K02
/-! Tx -/
namespace Mi
open PySem PySem.Spec PyProof.Rows L2 RZ StrLaws Builtin.Str
/-! ### lists of codes, cut at a sign -/
def sp (c : Nat) : List Nat → List (List Nat)
  | [] => [[]]
  | x :: r => if x = c then [] :: sp c r else match sp c r with
    | [] => [[x]]
    | p :: ps => (x :: p) :: ps
theorem sp_ne (c : Nat) : ∀ l : List Nat, ∃ p ps, sp c l = p :: ps
  | [] => ⟨_, _, rfl⟩
  | x :: r => by
    unfold sp
    split
    · exact ⟨_, _, rfl⟩
    · obtain ⟨p, ps, e⟩ := sp_ne c r
      rw [e]
      exact ⟨_, _, rfl⟩
theorem sp_free {c : Nat} : ∀ {w : List Nat}, c ∉ w → sp c w = [w]
  | [], _ => rfl
  | x :: r, h => by
    have h1 : ¬ x = c := fun e => h (by rw [e]; exact List.mem_cons_self)
    have h2 := sp_free (w := r) fun e => h (List.mem_cons_of_mem _ e)
    unfold sp
    rw [if_neg h1, h2]
theorem sp_cut (c : Nat) : ∀ u r : List Nat, sp c (u ++ c :: r) = sp c u ++ sp c r
  | [], r => by
    show sp c (c :: r) = _
    simp [sp]
  | x :: u, r => by
    have ih := sp_cut c u r
    show sp c (x :: (u ++ c :: r)) = _
    obtain ⟨p, ps, e⟩ := sp_ne c u
    rw [sp, ih, sp, e]
    by_cases hx : x = c
    · rw [if_pos hx, if_pos hx]
      rfl
    · rw [if_neg hx, if_neg hx]
      rfl
theorem cat_l (a b : Str) : (a ++ b).cps.toList = a.cps.toList ++ b.cps.toList := by
  show (a.cps ++ b.cps).toList = _
  rw [Array.toList_append]
theorem sp_join (c : Nat) : ∀ ps : List Str, ps ≠ [] → (∀ p ∈ ps, c ∉ p.cps.toList) → sp c (Str.join ⟨#[c]⟩ ps).cps.toList = ps.map (·.cps.toList)
  | [], h, _ => absurd rfl h
  | [p], _, h => sp_free (h p List.mem_cons_self)
  | p :: q :: r, _, h => by
    show sp c (p ++ ⟨#[c]⟩ ++ Str.join ⟨#[c]⟩ (q :: r)).cps.toList = _
    rw [cat_l, cat_l, List.append_assoc]
    show sp c (p.cps.toList ++ c :: (Str.join ⟨#[c]⟩ (q :: r)).cps.toList) = _
    rw [sp_cut, sp_free (h p List.mem_cons_self), sp_join c (q :: r) (by simp) fun z hz => h z (List.mem_cons_of_mem _ hz)]
    rfl
theorem split_ne (x y : Str) : Txt.split x y ≠ [] := by
  unfold Txt.split
  split
  · simp
  · split
    · simp
    · intro e
      have l := length_partsBetween x (Builtin.Str.occurrences x y 0 x.length (x.length + 1)) y.length
      rw [e] at l
      simp at l
theorem split_sp (x : Str) (c : Nat) : (Txt.split x ⟨#[c]⟩).map (·.cps.toList) = sp c x.cps.toList := by
  rw [← sp_join c _ (split_ne x _) (split_free x c), join_split]
/-! ### words that stand between two quotes -/
inductive Hw (w : List Nat) : List Nat → Nat → Prop where
  | z (l : List Nat) : Hw w l 0
  | s (u r : List Nat) (k : Nat) (h : Hw w r k) : Hw w (u ++ 39 :: (w ++ 39 :: r)) (k + 1)
theorem Hw.pre {w : List Nat} (a : List Nat) {b : List Nat} {m : Nat} (h : Hw w b m) : Hw w (a ++ b) m := by
  cases h with
  | z => exact .z _
  | s u r k h =>
    rw [← List.append_assoc]
    exact .s _ _ _ h
theorem Hw.app {w : List Nat} {a b : List Nat} {k m : Nat} (h : Hw w a k) (g : Hw w b m) : Hw w (a ++ b) (k + m) := by
  induction h with
  | z l => rw [Nat.zero_add]; exact g.pre l
  | s u r k h ih =>
    have e : (u ++ 39 :: (w ++ 39 :: r)) ++ b = u ++ 39 :: (w ++ 39 :: (r ++ b)) := by simp
    rw [e, show k + 1 + m = (k + m) + 1 by omega]
    exact .s _ _ _ ih
theorem Hw.count {w : List Nat} (hw : 39 ∉ w) {l : List Nat} {k : Nat} (h : Hw w l k) : k ≤ (sp 39 l).countP (fun p => decide (p = w)) := by
  induction h with
  | z l => exact Nat.zero_le _
  | s u r k h ih =>
    rw [sp_cut, sp_cut, sp_free hw, List.countP_append, List.countP_append, List.countP_cons, List.countP_nil, decide_eq_true rfl, if_pos rfl]
    omega
theorem Hw.le {w l : List Nat} {k m : Nat} (h : Hw w l k) (e : m = k) : Hw w l m := e ▸ h
/-! ### brackets before a quote -/
inductive Hq : List Nat → Nat → Prop where
  | z (l : List Nat) : Hq l 0
  | s (u r : List Nat) (k : Nat) (h : Hq r k) : Hq (u ++ 40 :: 39 :: r) (k + 1)
theorem Hq.pre (a : List Nat) {b : List Nat} {m : Nat} (h : Hq b m) : Hq (a ++ b) m := by
  cases h with
  | z => exact .z _
  | s u r k h =>
    rw [← List.append_assoc]
    exact .s _ _ _ h
theorem Hq.app {a b : List Nat} {k m : Nat} (h : Hq a k) (g : Hq b m) : Hq (a ++ b) (k + m) := by
  induction h with
  | z l => rw [Nat.zero_add]; exact g.pre l
  | s u r k h ih =>
    have e : (u ++ 40 :: 39 :: r) ++ b = u ++ 40 :: 39 :: (r ++ b) := by simp
    rw [e, show k + 1 + m = (k + m) + 1 by omega]
    exact .s _ _ _ ih
def cq : List Nat → Nat
  | [] => 0
  | x :: r => (if x = 40 ∧ r.head? = some 39 then 1 else 0) + cq r
theorem cq_pre : ∀ u r : List Nat, cq r ≤ cq (u ++ r)
  | [], r => Nat.le_refl _
  | x :: u, r => by
    have := cq_pre u r
    show _ ≤ (if x = 40 ∧ (u ++ r).head? = some 39 then 1 else 0) + cq (u ++ r)
    omega
theorem Hq.count {l : List Nat} {k : Nat} (h : Hq l k) : k ≤ cq l := by
  induction h with
  | z l => exact Nat.zero_le _
  | s u r k h ih =>
    refine Nat.le_trans ?_ (cq_pre u _)
    show k + 1 ≤ (if (40 : Nat) = 40 ∧ (39 :: r).head? = some 39 then 1 else 0) + ((if (39 : Nat) = 40 ∧ r.head? = some 39 then 1 else 0) + cq r)
    rw [if_pos ⟨rfl, rfl⟩]
    omega
def yq : Str := ⟨#[40, 39]⟩
theorem at_q (x : Str) (k : Nat) : At x yq x.length k ↔ x.cps.toList[k]? = some 40 ∧ x.cps.toList[k + 1]? = some 39 := by
  unfold At
  rw [subAt_eq]
  have hl : x.cps.toList.length = x.length := by simp [Str.length]
  show k + 2 ≤ x.length ∧ ((x.cps.toList.drop k).take 2 == [40, 39]) = true ↔ _
  generalize x.cps.toList = L at hl
  rw [beq_iff_eq]
  constructor
  · rintro ⟨h1, h2⟩
    have e : ∀ i, i < 2 → L[k + i]? = ([40, 39] : List Nat)[i]? := fun i hi => by
      rw [← h2, List.getElem?_take_of_lt hi, List.getElem?_drop]
    exact ⟨e 0 (by decide), e 1 (by decide)⟩
  · rintro ⟨h1, h2⟩
    have l2 := (List.getElem?_eq_some_iff.mp h2).1
    refine ⟨by omega, List.ext_getElem? fun i => ?_⟩
    match i with
    | 0 => rw [List.getElem?_take_of_lt (by decide), List.getElem?_drop]; exact h1
    | 1 => rw [List.getElem?_take_of_lt (by decide), List.getElem?_drop]; exact h2
    | i + 2 => rw [List.getElem?_eq_none (by rw [List.length_take]; omega)]; rfl
theorem cq_no {L : List Nat} {a : Nat} (h : ¬ (L[a]? = some 40 ∧ L[a + 1]? = some 39)) : cq (L.drop a) = cq (L.drop (a + 1)) := by
  by_cases hl : a < L.length
  · rw [List.drop_eq_getElem_cons hl]
    show (if L[a] = 40 ∧ (L.drop (a + 1)).head? = some 39 then 1 else 0) + cq (L.drop (a + 1)) = _
    rw [if_neg, Nat.zero_add]
    rintro ⟨h1, h2⟩
    refine h ⟨by rw [List.getElem?_eq_getElem hl, h1], ?_⟩
    rw [List.head?_drop] at h2
    exact h2
  · rw [List.drop_eq_nil_of_le (by omega), List.drop_eq_nil_of_le (by omega)]
theorem cq_skip {x : Str} {a : Nat} : ∀ (n : Nat), (∀ k, a ≤ k → k < a + n → ¬ At x yq x.length k) → cq (x.cps.toList.drop a) = cq (x.cps.toList.drop (a + n))
  | 0, _ => rfl
  | n + 1, h => by
    rw [cq_skip n fun k h1 h2 => h k h1 (by omega)]
    exact cq_no (a := a + n) (fun z => h (a + n) (by omega) (by omega) ((at_q x _).mpr z))
theorem cq_at {x : Str} {c : Nat} (h : At x yq x.length c) : cq (x.cps.toList.drop c) = 1 + cq (x.cps.toList.drop (c + 2)) := by
  obtain ⟨h1, h2⟩ := (at_q x c).mp h
  obtain ⟨l1, e1⟩ := List.getElem?_eq_some_iff.mp h1
  rw [List.drop_eq_getElem_cons l1]
  show (if x.cps.toList[c] = 40 ∧ (x.cps.toList.drop (c + 1)).head? = some 39 then 1 else 0) + cq (x.cps.toList.drop (c + 1)) = _
  rw [if_pos ⟨e1, by rw [List.head?_drop]; exact h2⟩, cq_no (a := c + 1)]
  rintro ⟨z, _⟩
  rw [h2] at z
  cases z
theorem cq_none {x : Str} {a : Nat} (h : ∀ k, a ≤ k → ¬ At x yq x.length k) : cq (x.cps.toList.drop a) = 0 := by
  rw [cq_skip (a := a) x.length fun k h1 _ => h k h1, List.drop_eq_nil_of_le (by simp [Str.length])]
  rfl
theorem cq_chain {x : Str} : ∀ (cuts : List Nat) (a f : Nat), ChainG x yq x.length a cuts f → (∀ k, f ≤ k → ¬ At x yq x.length k) → cq (x.cps.toList.drop a) ≤ cuts.length
  | [], a, f, h, hn => by
    have e : f = a := h
    subst e
    rw [cq_none hn]
    exact Nat.le_refl _
  | c :: r, a, f, h, hn => by
    have e := cq_skip (x := x) (a := a) (c - a) fun k h1 h2 => h.2.2.1 k h1 (by have := h.1; omega)
    rw [show a + (c - a) = c by have := h.1; omega] at e
    rw [e, cq_at h.2.1, List.length_cons]
    have := cq_chain r _ f h.2.2.2 hn
    have l : yq.length = 2 := rfl
    rw [l] at this
    omega
theorem split_q {x : Str} {k : Nat} (h : Hq x.cps.toList k) : k + 1 ≤ (Txt.split x yq).length := by
  obtain ⟨f, hG, hn⟩ := occ_tight x yq (by decide)
  have b := cq_chain _ 0 f hG hn
  rw [List.drop_zero] at b
  have c := h.count
  unfold Txt.split
  split
  · rename_i hc
    (rw [Bool.or_eq_true, decide_eq_true_eq, decide_eq_true_eq] at hc)
    have hx : x.length < 2 := by
      rcases hc with h | h
      · exact h
      · exfalso
        have e : Builtin.Str.strKind yq = 1 := by decide +kernel
        rw [e] at h
        unfold Builtin.Str.strKind at h
        split at h
        · omega
        · split at h <;> omega
    cases e : Builtin.Str.occurrences x yq 0 x.length (x.length + 1) with
    | nil =>
      rw [e] at b
      show k + 1 ≤ 1
      simp at b
      omega
    | cons a r =>
      rw [e] at hG
      have := hG.2.1.1
      have l : yq.length = 2 := rfl
      omega
  · split
    · rename_i he
      rw [List.isEmpty_iff.mp he] at b
      show k + 1 ≤ 1
      simp at b
      omega
    · rw [length_partsBetween]
      omega
end Mi
/-! Tq -/
namespace Mi
open PySem PySem.Spec PyProof.Rows L2 RZ StrLaws
/-! ### trees of tuples, small numbers and words, and how they are shown -/
def okS (w : Str) : Bool := decide ((reprText w).cps.toList = 39 :: (w.cps.toList ++ [39])) && (w.cps.toList.all fun c => decide (c < 128) && !decide (c = 39))
mutual
def tq : Nat → T → Bool
  | _, .int i => decide (0 ≤ i) && decide (i < 100)
  | _, .str x => okS x
  | n + 1, .tup ts => tqs n ts
  | _, _ => false
def tqs : Nat → List T → Bool
  | _, [] => true
  | n, t :: r => tq n t && tqs n r
end
mutual
def wt : T → Nat
  | .str x => x.cps.size
  | .int _ => 7
  | .tup ts => wts ts
  | _ => 0
def wts : List T → Nat
  | [] => 0
  | t :: r => wt t + 1 + wts r
end
def hd1 : List T → Nat
  | .str _ :: _ => 1
  | _ => 0
def hdW (w : Str) : List T → Nat
  | .str u :: _ => if u = w then 1 else 0
  | _ => 0
mutual
/-- how many tuples begin with a word; with this word -/
def nS : T → Nat
  | .tup ts => hd1 ts + nSs ts
  | _ => 0
def nSs : List T → Nat
  | [] => 0
  | t :: r => nS t + nSs r
end
mutual
def nW (w : Str) : T → Nat
  | .tup ts => hdW w ts + nWs w ts
  | _ => 0
def nWs (w : Str) : List T → Nat
  | [] => 0
  | t :: r => nW w t + nWs w r
end
def cl (x : Str) : List Nat := x.cps.toList
theorem tqs_mem : ∀ {n : Nat} {ts : List T}, tqs n ts = true → ∀ t ∈ ts, tq n t = true
  | n, t :: r, h, x, hx => by
    unfold tqs at h
    rw [Bool.and_eq_true] at h
    rcases List.mem_cons.mp hx with e | e
    · rw [e]; exact h.1
    · exact tqs_mem h.2 x e
theorem tqs_of : ∀ {n : Nat} {ts : List T}, (∀ t ∈ ts, tq n t = true) → tqs n ts = true
  | n, [], _ => by unfold tqs; rfl
  | n, t :: r, h => by
    unfold tqs
    rw [h t List.mem_cons_self, tqs_of fun x hx => h x (List.mem_cons_of_mem _ hx)]
    rfl
theorem int_len : ∀ i : Fin 100, (PyData.shown (.int (i : Nat))).length ≤ 8 ∧ PyData.showable (.int (i : Nat)) = true ∧ PyData.weight (.int (i : Nat)) ≤ 7 := by decide +kernel
/-- what is known of a shown tree -/
structure TF (n : Nat) (t : T) (p : PyData) : Prop where
  py : pyT t = some p
  sh : p.showable = true
  nd : p.hasDict = false
  dp : p.depth ≤ n
  lf : p.leavesShort 8 = true
  w : p.weight ≤ wt t
  q : Hq (cl p.shown) (nS t)
  qw : ∀ w : Str, Hw (cl w) (cl p.shown) (nW w t)
  hs : ∀ u, t = .str u → cl p.shown = 39 :: (cl u ++ [39])
structure TFs (n : Nat) (ts : List T) (ps : List PyData) : Prop where
  py : pyTs ts = some ps
  sh : PyData.showableAll ps = true
  nd : PyData.hasDictAll ps = false
  dp : PyData.depthAll ps ≤ n
  lf : PyData.leavesShortAll 8 ps = true
  w : PyData.weightAll ps ≤ wts ts
  q : Hq (cl (Str.join ", " (PyData.shownAll ps))) (nSs ts)
  qw : ∀ w : Str, Hw (cl w) (cl (Str.join ", " (PyData.shownAll ps))) (nWs w ts)
  hs : ∀ u r, ts = .str u :: r → ∃ z, cl (Str.join ", " (PyData.shownAll ps)) = 39 :: (cl u ++ 39 :: z) ∧ Hq z (nSs r) ∧ ∀ w : Str, Hw (cl w) z (nWs w r)
theorem clcat (a b : Str) : cl (a ++ b) = cl a ++ cl b := cat_l a b
theorem tq_int {i : Int} {n : Nat} (h : tq n (.int i) = true) : ∃ k : Fin 100, i = ((k : Nat) : Int) := by
  unfold tq at h
  (rw [Bool.and_eq_true, decide_eq_true_eq, decide_eq_true_eq] at h)
  exact ⟨⟨i.toNat, by omega⟩, by show i = ((i.toNat : Nat) : Int); omega⟩
mutual
theorem tq_py : ∀ (n : Nat) (t : T), tq n t = true → ∃ p, TF n t p
  | n, .int i, h => by
    obtain ⟨k, rfl⟩ := tq_int h
    obtain ⟨h1, h2, h3⟩ := int_len k
    refine ⟨.int ((k : Nat) : Int), rfl, h2, by simp only [PyData.hasDict], Nat.zero_le _, ?_, h3, .z _, fun _ => .z _, fun u e => by cases e⟩
    simp only [PyData.leavesShort, decide_eq_true_eq]
    exact h1
  | n, .str x, h => by
    unfold tq okS at h
    (rw [Bool.and_eq_true, decide_eq_true_eq] at h)
    obtain ⟨h1, h2⟩ := h
    refine ⟨.str x, rfl, by simp only [PyData.showable], by simp only [PyData.hasDict], Nat.zero_le _, ?_, ?_, .z _, fun _ => .z _, fun u e => ?_⟩
    · simp only [PyData.leavesShort]
      rw [List.all_eq_true] at h2 ⊢
      intro c hc
      have := h2 c hc
      rw [Bool.and_eq_true, decide_eq_true_eq] at this
      exact (decide_eq_true (by omega))
    · simp only [PyData.weight]
      exact Nat.le_refl _
    · cases e
      show (PyData.shown (.str x)).cps.toList = _
      simp only [PyData.shown]
      exact h1
  | n + 1, .tup ts, h => by
    unfold tq at h
    obtain ⟨ps, F⟩ := tqs_py n ts h
    have sh : cl (PyData.shown (.tuple ps)) = 40 :: (cl (Str.join ", " (PyData.shownAll ps)) ++ cl (if (PyData.shownAll ps).length == 1 then ",)" else ")" : String)) := by
      simp only [PyData.shown, tupleText, clcat]
      rfl
    refine ⟨.tuple ps, ?_, ?_, ?_, ?_, ?_, ?_, ?_, fun w => ?_, fun u e => by cases e⟩
    · show (pyTs ts).map PyData.tuple = _
      rw [F.py]; rfl
    · simp only [PyData.showable]; exact F.sh
    · simp only [PyData.hasDict]; exact F.nd
    · exact Nat.succ_le_succ F.dp
    · simp only [PyData.leavesShort]; exact F.lf
    · simp only [PyData.weight]; exact F.w
    · rw [sh]
      generalize cl (if (PyData.shownAll ps).length == 1 then ",)" else ")" : String) = tl
      have g : Hq (40 :: (cl (Str.join ", " (PyData.shownAll ps)) ++ tl)) (nSs ts) := (F.q.app (.z tl)).pre [40]
      cases ts with
      | nil => exact g
      | cons a r =>
        cases a with
        | str u =>
          obtain ⟨z, e, hq, _⟩ := F.hs u r rfl
          rw [e]
          have e2 : 40 :: (39 :: (cl u ++ 39 :: z) ++ tl) = [] ++ 40 :: 39 :: ((cl u ++ [39]) ++ (z ++ tl)) := by simp
          rw [e2]
          show Hq _ (1 + (0 + nSs r))
          rw [Nat.zero_add, Nat.add_comm]
          exact .s _ _ _ (Hq.pre _ (hq.app (.z tl)))
        | _ => exact (by show Hq _ (0 + _); rw [Nat.zero_add]; exact g)
    · rw [sh]
      generalize cl (if (PyData.shownAll ps).length == 1 then ",)" else ")" : String) = tl
      have g : Hw (cl w) (40 :: (cl (Str.join ", " (PyData.shownAll ps)) ++ tl)) (nWs w ts) := ((F.qw w).app (.z tl)).pre [40]
      cases ts with
      | nil => exact g
      | cons a r =>
        cases a with
        | str u =>
          by_cases hu : u = w
          · subst hu
            obtain ⟨z, e, _, hw⟩ := F.hs u r rfl
            rw [e]
            have e2 : 40 :: (39 :: (cl u ++ 39 :: z) ++ tl) = [40] ++ 39 :: (cl u ++ 39 :: (z ++ tl)) := by simp
            rw [e2]
            show Hw _ _ ((if u = u then 1 else 0) + (0 + nWs u r))
            rw [if_pos rfl, Nat.zero_add, Nat.add_comm]
            exact .s _ _ _ ((hw u).app (.z tl))
          · show Hw _ _ ((if u = w then 1 else 0) + _)
            rw [if_neg hu, Nat.zero_add]
            exact g
        | _ => exact (by show Hw _ _ (0 + _); rw [Nat.zero_add]; exact g)
  | 0, .tup ts, h => by simp [tq] at h
  | n, .non, h => by cases n <;> simp [tq] at h
  | n, .bl _, h => by cases n <;> simp [tq] at h
  | n, .lst _, h => by cases n <;> simp [tq] at h
  | n, .scr _, h => by cases n <;> simp [tq] at h
  | n, .glb _, h => by cases n <;> simp [tq] at h
  | n, .ty _, h => by cases n <;> simp [tq] at h
theorem tqs_py : ∀ (n : Nat) (ts : List T), tqs n ts = true → ∃ ps, TFs n ts ps
  | n, [], _ => ⟨[], rfl, by simp only [PyData.showableAll], by simp only [PyData.hasDictAll], Nat.zero_le _, by simp only [PyData.leavesShortAll], by simp only [PyData.weightAll]; exact Nat.zero_le _, .z _, fun _ => .z _, fun u r e => by cases e⟩
  | n, t :: r, h => by
    unfold tqs at h
    rw [Bool.and_eq_true] at h
    obtain ⟨p, F⟩ := tq_py n t h.1
    obtain ⟨ps, G⟩ := tqs_py n r h.2
    have jn : ∃ s, cl (Str.join ", " (PyData.shownAll (p :: ps))) = cl p.shown ++ (s ++ (if ps.length = 0 then [] else cl (Str.join ", " (PyData.shownAll ps)))) ∧ (ps.length = 0 → r = []) := by
      cases ps with
      | nil =>
        refine ⟨[], ?_, fun _ => ?_⟩
        · simp only [PyData.shownAll, Str.join, List.length_nil, if_true, List.append_nil]
        · cases r with
          | nil => rfl
          | cons a b =>
            exfalso
            have e := G.py
            simp only [pyTs] at e
            cases q : pyT a with
            | none => (rw [q] at e; cases e)
            | some x =>
              rw [q] at e
              cases q2 : pyTs b with
              | none => rw [q2] at e; cases e
              | some y => rw [q2] at e; cases e
      | cons a b =>
        refine ⟨cl ", ", ?_, fun e => by simp at e⟩
        simp only [PyData.shownAll, Str.join, List.length_cons]
        rw [clcat, clcat, List.append_assoc]
        rfl
    obtain ⟨s, ej, hnil⟩ := jn
    have gq : Hq (s ++ (if ps.length = 0 then [] else cl (Str.join ", " (PyData.shownAll ps)))) (nSs r) := by
      by_cases c : ps.length = 0
      · rw [hnil c]; exact .z _
      · rw [if_neg c]; exact G.q.pre s
    have gw : ∀ w : Str, Hw (cl w) (s ++ (if ps.length = 0 then [] else cl (Str.join ", " (PyData.shownAll ps)))) (nWs w r) := fun w => by
      by_cases c : ps.length = 0
      · rw [hnil c]; exact .z _
      · rw [if_neg c]; exact (G.qw w).pre s
    refine ⟨p :: ps, ?_, ?_, ?_, ?_, ?_, ?_, ?_, fun w => ?_, fun u r' e => ?_⟩
    · show (pyT t).bind (fun p => (pyTs r).map (p :: ·)) = _
      rw [F.py, G.py]; rfl
    · simp only [PyData.showableAll, F.sh, G.sh, Bool.and_self]
    · simp only [PyData.hasDictAll, F.nd, G.nd, Bool.or_self]
    · simp only [PyData.depthAll]
      exact Nat.max_le.mpr ⟨F.dp, G.dp⟩
    · simp only [PyData.leavesShortAll, F.lf, G.lf, Bool.and_self]
    · simp only [PyData.weightAll, wts]
      have := F.w
      have := G.w
      omega
    · rw [ej]
      exact F.q.app gq
    · rw [ej]
      exact (F.qw w).app (gw w)
    · cases e
      rw [ej, F.hs u rfl]
      exact ⟨_, by simp, gq, gw⟩
end
theorem str_tree {n : Nat} {ts : List T} (h : tq n (.tup ts) = true) (hn : n ≤ 60) (hw : 10 * wts ts + 8 ≤ LIM) (st : Sto) :
    ∃ s : Str, strB [.t (.tup ts)] st = some (.t (.str s)) ∧ s.length ≤ 10 * wts ts + 8 ∧ Hq (cl s) (nS (.tup ts)) ∧ ∀ w : Str, Hw (cl w) (cl s) (nW w (.tup ts)) := by
  obtain ⟨p, F⟩ := tq_py n _ h
  have l := PyData.shown_le 8 (Nat.le_refl _) p F.lf
  have w := F.w
  have w2 : p.weight ≤ wts ts := by unfold wt at w; exact w
  have hl : p.shown.length ≤ 10 * wts ts + 8 := by omega
  refine ⟨p.shown, ?_, hl, F.q, F.qw⟩
  show (pyT (.tup ts)).bind showB = _
  rw [F.py]
  show (if p.showable = true ∧ p.hasDict = false ∧ p.depth ≤ 60 ∧ p.shown.length ≤ LIM then some (sD p.shown) else none) = _
  rw [if_pos ⟨F.sh, F.nd, Nat.le_trans F.dp hn, Nat.le_trans hl hw⟩]
  rfl
/-- the words of a shown tree -/
theorem words_len {s : Str} {k : Nat} (h : Hq (cl s) k) : k + 1 ≤ (Txt.split s "('").length := by
  have e : (Str.ofString "('") = yq := by decide +kernel
  rw [e]
  exact split_q h
theorem words_cnt {s w : Str} {k : Nat} (hw : 39 ∉ cl w) (h : Hw (cl w) (cl s) k) : k ≤ (Txt.split s "'").countP (fun p => decide (p = w)) := by
  have e : (Str.ofString "'") = ⟨#[39]⟩ := by decide +kernel
  rw [e]
  have c := h.count hw
  unfold cl at c
  rw [← split_sp, List.countP_map] at c
  refine Nat.le_trans c (Nat.le_of_eq ?_)
  congr 1
  funext p
  show decide (p.cps.toList = w.cps.toList) = decide (p = w)
  by_cases q : p = w
  · rw [decide_eq_true q, q, decide_eq_true rfl]
  · rw [decide_eq_false q, decide_eq_false]
    intro z
    exact q (by
      cases p; cases w
      simp only [Str.mk.injEq]
      exact Array.toList_inj.mp z)
end Mi
/-! Okc -/
namespace Mi
open PySem PySem.Spec PyProof.Rows L2 RZ
/-! ### what is known of a result -/
def Res.Is {α : Type} (r : Res α) (A : α → Sto → Prop) : Prop := match r with
  | .ok a s => A a s
  | _ => False
def Out.Is (o : Out) (N : Env → Sto → Prop) (B : D → Sto → Prop) : Prop := match o with
  | .nx e s => N e s
  | .rt d s => B d s
  | _ => False
theorem Res.Is.imp {α : Type} {r : Res α} {A B : α → Sto → Prop} (h : r.Is A) (f : ∀ a s, A a s → B a s) : r.Is B := by
  cases r with
  | ok a s => exact f a s h
  | exc C fs s => exact h
  | bad => exact h
theorem Res.Is.get {α : Type} {r : Res α} {A : α → Sto → Prop} (h : r.Is A) : ∃ a s, r = .ok a s ∧ A a s := by
  cases r with
  | ok a s => exact ⟨a, s, rfl, h⟩
  | exc C fs s => exact h.elim
  | bad => exact h.elim
theorem Res.is_of {α : Type} {r : Res α} {A : α → Sto → Prop} {a : α} {s : Sto} (e : r = .ok a s) (h : A a s) : r.Is A := by
  rw [e]; exact h
theorem Out.Is.imp {o : Out} {N N' : Env → Sto → Prop} {B B' : D → Sto → Prop} (h : o.Is N B) (f : ∀ e s, N e s → N' e s) (g : ∀ d s, B d s → B' d s) : o.Is N' B' := by
  cases o with
  | nx e s => exact f e s h
  | rt d s => exact g d s h
  | _ => exact h
theorem Out.is_of {o o' : Out} {N : Env → Sto → Prop} {B : D → Sto → Prop} (e : o = o') (h : o'.Is N B) : o.Is N B := by
  rw [e]; exact h
section
variable {env : Env} {st : Sto} {fa fb f : Env → Sto → Res D} {fs : List (Env → Sto → Res D)} {B : D → Sto → Prop} {N : Env → Sto → Prop}
theorem is_bind {α β : Type} {r : Res α} {k : α → Sto → Res β} {B : β → Sto → Prop} (h : r.Is fun a s => (k a s).Is B) : (r.bind k).Is B := by
  cases r with
  | ok a s => exact h
  | exc C fs s => exact h
  | bad => exact h
theorem is_out {α : Type} {r : Res α} {k : α → Sto → Out} (h : r.Is fun a s => (k a s).Is N B) : (r.out env k).Is N B := by
  cases r with
  | ok a s => exact h
  | exc C fs s => exact h
  | bad => exact h
theorem is_opt {α : Type} {o : Option α} {A : α → Sto → Prop} (h : ∃ z, o = some z ∧ A z st) : (optR o st).Is A := by
  obtain ⟨z, e, q⟩ := h
  rw [e]; exact q
theorem is_optS {o : Option (D × Sto)} (h : ∃ z, o = some z ∧ B z.1 z.2) : (optS o).Is B := by
  obtain ⟨z, e, q⟩ := h
  rw [e]; exact q
theorem is_bin {g : D → D → Sto → Option D} (h : (fa env st).Is fun x s => (fb env s).Is fun y s2 => ∃ z, g x y s2 = some z ∧ B z s2) : (Mi.bin g fa fb env st).Is B :=
  is_bind (h.imp fun _ _ h => is_bind (h.imp fun _ _ h => is_opt h))
theorem is_un {g : D → Sto → Option D} (h : (fa env st).Is fun x s => ∃ z, g x s = some z ∧ B z s) : (Mi.un g fa env st).Is B :=
  is_bind (h.imp fun _ _ h => is_opt h)
theorem is_var {i : Nat} {d : D} (e : env[i]? = some (some d)) (h : B d st) : (eVar i env st).Is B := by
  unfold eVar; rw [e]; exact h
theorem is_C {t : T} (h : B (.t t) st) : (eC t env st).Is B := h
theorem is_nil {A : List D → Sto → Prop} (h : A [] st) : (argsM [] env st).Is A := h
theorem is_cons {A : List D → Sto → Prop} (h : (f env st).Is fun d s => (argsM fs env s).Is fun ds s2 => A (d :: ds) s2) : (argsM (f :: fs) env st).Is A :=
  is_bind (h.imp fun _ _ h => is_bind h)
theorem is_tup (h : (argsM fs env st).Is fun ds s => ∃ ts, plains ds = some ts ∧ B (.t (.tup ts)) s) : (tupM fs env st).Is B :=
  is_bind (h.imp fun _ _ ⟨ts, e, q⟩ => is_opt ⟨_, by rw [e]; rfl, q⟩)
theorem is_lst (h : (argsM fs env st).Is fun ds s => ∃ ts, plains ds = some ts ∧ B (.t (.lst ts)) s) : (lstM fs env st).Is B :=
  is_bind (h.imp fun _ _ ⟨ts, e, q⟩ => is_opt ⟨_, by rw [e]; rfl, q⟩)
theorem is_callB {g : List D → Sto → Option D} (h : (argsM fs env st).Is fun ds s => ∃ z, g ds s = some z ∧ B z s) : (callB g fs env st).Is B :=
  is_bind (h.imp fun _ _ h => is_opt h)
theorem is_callG {F : List D → Sto → Res D} (h : (argsM fs env st).Is fun ds s => (F ds s).Is B) : (callG F fs env st).Is B := is_bind h
theorem is_callP {F : List T → Rp} (h : (argsM fs env st).Is fun ds s => ∃ ts t, plains ds = some ts ∧ F ts = .ok t ∧ B (.t t) s) : (callP F fs env st).Is B :=
  is_bind (h.imp fun _ _ ⟨ts, t, e1, e2, q⟩ => by rw [e1]; dsimp only; rw [e2]; exact q)
theorem is_meth {n : String} {g : D → List D → Sto → Option (D × Sto)} (h : (fa env st).Is fun d s => tyOk n s d = true ∧ (argsM fs env s).Is fun ds s2 => ∃ z, g d ds s2 = some z ∧ B z.1 z.2) : (methM n g fa fs env st).Is B :=
  is_bind (h.imp fun _ _ ⟨e, h⟩ => by rw [if_pos e]; exact is_bind (h.imp fun _ _ h => is_optS h))
theorem is_bl {r : Res D} {A : Bool → Sto → Prop} (h : r.Is fun d s => ∃ b, d = .t (.bl b) ∧ A b s) : (blOf r).Is A :=
  is_bind (h.imp fun _ _ ⟨b, e, q⟩ => by rw [e]; exact q)
theorem is_tru {A : Bool → Sto → Prop} (h : (fa env st).Is fun d s => ∃ b, tru s d = some b ∧ A b s) : (truM fa env st).Is A :=
  is_bind (h.imp fun _ _ h => is_opt h)
theorem is_and {ga gb : Env → Sto → Res Bool} {A : Bool → Sto → Prop} (h : (ga env st).Is fun k s => if k = true then (gb env s).Is A else A false s) : (andM ga gb env st).Is A :=
  is_bind (h.imp fun k _ h => by
    cases k with
    | true => rw [if_pos rfl] at h ⊢; exact h
    | false => exact h)
theorem is_or {ga gb : Env → Sto → Res Bool} {A : Bool → Sto → Prop} (h : (ga env st).Is fun k s => if k = true then A true s else (gb env s).Is A) : (orM ga gb env st).Is A :=
  is_bind (h.imp fun k _ h => by
    cases k with
    | true => exact h
    | false => exact h)
theorem is_not {ga : Env → Sto → Res Bool} {A : Bool → Sto → Prop} (h : (ga env st).Is fun k s => A (!k) s) : (Mi.notM ga env st).Is A := is_bind h
theorem o_nx (h : N env st) : (nxM env st).Is N B := h
theorem o_seq {g1 g2 : Env → Sto → Out} (h : (g1 env st).Is (fun e s => (g2 e s).Is N B) B) : (seqM g1 g2 env st).Is N B := by
  unfold seqM
  cases q : g1 env st with
  | nx e s => rw [q] at h; exact h
  | rt d s => rw [q] at h; exact h
  | _ => rw [q] at h; exact h.elim
theorem o_set {i : Nat} (h : (f env st).Is fun d s => N (env.set i (some d)) s) : (setM i f env st).Is N B := is_out h
theorem o_ret (h : (f env st).Is B) : (retM f env st).Is N B := is_out h
theorem o_drop (h : (f env st).Is fun _ s => N env s) : (dropM f env st).Is N B := is_out h
theorem o_if {c : Env → Sto → Res Bool} {a b : Env → Sto → Out} (h : (c env st).Is fun k s => if k = true then (a env s).Is N B else (b env s).Is N B) : (ifM c a b env st).Is N B :=
  is_out (h.imp fun k _ h => by
    cases k with
    | true => exact h
    | false => exact h)
theorem o_par {i j : Nat} (h : (argsM fs env st).Is fun ds s => ∃ d d2, ds = [d, d2] ∧ N ((env.set i (some d)).set j (some d2)) s) : (parM i j fs env st).Is N B :=
  is_out (h.imp fun _ _ ⟨d, d2, e, q⟩ => by rw [e]; exact q)
/-- a loop over a list, by what holds behind each item -/
theorem o_forL {ga : D → Env → Option Env} {body : Env → Sto → Out} (tot : Nat) (P : List D → Env → Sto → Prop) : ∀ (ds pre : List D) (env : Env) (st : Sto), pre.length + ds.length ≤ tot → P pre env st →
    (∀ p d e s, P p e s → d ∈ ds → p.length < tot → ∃ e1, ga d e = some e1 ∧ (body e1 s).Is (fun e2 s2 => P (p ++ [d]) e2 s2) B) → (∀ e s, P (pre ++ ds) e s → N e s) → (forL ga body ds env st).Is N B
  | [], pre, env, st, _, h0, _, hN => hN env st (by rw [List.append_nil]; exact h0)
  | d :: r, pre, env, st, hl, h0, ht, hN => by
    rw [List.length_cons] at hl
    obtain ⟨e1, q, hb⟩ := ht pre d env st h0 List.mem_cons_self (by omega)
    unfold forL
    rw [q]
    dsimp only
    cases z : body e1 st with
    | nx e s =>
      rw [z] at hb
      exact o_forL tot P r (pre ++ [d]) e s (by rw [List.length_append]; simp; omega) hb (fun p d e s h hm => ht p d e s h (List.mem_cons_of_mem _ hm)) fun e s h => hN e s (by rw [List.append_assoc] at h; exact h)
    | rt d s => rw [z] at hb; exact hb
    | _ => rw [z] at hb; exact hb.elim
theorem o_for {fi : Env → Sto → Res ItM} {ga : D → Env → Option Env} {body : Env → Sto → Out} {it : ItM} {s : Sto} {ds : List D} (P : List D → Env → Sto → Prop) (hi : fi env st = .ok it s) (hn : ∀ st i, it.nth st i = some ds[i]?) (hm : ds.length ≤ it.most)
    (h0 : P [] env s) (ht : ∀ p d e s, P p e s → d ∈ ds → p.length < ds.length → ∃ e1, ga d e = some e1 ∧ (body e1 s).Is (fun e2 s2 => P (p ++ [d]) e2 s2) B) (hN : ∀ e s, P ds e s → N e s) : (forM' fi ga body env st).Is N B := by
  rw [forM_eq hi hn hm]
  exact o_forL ds.length P ds [] env s (by simp) h0 ht hN
def upto (lo : Int) (n : Nat) : List D := (List.range n).map fun i => .t (.int (lo + (i : Nat)))
theorem nth_rng (lo : Int) (n : Nat) : ∀ st i, (rngIt lo n).nth st i = some (upto lo n)[i]? := fun st i => by
  show some (if i < n then some (D.t (.int (lo + i))) else none) = _
  unfold upto
  rw [List.getElem?_map]
  by_cases h : i < n
  · rw [if_pos h, List.getElem?_range h]; rfl
  · rw [if_neg h, List.getElem?_eq_none (by rw [List.length_range]; omega)]; rfl
theorem upto_len (lo : Int) (n : Nat) : (upto lo n).length = n := by unfold upto; rw [List.length_map, List.length_range]
theorem upto_mem {lo : Int} {n : Nat} {d : D} (h : d ∈ upto lo n) : ∃ i : Nat, i < n ∧ d = .t (.int (lo + i)) := by
  obtain ⟨i, hi, e⟩ := List.mem_map.mp h
  exact ⟨i, List.mem_range.mp hi, e.symm⟩
theorem is_defG {n : Nat} {g : Env → Sto → Out} {ds : List D} (h : (g (startE n ds) st).Is (fun _ s => B (.t .non) s) B) : (defG n g ds st).Is B := by
  unfold defG
  cases q : g (startE n ds) st with
  | nx e s => rw [q] at h; exact h
  | rt d s => rw [q] at h; exact h
  | _ => rw [q] at h; exact h.elim
theorem is_defT {n : Nat} {g : Env → Sto → Out} {ds : List D} (h : (g (startE n ds) st).Is (fun _ s => (trim st.length (.t .non) s).Is B) (fun d s => (trim st.length d s).Is B)) : (defT n g ds st).Is B := by
  unfold defT
  cases q : g (startE n ds) st with
  | nx e s => rw [q] at h; exact h
  | rt d s => rw [q] at h; exact h
  | _ => rw [q] at h; exact h.elim
/-- objects that hold plain values only -/
def Pl (st : Sto) : Prop := st.all (SO.below 0) = true
theorem below_up {n : Nat} {o : SO} (h : SO.below 0 o = true) : SO.below n o = true := by
  cases o with
  | lst ds =>
    unfold SO.below at h ⊢
    rw [List.all_eq_true] at h ⊢
    intro d hd
    have := h d hd
    cases d with
    | t x => rfl
    | x => rfl
    | r m => unfold D.below at this; simp at this
theorem Pl.take {st : Sto} (h : Pl st) (n : Nat) : (st.take n).all (SO.below n) = true := by
  unfold Pl at h
  rw [List.all_eq_true] at h ⊢
  intro o ho
  exact below_up (h o (List.mem_of_mem_take ho))
theorem Pl.cut {st : Sto} (h : Pl st) (n : Nat) : Pl (st.take n) := by
  unfold Pl at h ⊢
  rw [List.all_eq_true] at h ⊢
  intro o ho
  exact h o (List.mem_of_mem_take ho)
theorem is_trim {n : Nat} {t : T} (h : Pl st) (hB : B (.t t) (st.take n)) : (trim n (.t t) st).Is B := by
  unfold trim
  rw [if_pos (h.take n)]
  exact hB
theorem Pl.set {st : Sto} (h : Pl st) (k : Nat) (ts : List T) : Pl (st.set k (.lst (ts.map .t))) := by
  unfold Pl at h ⊢
  rw [List.all_eq_true] at h ⊢
  intro o ho
  rcases List.mem_or_eq_of_mem_set ho with e | e
  · exact h o e
  · rw [e]
    show (ts.map D.t).all (D.below 0) = true
    rw [List.all_map, List.all_eq_true]
    exact fun _ _ => rfl
theorem Pl.app {st : Sto} (h : Pl st) (ts : List T) : Pl (st ++ [.lst (ts.map .t)]) := by
  unfold Pl at h ⊢
  rw [List.all_append, h, Bool.true_and, List.all_cons, List.all_nil, Bool.and_true]
  show (ts.map D.t).all (D.below 0) = true
  rw [List.all_map, List.all_eq_true]
  exact fun _ _ => rfl
end
end Mi
/-! k2R21 -/
namespace K02
open Mi PySem
/-! ### drawn lines -/
/-- what stands in the store: a pool at k, all of plain values; else it is as it was -/
structure I (k : Nat) (m st : Sto) : Prop where
  p : PoolAt st k
  l : st.length = m.length
  b : Pl st
  f : ∀ j, j ≠ k → st[j]? = m[j]?
theorem pool_pl (a q : Int) : pool a q = .lst ([T.int a, .int q].map .t) := rfl
theorem take_I {k : Nat} {m st : Sto} (h : I k m st) (n : Int) (h1 : 1 ≤ n) (h2 : n < 1073741824) {B : D → Sto → Prop} (hB : ∀ r s, 0 ≤ r → r < n → I k m s → B (.t (.int r)) s) : (m_law_take [.r k, .t (.int n)] st).Is B := by
  obtain ⟨r, st', e, r0, r1, p, l, b, q, eq⟩ := v_take n h1 h2 h.p
  rw [e]
  exact hB r st' r0 r1 ⟨p, l.trans h.l, by rw [eq, pool_pl]; exact h.b.set k _, fun j hj => by rw [eq, List.getElem?_set_ne (Ne.symm hj)]; exact h.f j hj⟩
theorem is_take {k : Nat} {m st : Sto} {env : Mi.Env} {fa fb : Mi.Env → Sto → Res D} {n : Int} {B : D → Sto → Prop} (h : I k m st) (ha : fa env st = .ok (.r k) st) (hb : fb env st = .ok (.t (.int n)) st) (h1 : 1 ≤ n) (h2 : n < 1073741824)
    (hB : ∀ r s, 0 ≤ r → r < n → I k m s → B (.t (.int r)) s) : (callG m_law_take [fa, fb] env st).Is B := by
  refine is_callG (is_cons (Res.is_of ha (is_cons (Res.is_of hb (is_nil ?_)))))
  exact take_I h n h1 h2 hB
/-- names that the law draws from -/
structure Nm (s : Str) : Prop where
  ok : okS s = true
  nm : nmB (.str s) = true
  gd : gd 0 (.str s) = true
  sz : s.cps.size ≤ 8
structure Nms (S : List Str) : Prop where
  al : ∀ s ∈ S, Nm s
  ln : S.length ≤ 50
abbrev nl (S : List Str) : D := .t (.lst (S.map .str))
theorem len_nl (S : List Str) (s : Sto) : lenB [nl S] s = some (.t (.int S.length)) := by rw [len_lst, List.length_map]
theorem is_pick {k : Nat} {m st : Sto} {env : Mi.Env} {i j : Nat} {S : List Str} {B : D → Sto → Prop} (h : I k m st) (hS : Nms S) (hn : S ≠ []) (ha : env[j]? = some (some (.r k))) (hb : env[i]? = some (some (nl S)))
    (hB : ∀ x ∈ S, ∀ s, I k m s → B (.t (.str x)) s) : (Mi.bin ixM (eVar i) (callG m_law_take [eVar j, callB lenB [eVar i]]) env st).Is B := by
  have vj : eVar j env st = .ok (.r k) st := by unfold eVar; rw [ha]
  have vi : eVar i env st = .ok (nl S) st := by unfold eVar; rw [hb]
  have vl : callB lenB [eVar i] env st = .ok (.t (.int S.length)) st := by
    unfold callB
    simp only [argsM, vi, Res.bind_ok, len_nl, optR_ok]
  have l0 : 0 < S.length := List.length_pos_iff.mpr hn
  have l1 := hS.ln
  refine is_bin (Res.is_of vi (is_take h vj vl (by omega) (by omega) fun r s r0 r1 hs => ?_))
  obtain ⟨q, rfl⟩ : ∃ q : Nat, r = q := ⟨r.toNat, by omega⟩
  have hr : q < S.length := by omega
  refine ⟨.t (.str S[q]), ?_, hB _ (List.getElem_mem hr) s hs⟩
  rw [ix_natL, List.getElem?_map, List.getElem?_eq_getElem hr]
  rfl
theorem gd_nl {S : List Str} (hS : Nms S) : ∀ t ∈ S.map T.str, gd 0 t = true := fun t ht => by
  obtain ⟨s, hs, rfl⟩ := List.mem_map.mp ht
  exact (hS.al s hs).gd
/-- lines of n more levels -/
inductive LN (S J C : List Str) : Nat → T → Prop where
  | run (n : Nat) (i : Int) (h1 : 1 ≤ i) (h2 : i ≤ 3) : LN S J C n (.tup [.str "run", .int i])
  | mask (n : Nat) (i : Int) (h1 : 1 ≤ i) (h2 : i ≤ 9) : LN S J C n (.tup [.str "mask", .int i])
  | unmask (n : Nat) : LN S J C n (.tup [.str "unmask"])
  | nam (n : Nat) (w s : Str) (hw : w = "answer" ∨ w = "raise" ∨ w = "post" ∨ w = "add" ∨ w = "take") (hs : s ∈ S ∨ s ∈ J ∨ s ∈ C) : LN S J C n (.tup [.str w, .str s])
  | arm (n : Nat) (s : Str) (i : Int) (hs : s ∈ S) (h1 : 1 ≤ i) (h2 : i ≤ 4) : LN S J C n (.tup [.str "arm", .str s, .int i])
  | either (n : Nat) (a b : List T) (ha : ∀ x ∈ a, LN S J C n x) (hb : ∀ x ∈ b, LN S J C n x) (la : a.length ≤ 2) (lb : b.length ≤ 1) : LN S J C (n + 1) (.tup [.str "either", .tup a, .tup b])
  | when (n : Nat) (c : Str) (a b : List T) (hc : c ∈ C) (ha : ∀ x ∈ a, LN S J C n x) (hb : ∀ x ∈ b, LN S J C n x) (la : a.length ≤ 2) (lb : b.length ≤ 1) : LN S J C (n + 1) (.tup [.str "when", .str c, .tup a, .tup b])
  | loop (n : Nat) (i : Int) (a : List T) (h1 : 1 ≤ i) (h2 : i ≤ 3) (ha : ∀ x ∈ a, LN S J C n x) (la : a.length ≤ 2) : LN S J C (n + 1) (.tup [.str "loop", .int i, .tup (.tup [.str "run", .int 1] :: a)])
section
variable {S J C : List Str} {k : Nat} {m : Sto}
/-- what the two defs are to do -/
def LineOk (S J C : List Str) (k : Nat) (m : Sto) (L : List D → Sto → Res D) (n : Nat) : Prop := ∀ st, I k m st → (L [.r k, nl S, nl J, nl C, .t (.int (3 - (n : Int)))] st).Is fun d s => (∃ x, d = .t x ∧ LN S J C n x) ∧ I k m s
def LinesOk (S J C : List Str) (k : Nat) (m : Sto) (R : List D → Sto → Res D) (n : Nat) : Prop := ∀ st (most : Nat), I k m st → 1 ≤ most → most ≤ 100 → (R [.r k, nl S, nl J, nl C, .t (.int (3 - (n : Int))), .t (.int most)] st).Is fun d s => (∃ ts, d = .t (.tup ts) ∧ (∀ x ∈ ts, LN S J C n x) ∧ ts.length < most) ∧ I k m s
theorem I.cut {st : Sto} (h : I k m st) : st.take m.length = st := List.take_of_length_le (Nat.le_of_eq h.l)
theorem is_lt {i j : Int} {fa fb : Mi.Env → Sto → Res D} {env : Mi.Env} {st : Sto} {A : Bool → Sto → Prop} (ha : fa env st = .ok (.t (.int i)) st) (hb : fb env st = .ok (.t (.int j)) st) (h : A (decide (i < j)) st) : (blOf (Mi.bin ltM fa fb env st)).Is A :=
  is_bl (is_bin (Res.is_of ha (Res.is_of hb ⟨_, lt_int i j st, _, rfl, h⟩)))
theorem is_gt {i j : Int} {fa fb : Mi.Env → Sto → Res D} {env : Mi.Env} {st : Sto} {A : Bool → Sto → Prop} (ha : fa env st = .ok (.t (.int i)) st) (hb : fb env st = .ok (.t (.int j)) st) (h : A (decide (j < i)) st) : (blOf (Mi.bin gtM fa fb env st)).Is A :=
  is_bl (is_bin (Res.is_of ha (Res.is_of hb ⟨_, gt_int i j st, _, rfl, h⟩)))
theorem is_eq {i j : Int} {fa fb : Mi.Env → Sto → Res D} {env : Mi.Env} {st : Sto} {A : Bool → Sto → Prop} (ha : fa env st = .ok (.t (.int i)) st) (hb : fb env st = .ok (.t (.int j)) st) (h : A (decide (i = j)) st) : (blOf (Mi.bin eqM fa fb env st)).Is A :=
  is_bl (is_bin (Res.is_of ha (Res.is_of hb ⟨_, eq_int i j st, _, rfl, h⟩)))
theorem is_nil0 {S : List Str} (hS : Nms S) {fa : Mi.Env → Sto → Res D} {env : Mi.Env} {st : Sto} {A : Bool → Sto → Prop} (ha : fa env st = .ok (nl S) st) (h : A (!S.isEmpty) st) : (blOf (Mi.bin neM fa (lstM []) env st)).Is A :=
  is_bl (is_bin (Res.is_of ha (is_lst (is_nil ⟨[], rfl, _, ne_nil (n := 0) (by decide) (gd_nl hS) st, _, rfl, by rw [List.isEmpty_map]; exact h⟩))))
end
end K02
/-! k2R22 -/
namespace K02
open Mi PySem
section
variable {S J C : List Str} {k : Nat} {m : Sto}
theorem t_if {P Q : Prop} {c : Prop} [Decidable c] (h1 : c → P) (h2 : ¬ c → Q) : if decide c = true then P else Q := by
  by_cases h : c
  · rw [if_pos (decide_eq_true h)]; exact h1 h
  · rw [if_neg (by rw [decide_eq_false h]; decide)]; exact h2 h
/-- a def's own end: the line, in a store cut to its length -/
theorem line_end {n : Nat} {x : T} {s : Sto} {st : Sto} (h0 : I k m st) (h : I k m s) (hx : LN S J C n x) : (trim st.length (.t x) s).Is fun d s => (∃ x, d = .t x ∧ LN S J C n x) ∧ I k m s := by
  refine is_trim h.b ⟨⟨x, rfl, hx⟩, ?_⟩
  rw [h0.l, h.cut]
  exact h
theorem o_guard {c : Mi.Env → Sto → Res Bool} {a g : Mi.Env → Sto → Out} {env : Mi.Env} {st : Sto} {N : Mi.Env → Sto → Prop} {B : D → Sto → Prop} (Q : Sto → Prop) (h : (c env st).Is fun k s => if k = true then (a env s).Is (fun _ _ => False) B else Q s) (hr : ∀ s, Q s → (g env s).Is N B) : (seqM (ifM c a nxM) g env st).Is N B := by
  refine o_seq (o_if (h.imp fun k s h => ?_))
  cases k with
  | true =>
    rw [if_pos rfl] at h ⊢
    exact h.imp (fun _ _ z => z.elim) fun _ _ z => z
  | false => exact hr s h
theorem b_if {b : Bool} {P Q : Prop} (h1 : b = true → P) (h2 : b = false → Q) : if b = true then P else Q := by
  cases b with
  | true => rw [if_pos rfl]; exact h1 rfl
  | false => rw [if_neg (by decide)]; exact h2 rfl
theorem line_ok (hS : Nms S) (hJ : Nms J) (hC : Nms C) (nS : S ≠ []) {L R : List D → Sto → Res D} {n : Nat} (hn : n ≤ 2) (hR : ∀ p, n = p + 1 → LinesOk S J C k m R p) : LineOk S J C k m (defT 9 (b_law_line L R)) n := by
  intro st h0
  have fin := fun {x : T} {s : Sto} (h : I k m s) (hx : LN S J C n x) => line_end (S := S) (J := J) (C := C) (n := n) h0 h hx
  refine is_defT ?_
  show (b_law_line L R [some (.r k), some (nl S), some (nl J), some (nl C), some (.t (.int (3 - (n : Int)))), none, none, none, none] st).Is _ _
  unfold b_law_line
  refine o_seq (o_par (is_cons (is_take h0 rfl rfl (by decide) (by decide) fun w s1 w0 w1 h1 => is_cons (is_pick h1 hS nS rfl rfl fun x hx s2 h2 => is_nil ⟨_, _, rfl, ?_⟩))))
  show (seqM _ _ [some (.r k), some (nl S), some (nl J), some (nl C), some (.t (.int (3 - (n : Int)))), none, none, some (.t (.int w)), some (.t (.str x))] s2).Is _ _
  have v0 : ∀ s, eVar 0 [some (.r k), some (nl S), some (nl J), some (nl C), some (.t (.int (3 - (n : Int)))), none, none, some (.t (.int w)), some (.t (.str x))] s = .ok (.r k) s := fun _ => rfl
  -- runs
  refine o_guard (I k m) (is_lt rfl rfl (t_if (fun c => o_ret ?_) fun c1 => h2)) fun s2 h2 => ?_
  · have e : ∃ i : Int, (1 ≤ i ∧ i ≤ 3) ∧ Mi.bin ixM (lstM [eC (.int 1), eC (.int 1), eC (.int 2), eC (.int 3)]) (eVar 7) [some (.r k), some (nl S), some (nl J), some (nl C), some (.t (.int (3 - (n : Int)))), none, none, some (.t (.int w)), some (.t (.str x))] s2 = .ok (.t (.int i)) s2 := by
      have : w = 0 ∨ w = 1 ∨ w = 2 ∨ w = 3 := by omega
      rcases this with rfl | rfl | rfl | rfl
      · exact ⟨1, by decide, rfl⟩
      · exact ⟨1, by decide, rfl⟩
      · exact ⟨2, by decide, rfl⟩
      · exact ⟨3, by decide, rfl⟩
    obtain ⟨i, ⟨i1, i2⟩, e⟩ := e
    exact is_tup (is_cons (is_C (is_cons (Res.is_of e (is_nil ⟨_, rfl, fin h2 (.run n i i1 i2)⟩)))))
  -- masks
  refine o_guard (I k m) (is_eq rfl rfl (t_if (fun c => o_ret ?_) fun c2 => h2)) fun s2 h2 => ?_
  · refine is_bin (is_lst (is_cons (is_tup (is_cons (is_C (is_cons (is_bin (is_C (is_take h2 (v0 _) rfl (by decide) (by decide) fun i s3 i0 i1 h3 => ⟨_, add_int _ _ _, is_nil ⟨_, rfl, is_cons (is_tup (is_cons (is_C (is_nil ⟨_, rfl, is_nil ⟨_, rfl, ?_⟩⟩))))⟩⟩)))))))))
    refine is_take h3 (v0 _) rfl (by decide) (by decide) fun j s4 j0 j1 h4 => ?_
    have : j = 0 ∨ j = 1 := by omega
    rcases this with rfl | rfl
    · exact ⟨_, rfl, fin h4 (.mask n (1 + i) (by omega) (by omega))⟩
    · exact ⟨_, rfl, fin h4 (.unmask n)⟩
  -- requests
  refine o_guard (I k m) (is_eq rfl rfl (t_if (fun c => o_ret ?_) fun c3 => h2)) fun s2 h2 => ?_
  · refine is_bin (is_lst (is_cons (is_tup (is_cons (is_C (is_cons (is_var rfl (is_nil ⟨_, rfl, is_cons (is_tup (is_cons (is_C (is_cons (is_var rfl (is_cons (is_bin (is_C (is_take h2 (v0 _) rfl (by decide) (by decide) fun i s3 i0 i1 h3 => ⟨_, add_int _ _ _, is_nil ⟨_, rfl, is_cons (is_tup (is_cons (is_C (is_cons (is_var rfl (is_nil ⟨_, rfl, is_nil ⟨_, rfl, ?_⟩⟩))))))⟩⟩)))))))))⟩))))))))
    refine is_take h3 (v0 _) rfl (by decide) (by decide) fun j s4 j0 j1 h4 => ?_
    have : j = 0 ∨ j = 1 ∨ j = 2 := by omega
    rcases this with rfl | rfl | rfl
    · exact ⟨_, rfl, fin h4 (.nam n _ x (.inr (.inl rfl)) (.inl hx))⟩
    · exact ⟨_, rfl, fin h4 (.arm n x (1 + i) hx (by omega) (by omega))⟩
    · exact ⟨_, rfl, fin h4 (.nam n _ x (.inl rfl) (.inl hx))⟩
  -- tasks
  refine o_guard (I k m) (is_and (is_eq rfl rfl (t_if (fun c => is_nil0 hJ rfl (b_if (fun e => o_ret ?_) fun _ => h2)) fun _ => h2))) fun s2 h2 => ?_
  · exact is_tup (is_cons (is_C (is_cons (is_pick h2 hJ (fun z => by rw [z] at e; cases e) rfl rfl fun y hy s3 h3 => is_nil ⟨_, rfl, fin h3 (.nam n _ y (.inr (.inr (.inl rfl))) (.inr (.inl hy)))⟩))))
  -- counters
  refine o_guard (I k m) (is_and (is_eq rfl rfl (t_if (fun c => is_nil0 hC rfl (b_if (fun e => o_ret ?_) fun _ => h2)) fun _ => h2))) fun s2 h2 => ?_
  · refine is_tup (is_cons (is_bin (is_lst (is_cons (is_C (is_cons (is_C (is_nil ⟨_, rfl, is_take h2 (v0 _) rfl (by decide) (by decide) fun j s3 j0 j1 h3 => ?_⟩))))))))
    have hp : ∀ u : Str, u = "add" ∨ u = "take" → (argsM [Mi.bin ixM (eVar 3) (callG m_law_take [eVar 0, callB lenB [eVar 3]])] [some (.r k), some (nl S), some (nl J), some (nl C), some (.t (.int (3 - (n : Int)))), none, none, some (.t (.int w)), some (.t (.str x))] s3).Is fun ds s2 => ∃ ts, plains (.t (.str u) :: ds) = some ts ∧ (trim st.length (.t (.tup ts)) s2).Is fun d s => (∃ x, d = .t x ∧ LN S J C n x) ∧ I k m s := fun u hu =>
      is_cons (is_pick h3 hC (fun z => by rw [z] at e; cases e) rfl rfl fun y hy s4 h4 => is_nil ⟨_, rfl, fin h4 (.nam n _ y (.inr (.inr (.inr hu))) (.inr (.inr hy)))⟩)
    have : j = 0 ∨ j = 1 := by omega
    rcases this with rfl | rfl
    · exact ⟨_, rfl, hp _ (.inl rfl)⟩
    · exact ⟨_, rfl, hp _ (.inr rfl)⟩
  -- no more levels
  refine o_guard (fun s => I k m s ∧ 8 ≤ w ∧ 1 ≤ n) (is_or (is_gt rfl rfl (t_if (fun c => ?_) fun c5 => is_lt rfl rfl (t_if (fun _ => ?_) fun c6 => ⟨h2, by omega, by omega⟩)))) fun s2 ⟨h2, w8, n1⟩ => ?_
  · rw [if_pos rfl]
    exact o_ret (is_tup (is_cons (is_C (is_cons (is_var rfl (is_nil ⟨_, rfl, fin h2 (.nam n _ x (.inl rfl) (.inl hx))⟩))))))
  · exact o_ret (is_tup (is_cons (is_C (is_cons (is_var rfl (is_nil ⟨_, rfl, fin h2 (.nam n _ x (.inl rfl) (.inl hx))⟩))))))
  obtain ⟨p, rfl⟩ : ∃ p, n = p + 1 := ⟨n - 1, by omega⟩
  have hp := hR p rfl
  have dep : (3 : Int) - ((p + 1 : Nat) : Int) + 1 = 3 - (p : Int) := by omega
  refine o_seq <| o_set <| is_callG <| is_cons <| is_var rfl <| is_cons <| is_var rfl <| is_cons <| is_var rfl <| is_cons <| is_var rfl <| is_cons <| is_bin <| is_var rfl <| is_C ⟨_, add_int _ _ _, is_cons <| is_C <| is_nil ?_⟩
  rw [dep]
  refine (hp s2 3 h2 (by decide) (by decide)).imp fun d s3 ⟨⟨ta, ed, la, na⟩, h3⟩ => ?_
  subst ed
  refine o_seq <| o_set <| is_callG <| is_cons <| is_var rfl <| is_cons <| is_var rfl <| is_cons <| is_var rfl <| is_cons <| is_var rfl <| is_cons <| is_bin <| is_var rfl <| is_C ⟨_, add_int _ _ _, is_cons <| is_C <| is_nil ?_⟩
  rw [dep]
  refine (hp s3 2 h3 (by decide) (by decide)).imp fun d s4 ⟨⟨tb, ed, lb, nb⟩, h4⟩ => ?_
  subst ed
  refine o_guard (I k m) (is_eq rfl rfl (t_if (fun c => o_ret ?_) fun c7 => h4)) fun s4 h4 => ?_
  · exact is_tup (is_cons (is_C (is_cons (is_var rfl (is_cons (is_var rfl (is_nil ⟨_, rfl, fin h4 (.either p ta tb la lb (by omega) (by omega))⟩)))))))
  refine o_guard (I k m) (is_and (is_eq rfl rfl (t_if (fun c => is_nil0 hC rfl (b_if (fun e => o_ret ?_) fun _ => h4)) fun _ => h4))) fun s4 h4 => ?_
  · exact is_tup <| is_cons <| is_C <| is_cons <| is_pick h4 hC (fun z => by rw [z] at e; cases e) rfl rfl fun y hy s5 h5 => is_cons <| is_var rfl <| is_cons <| is_var rfl <| is_nil ⟨_, rfl, fin h5 (.when p y ta tb hy la lb (by omega) (by omega))⟩
  refine o_ret <| is_tup <| is_cons <| is_C <| is_cons <| is_bin <| is_C <| is_take h4 rfl rfl (by decide) (by decide) fun i s5 i0 i1 h5 => ⟨_, add_int _ _ _, is_cons <| is_bin <| is_tup <| is_cons <| is_tup <| is_cons <| is_C <| is_cons <| is_C <| is_nil ⟨_, rfl, is_nil ⟨_, rfl, is_var rfl ⟨.t (.tup (.tup [.str "run", .int 1] :: ta)), ?_, is_nil ⟨_, rfl, fin h5 (.loop p (1 + i) ta (by omega) (by omega) la (by omega))⟩⟩⟩⟩⟩
  show catT [.tup [.str "run", .int 1]] ta = _
  unfold catT
  rw [if_pos]
  · rfl
  · have : ta.length < 3 := na
    have := lim1
    show 1 + ta.length ≤ LIM
    omega
end
end K02
/-! k2R23 -/
namespace K02
open Mi PySem
section
variable {S J C : List Str} {k n : Nat}
theorem forR {env : Mi.Env} {st s : Sto} {fs : List (Mi.Env → Sto → Res D)} {ga : D → Mi.Env → Option Mi.Env} {body : Mi.Env → Sto → Out} {N : Mi.Env → Sto → Prop} {B : D → Sto → Prop} {r : Int} (P : List D → Mi.Env → Sto → Prop) (hi : argsM fs env st = .ok [.t (.int r)] s) (r0 : -B62 ≤ r) (r1 : r < B62)
    (h0 : P [] env s) (ht : ∀ p d e s, P p e s → d ∈ upto 0 r.toNat → p.length < r.toNat → ∃ e1, ga d e = some e1 ∧ (body e1 s).Is (fun e2 s2 => P (p ++ [d]) e2 s2) B) (hN : ∀ e s, P (upto 0 r.toNat) e s → N e s) : (forM' (rng1 fs) ga body env st).Is N B := by
  refine o_for (it := rngIt 0 r.toNat) (s := s) (ds := upto 0 r.toNat) P ?_ (nth_rng 0 _) (Nat.le_of_eq (upto_len _ _)) h0 (fun p d e s h hd hl => ht p d e s h hd (by rw [upto_len] at hl; exact hl)) hN
  unfold rng1
  rw [hi, Res.bind_ok]
  dsimp only
  rw [if_pos ⟨r0, r1⟩]
theorem ty_lst {k : Nat} {ts : List T} {st : Sto} (h : st[k]? = some (.lst (ts.map .t))) : tyOk "list" st (.r k) = true := by
  show (decide ("list" = "list") && (items st (.r k)).isSome) = true
  have e : items st (.r k) = some (ts.map .t) := by
    show (match st[k]? with
      | some (.lst ds) => some ds
      | none => none) = _
    rw [h]
  rw [e]
  rfl
theorem app_s {ts : List T} {k : Nat} {st : Sto} {x : T} (h : st[k]? = some (.lst (ts.map .t))) (hl : ts.length < LIM) : appG (.r k) [.t x] st = some (.t .non, st.set k (.lst ((ts ++ [x]).map .t))) := by
  show (match st[k]? with
    | some (SO.lst xs) => if xs.length < LIM then some (D.t .non, st.set k (SO.lst (xs ++ [D.t x]))) else none
    | _ => none) = _
  rw [h]
  show (if (ts.map D.t).length < LIM then _ else _) = _
  rw [List.length_map, if_pos hl, List.map_append]
  rfl
/-- lines that are collected at the store's end -/
structure Coll (S J C : List Str) (k n : Nat) (u : Sto) (c : Nat) (env : Mi.Env) (st : Sto) : Prop where
  ex : ∃ ts : List T, st[u.length]? = some (.lst (ts.map .t)) ∧ (∀ x ∈ ts, LN S J C n x) ∧ ts.length = c
  p : PoolAt st k
  l : st.length = u.length + 1
  b : Pl st
  f : ∀ j, j ≠ k → j < u.length → st[j]? = u[j]?
theorem lines_ok {L R : List D → Sto → Res D} (hL : ∀ m, k < m.length → LineOk S J C k m L n) {u : Sto} (hk : k < u.length) : LinesOk S J C k u (defT 8 (b_law_lines L R)) n := by
  intro st most h0 m1 m2
  refine is_defT ?_
  show (b_law_lines L R [some (.r k), some (nl S), some (nl J), some (nl C), some (.t (.int (3 - (n : Int)))), some (.t (.int most)), none, none] st).Is _ _
  unfold b_law_lines
  have hl := h0.l
  have new : Coll S J C k n u 0 [] (st ++ [.lst []]) := by
    refine ⟨⟨[], by rw [List.getElem?_append_right (by omega), hl, Nat.sub_self]; rfl, fun _ h => (by simp at h), rfl⟩, ?_, by rw [List.length_append, hl]; rfl, h0.b.app [], fun j h1 h2 => ?_⟩
    · obtain ⟨a, q, e, q0, q1⟩ := h0.p
      exact ⟨a, q, by rw [List.getElem?_append_left (by omega)]; exact e, q0, q1⟩
    · rw [List.getElem?_append_left (by omega)]
      exact h0.f j h1
  have e1 : setM 6 (newM []) [some (.r k), some (nl S), some (nl J), some (nl C), some (.t (.int (3 - (n : Int)))), some (.t (.int most)), none, none] st = .nx [some (.r k), some (nl S), some (nl J), some (nl C), some (.t (.int (3 - (n : Int)))), some (.t (.int most)), some (.r u.length), none] (st ++ [.lst []]) := by
    rw [← hl]; rfl
  refine o_seq (Out.is_of e1 ?_)
  have hi : I k (st ++ [.lst []]) (st ++ [.lst []]) := ⟨new.p, rfl, new.b, fun _ _ => rfl⟩
  obtain ⟨r, s1, et, r0, r1, h1⟩ : ∃ (r : Int) (s1 : Sto), argsM [callG m_law_take [eVar 0, eVar 5]] [some (.r k), some (nl S), some (nl J), some (nl C), some (.t (.int (3 - (n : Int)))), some (.t (.int most)), some (.r u.length), none] (st ++ [.lst []]) = .ok [.t (.int r)] s1 ∧ 0 ≤ r ∧ r < most ∧ I k (st ++ [.lst []]) s1 := by
    have := is_take (B := fun d s => ∃ r : Int, d = .t (.int r) ∧ 0 ≤ r ∧ r < most ∧ I k (st ++ [.lst []]) s) (env := [some (.r k), some (nl S), some (nl J), some (nl C), some (.t (.int (3 - (n : Int)))), some (.t (.int most)), some (.r u.length), none]) hi (fa := eVar 0) (fb := eVar 5) rfl rfl (by omega) (by omega) fun r s r0 r1 h => ⟨r, rfl, r0, r1, h⟩
    obtain ⟨d, s, e, r, rfl, r0, r1, h⟩ := this.get
    refine ⟨r, s, ?_, r0, r1, h⟩
    unfold argsM
    rw [e]
    rfl
  have c1 : Coll S J C k n u 0 [] s1 := by
    obtain ⟨ts, a1, a2, a3⟩ := new.ex
    exact ⟨⟨ts, by rw [h1.f _ (by omega)]; exact a1, a2, a3⟩, h1.p, by rw [h1.l]; exact new.l, h1.b, fun j h2 h3 => by rw [h1.f j h2]; exact new.f j h2 h3⟩
  refine o_seq ?_
  unfold l_law_lines_1
  refine forR (fun pre e s => ∃ x7, e = [some (.r k), some (nl S), some (nl J), some (nl C), some (.t (.int (3 - (n : Int)))), some (.t (.int most)), some (.r u.length), x7] ∧ Coll S J C k n u pre.length [] s) et (by unfold B62; omega) (by unfold B62; omega) ⟨_, rfl, c1⟩ ?_ ?_
  · rintro pre d e s ⟨x7, rfl, c⟩ hd lp
    refine ⟨_, rfl, ?_⟩
    obtain ⟨i, _, rfl⟩ := upto_mem hd
    have hs : I k s s := ⟨c.p, rfl, c.b, fun _ _ => rfl⟩
    obtain ⟨ts, a1, a2, a3⟩ := c.ex
    refine o_drop <| is_meth <| is_var rfl ⟨ty_lst a1, is_cons <| is_callG <| is_cons <| is_var rfl <| is_cons <| is_var rfl <| is_cons <| is_var rfl <| is_cons <| is_var rfl <| is_cons <| is_var rfl <| is_nil ?_⟩
    refine (hL s (by rw [c.l]; omega) s hs).imp fun d s2 ⟨⟨x, ed, hx⟩, h2⟩ => is_nil ?_
    subst ed
    have a4 : s2[u.length]? = some (.lst (ts.map .t)) := by rw [h2.f _ (by omega)]; exact a1
    refine ⟨_, app_s (x := x) a4 (by rw [a3]; have := lim1; omega), ⟨_, rfl, ⟨ts ++ [x], ?_, ?_, ?_⟩, ?_, ?_, h2.b.set _ _, ?_⟩⟩
    · exact List.getElem?_set_self (by rw [h2.l, c.l]; omega)
    · intro y hy
      rcases List.mem_append.mp hy with h | h
      · exact a2 y h
      · rw [List.mem_singleton.mp h]; exact hx
    · rw [List.length_append, a3, List.length_append]; rfl
    · obtain ⟨a, q, e, q0, q1⟩ := h2.p
      exact ⟨a, q, by rw [List.getElem?_set_ne (by omega)]; exact e, q0, q1⟩
    · rw [List.length_set, h2.l]; exact c.l
    · intro j j1 j2
      rw [List.getElem?_set_ne (by omega), h2.f j j1]
      exact c.f j j1 j2
  · rintro e s ⟨x7, rfl, c⟩
    obtain ⟨ts, a1, a2, a3⟩ := c.ex
    refine o_ret <| is_callB <| is_cons <| is_var rfl <| is_nil ⟨.t (.tup ts), ?_, ?_⟩
    · show (match s[u.length]? with
        | some (.lst ds) => some ds
        | none => none).bind (fun is => (plains is).map fun ts => D.t (.tup ts)) = _
      rw [a1]
      show (plains (ts.map D.t)).map (fun ts => D.t (.tup ts)) = _
      rw [plains_map]
      rfl
    · refine is_trim c.b ⟨⟨ts, rfl, a2, ?_⟩, ?_, ?_, c.b.cut _, ?_⟩
      · rw [a3, upto_len]; omega
      · obtain ⟨a, q, e, q0, q1⟩ := c.p
        exact ⟨a, q, by rw [List.getElem?_take_of_lt (by omega)]; exact e, q0, q1⟩
      · rw [List.length_take, c.l, hl]; omega
      · intro j j1
        by_cases hj : j < u.length
        · rw [List.getElem?_take_of_lt (by omega)]
          exact c.f j j1 hj
        · rw [List.getElem?_eq_none (by rw [List.length_take]; omega), List.getElem?_eq_none (by omega)]
end
end K02
/-! k2R24 -/
namespace K02
open Mi PySem
section
variable {S J C : List Str} {k : Nat}
theorem g_ok (hS : Nms S) (hJ : Nms J) (hC : Nms C) (nS : S ≠ []) : ∀ n, n ≤ 2 → ∀ j, (∀ u : Sto, k < u.length → LineOk S J C k u (g_law_line (2 * n + 1 + j)).1 n) ∧ (∀ u : Sto, k < u.length → LinesOk S J C k u (g_law_line (2 * n + 2 + j)).2 n)
  | 0, _, j => by
    have a : ∀ u : Sto, k < u.length → LineOk S J C k u (g_law_line (1 + j)).1 0 := fun u hu => by
      rw [show 1 + j = j + 1 by omega]
      exact line_ok hS hJ hC nS (by decide) fun p e => by cases e
    refine ⟨fun u hu => by rw [show 2 * 0 + 1 + j = 1 + j by omega]; exact a u hu, fun u hu => ?_⟩
    rw [show 2 * 0 + 2 + j = (1 + j) + 1 by omega]
    exact lines_ok a hu
  | n + 1, hn, j => by
    obtain ⟨_, ih⟩ := g_ok hS hJ hC nS n (by omega) j
    have a : ∀ u : Sto, k < u.length → LineOk S J C k u (g_law_line (2 * n + 2 + j + 1)).1 (n + 1) := fun u hu =>
      line_ok hS hJ hC nS hn fun p e => by cases e; exact ih u hu
    refine ⟨fun u hu => by rw [show 2 * (n + 1) + 1 + j = 2 * n + 2 + j + 1 by omega]; exact a u hu, fun u hu => ?_⟩
    rw [show 2 * (n + 1) + 2 + j = (2 * n + 2 + j + 1) + 1 by omega]
    exact lines_ok a hu
/-! ### what drawn lines are -/
theorem tq_t {n : Nat} {ts : List T} (h : ∀ t ∈ ts, tq n t = true) : tq (n + 1) (.tup ts) = true := by
  unfold tq; exact tqs_of h
theorem tq_int1 {n : Nat} {i : Int} (h0 : 0 ≤ i) (h1 : i < 100) : tq n (.int i) = true := by
  unfold tq; rw [decide_eq_true h0, decide_eq_true h1]; rfl
theorem tq_str1 {n : Nat} {w : Str} (h : okS w = true) : tq n (.str w) = true := by
  unfold tq; exact h
theorem ok_words : okS "run" = true ∧ okS "mask" = true ∧ okS "unmask" = true ∧ okS "arm" = true ∧ okS "either" = true ∧ okS "when" = true ∧ okS "loop" = true ∧ okS "answer" = true ∧ okS "raise" = true ∧ okS "post" = true ∧ okS "add" = true ∧ okS "take" = true := by decide +kernel
theorem mem1 {α : Type} {P : α → Prop} {a : α} (ha : P a) : ∀ t ∈ [a], P t := fun t h => by rw [List.mem_singleton.mp h]; exact ha
theorem memc {α : Type} {P : α → Prop} {a : α} {r : List α} (ha : P a) (hr : ∀ t ∈ r, P t) : ∀ t ∈ a :: r, P t := fun t h => (List.mem_cons.mp h).elim (fun e => by rw [e]; exact ha) (hr t)
theorem nm_any (hS : Nms S) (hJ : Nms J) (hC : Nms C) {s : Str} (h : s ∈ S ∨ s ∈ J ∨ s ∈ C) : Nm s := h.elim (hS.al s) fun h => h.elim (hJ.al s) (hC.al s)
theorem LN_tq (hS : Nms S) (hJ : Nms J) (hC : Nms C) : ∀ {n : Nat} {x : T}, LN S J C n x → tq (2 * n + 1) x = true := by
  obtain ⟨k1, k2, k3, k4, k5, k6, k7, k8, k9, k10, k11, k12⟩ := ok_words
  intro n x h
  induction h with
  | run n i h1 h2 => exact tq_t (memc (tq_str1 k1) (mem1 (tq_int1 (by omega) (by omega))))
  | mask n i h1 h2 => exact tq_t (memc (tq_str1 k2) (mem1 (tq_int1 (by omega) (by omega))))
  | unmask n => exact tq_t (mem1 (tq_str1 k3))
  | nam n w s hw hs =>
    refine tq_t (memc (tq_str1 ?_) (mem1 (tq_str1 (nm_any hS hJ hC hs).ok)))
    rcases hw with rfl | rfl | rfl | rfl | rfl <;> assumption
  | arm n s i hs h1 h2 => exact tq_t (memc (tq_str1 k4) (memc (tq_str1 (hS.al s hs).ok) (mem1 (tq_int1 (by omega) (by omega)))))
  | either n a b ha hb la lb iha ihb =>
    rw [show 2 * (n + 1) + 1 = (2 * n + 1 + 1) + 1 by omega]
    exact tq_t (memc (tq_str1 k5) (memc (tq_t iha) (mem1 (tq_t ihb))))
  | when n c a b hc ha hb la lb iha ihb =>
    rw [show 2 * (n + 1) + 1 = (2 * n + 1 + 1) + 1 by omega]
    exact tq_t (memc (tq_str1 k6) (memc (tq_str1 (hC.al c hc).ok) (memc (tq_t iha) (mem1 (tq_t ihb)))))
  | loop n i a h1 h2 ha la iha =>
    rw [show 2 * (n + 1) + 1 = (2 * n + 1 + 1) + 1 by omega]
    exact tq_t (memc (tq_str1 k7) (memc (tq_int1 (by omega) (by omega)) (mem1 (tq_t (memc (tq_t (memc (tq_str1 k1) (mem1 (tq_int1 (by omega) (by omega))))) iha)))))
theorem gd_t {n : Nat} {ts : List T} (hl : ts.length ≤ 1000) (h : ∀ t ∈ ts, gd n t = true) : gd (n + 1) (.tup ts) = true := gd_tup.mpr ⟨n, rfl, hl, h⟩
theorem gd_int1 {n : Nat} {i : Int} : gd n (.int i) = true := by cases n <;> rfl
theorem gd_str1 {n : Nat} {w : Str} (h : gd 0 (.str w) = true) : gd n (.str w) = true := by cases n <;> exact h
theorem gd_words : gd 0 (.str "run") = true ∧ gd 0 (.str "mask") = true ∧ gd 0 (.str "unmask") = true ∧ gd 0 (.str "arm") = true ∧ gd 0 (.str "either") = true ∧ gd 0 (.str "when") = true ∧ gd 0 (.str "loop") = true ∧ gd 0 (.str "answer") = true ∧ gd 0 (.str "raise") = true ∧ gd 0 (.str "post") = true ∧ gd 0 (.str "add") = true ∧ gd 0 (.str "take") = true := by decide +kernel
theorem LN_gd (hS : Nms S) (hJ : Nms J) (hC : Nms C) : ∀ {n : Nat} {x : T}, LN S J C n x → gd (2 * n + 1) x = true := by
  obtain ⟨k1, k2, k3, k4, k5, k6, k7, k8, k9, k10, k11, k12⟩ := gd_words
  intro n x h
  have l3 : ∀ {a b c : T}, [a, b, c].length ≤ 1000 := by intros; simp
  have l4 : ∀ {a b c d : T}, [a, b, c, d].length ≤ 1000 := by intros; simp
  have l2 : ∀ {a b : T}, [a, b].length ≤ 1000 := by intros; simp
  have l1 : ∀ {a : T}, [a].length ≤ 1000 := by intros; simp
  induction h with
  | run n i h1 h2 => exact gd_t l2 (memc (gd_str1 k1) (mem1 gd_int1))
  | mask n i h1 h2 => exact gd_t l2 (memc (gd_str1 k2) (mem1 gd_int1))
  | unmask n => exact gd_t l1 (mem1 (gd_str1 k3))
  | nam n w s hw hs =>
    refine gd_t l2 (memc (gd_str1 ?_) (mem1 (gd_str1 (nm_any hS hJ hC hs).gd)))
    rcases hw with rfl | rfl | rfl | rfl | rfl <;> assumption
  | arm n s i hs h1 h2 => exact gd_t l3 (memc (gd_str1 k4) (memc (gd_str1 (hS.al s hs).gd) (mem1 gd_int1)))
  | either n a b ha hb la lb iha ihb =>
    rw [show 2 * (n + 1) + 1 = (2 * n + 1 + 1) + 1 by omega]
    exact gd_t l3 (memc (gd_str1 k5) (memc (gd_t (by omega) iha) (mem1 (gd_t (by omega) ihb))))
  | when n c a b hc ha hb la lb iha ihb =>
    rw [show 2 * (n + 1) + 1 = (2 * n + 1 + 1) + 1 by omega]
    exact gd_t l4 (memc (gd_str1 k6) (memc (gd_str1 (hC.al c hc).gd) (memc (gd_t (by omega) iha) (mem1 (gd_t (by omega) ihb)))))
  | loop n i a h1 h2 ha la iha =>
    rw [show 2 * (n + 1) + 1 = (2 * n + 1 + 1) + 1 by omega]
    exact gd_t l3 (memc (gd_str1 k7) (memc gd_int1 (mem1 (gd_t (by rw [List.length_cons]; omega) (memc (gd_t l2 (memc (gd_str1 k1) (mem1 gd_int1))) iha)))))
/-- their weight -/
def Wn : Nat → Nat
  | 0 => 40
  | n + 1 => 60 + 3 * (Wn n + 1)
theorem wts_le {w : Nat} : ∀ {ts : List T}, (∀ t ∈ ts, wt t ≤ w) → wts ts ≤ ts.length * (w + 1)
  | [], _ => Nat.zero_le _
  | t :: r, h => by
    have a := h t List.mem_cons_self
    have b := wts_le fun x hx => h x (List.mem_cons_of_mem t hx)
    unfold wts
    rw [List.length_cons, Nat.succ_mul]
    omega
theorem kind_sz : ("run" : Str).cps.size ≤ 6 ∧ ("mask" : Str).cps.size ≤ 6 ∧ ("unmask" : Str).cps.size ≤ 6 ∧ ("arm" : Str).cps.size ≤ 6 ∧ ("either" : Str).cps.size ≤ 6 ∧ ("when" : Str).cps.size ≤ 6 ∧ ("loop" : Str).cps.size ≤ 6 ∧ ("answer" : Str).cps.size ≤ 6 ∧ ("raise" : Str).cps.size ≤ 6 ∧ ("post" : Str).cps.size ≤ 6 ∧ ("add" : Str).cps.size ≤ 6 ∧ ("take" : Str).cps.size ≤ 6 := by decide +kernel
theorem Wn_ge : ∀ n, 40 ≤ Wn n
  | 0 => Nat.le_refl _
  | n + 1 => by have := Wn_ge n; unfold Wn; omega
theorem LN_wt (hS : Nms S) (hJ : Nms J) (hC : Nms C) : ∀ {n : Nat} {x : T}, LN S J C n x → wt x ≤ Wn n := by
  obtain ⟨k1, k2, k3, k4, k5, k6, k7, k8, k9, k10, k11, k12⟩ := kind_sz
  intro n x h
  induction h with
  | run n i h1 h2 => have := Wn_ge n; simp only [wt, wts]; omega
  | mask n i h1 h2 => have := Wn_ge n; simp only [wt, wts]; omega
  | unmask n => have := Wn_ge n; simp only [wt, wts]; omega
  | nam n w s hw hs =>
    have := Wn_ge n
    have h2 := (nm_any hS hJ hC hs).sz
    have h3 : w.cps.size ≤ 6 := by rcases hw with rfl | rfl | rfl | rfl | rfl <;> assumption
    simp only [wt, wts]; omega
  | arm n s i hs h1 h2 => have := Wn_ge n; have := (hS.al s hs).sz; simp only [wt, wts]; omega
  | either n a b ha hb la lb iha ihb =>
    have p := wts_le iha
    have q := wts_le ihb
    have p2 := Nat.mul_le_mul_right (Wn n + 1) la
    have q2 := Nat.mul_le_mul_right (Wn n + 1) lb
    simp only [wt, wts]
    unfold Wn; omega
  | when n c a b hc ha hb la lb iha ihb =>
    have p := wts_le iha
    have q := wts_le ihb
    have p2 := Nat.mul_le_mul_right (Wn n + 1) la
    have q2 := Nat.mul_le_mul_right (Wn n + 1) lb
    have := (hC.al c hc).sz
    simp only [wt, wts]
    unfold Wn; omega
  | loop n i a h1 h2 ha la iha =>
    have p := wts_le iha
    have p2 := Nat.mul_le_mul_right (Wn n + 1) la
    simp only [wt, wts]
    unfold Wn; omega
end
end K02
/-! k2R25 -/
namespace K02
open Mi PySem
section
variable {S J C : List Str} {k : Nat}
/-! ### drawn lines are right -/
theorem st_one {x : T} (h : stB x = true) : St x := st_of h
theorem btw1 {i a b : Int} (h1 : a ≤ i) (h2 : i ≤ b) : btw (.int i) a b = true := by
  show (decide (a ≤ i) && decide (i ≤ b)) = true
  rw [decide_eq_true h1, decide_eq_true h2]; rfl
theorem LN_st (hS : Nms S) (hJ : Nms J) (hC : Nms C) {n : Nat} {x : T} (h : LN S J C n x) : stB x = true := by
  cases h with
  | run n i h1 h2 => simp (config := {decide := true}) [stB, t_FORMS, List.lookup, beq_str, partB, List.zip, btw1 (a := 1) (b := 20) h1 (by omega)]
  | mask n i h1 h2 => simp (config := {decide := true}) [stB, t_FORMS, List.lookup, beq_str, partB, List.zip, btw1 (a := 1) (b := 9) h1 (by omega)]
  | unmask n => simp (config := {decide := true}) [stB, t_FORMS, List.lookup, beq_str, partB, List.zip]
  | nam n w s hw hs =>
    have h2 := (nm_any hS hJ hC hs).nm
    rcases hw with rfl | rfl | rfl | rfl | rfl <;> simp (config := {decide := true}) [stB, t_FORMS, List.lookup, beq_str, partB, List.zip, h2]
  | arm n s i hs h1 h2 => simp (config := {decide := true}) [stB, t_FORMS, List.lookup, beq_str, partB, List.zip, (hS.al s hs).nm, btw1 (a := 1) (b := 50) h1 (by omega)]
  | either n a b ha hb la lb => simp (config := {decide := true}) [stB, t_FORMS, List.lookup, beq_str, partB, List.zip, isTup]
  | when n c a b hc ha hb la lb => simp (config := {decide := true}) [stB, t_FORMS, List.lookup, beq_str, partB, List.zip, isTup, (hC.al c hc).nm]
  | loop n i a h1 h2 ha la => simp (config := {decide := true}) [stB, t_FORMS, List.lookup, beq_str, partB, List.zip, isTup, btw1 (a := 1) (b := 5) h1 (by omega)]
theorem mn_nn {i j : Int} (h1 : 0 ≤ i) (h2 : 0 ≤ j) : 0 ≤ mn i j := by unfold mn; split <;> assumption
theorem sum_nn {f : T → Int × Int} : ∀ {ts : List T}, (∀ x ∈ ts, 0 ≤ (stTk f x).1) → 0 ≤ (sumTk f ts).1
  | [], _ => Int.le_refl _
  | x :: r, h => by
    have a := h x List.mem_cons_self
    have b := sum_nn fun y hy => h y (List.mem_cons_of_mem x hy)
    show 0 ≤ (stTk f x).1 + (sumTk f r).1
    omega
theorem tk_run (f : T → Int × Int) (k : T) : stTk f (.tup [.str "run", k]) = (val k, val k) := by simp (config := {decide := true}) [stTk]
theorem tk_either (f : T → Int × Int) (a b : T) : stTk f (.tup [.str "either", a, b]) = (mn (f a).1 (f b).1, mx (f a).2 (f b).2) := by simp (config := {decide := true}) [stTk]
theorem tk_when (f : T → Int × Int) (c a b : T) : stTk f (.tup [.str "when", c, a, b]) = (mn (f a).1 (f b).1, mx (f a).2 (f b).2) := by simp (config := {decide := true}) [stTk]
theorem tk_loop (f : T → Int × Int) (k b : T) : stTk f (.tup [.str "loop", k, b]) = (0, val k * (f b).2) := by simp (config := {decide := true}) [stTk]
theorem LN_nn : ∀ (m n : Nat) (x : T), LN S J C n x → 0 ≤ (stTk (tkB m) x).1 := by
  intro m
  induction m with
  | zero =>
    intro n x h
    cases h with
    | run n i h1 h2 => rw [tk_run]; show 0 ≤ i; omega
    | either n a b ha hb la lb => rw [tk_either]; exact mn_nn (Int.le_refl _) (Int.le_refl _)
    | when n c a b hc ha hb la lb => rw [tk_when]; exact mn_nn (Int.le_refl _) (Int.le_refl _)
    | loop n i a h1 h2 ha la => rw [tk_loop]; exact Int.le_refl _
    | mask n i h1 h2 => simp (config := {decide := true}) [stTk]
    | unmask n => simp (config := {decide := true}) [stTk]
    | nam n w s hw hs => rcases hw with rfl | rfl | rfl | rfl | rfl <;> simp (config := {decide := true}) [stTk]
    | arm n s i hs h1 h2 => simp (config := {decide := true}) [stTk]
  | succ m ih =>
    intro n x h
    cases h with
    | run n i h1 h2 => rw [tk_run]; show 0 ≤ i; omega
    | either n a b ha hb la lb => rw [tk_either]; exact mn_nn (sum_nn fun y hy => ih _ y (ha y hy)) (sum_nn fun y hy => ih _ y (hb y hy))
    | when n c a b hc ha hb la lb => rw [tk_when]; exact mn_nn (sum_nn fun y hy => ih _ y (ha y hy)) (sum_nn fun y hy => ih _ y (hb y hy))
    | loop n i a h1 h2 ha la => rw [tk_loop]; exact Int.le_refl _
    | mask n i h1 h2 => simp (config := {decide := true}) [stTk]
    | unmask n => simp (config := {decide := true}) [stTk]
    | nam n w s hw hs => rcases hw with rfl | rfl | rfl | rfl | rfl <;> simp (config := {decide := true}) [stTk]
    | arm n s i hs h1 h2 => simp (config := {decide := true}) [stTk]
theorem LN_ln (hS : Nms S) (hJ : Nms J) (hC : Nms C) : ∀ {n : Nat} {x : T}, LN S J C n x → ∀ m, n ≤ m → lnB m x = true := by
  intro n x h
  have s1 := LN_st hS hJ hC h
  have rb : ∀ {m : Nat} {a : List T}, (∀ x ∈ a, lnB m x = true) → RB (m + 1) (.tup a) = true := fun ha => by
    unfold RB; exact List.all_eq_true.mpr ha
  induction h with
  | run n i h1 h2 => intro m hm; unfold lnB; rw [s1, in_run]; simp (config := {decide := true}) [lpB]
  | mask n i h1 h2 => intro m hm; unfold lnB; rw [s1, in_mask]; simp (config := {decide := true}) [lpB]
  | unmask n => intro m hm; unfold lnB; rw [s1, in_unmask]; simp (config := {decide := true}) [lpB]
  | nam n w s hw hs => intro m hm; unfold lnB; rw [s1, in_named w _ hw]; simp (config := {decide := true}) [lpB]
  | arm n s i hs h1 h2 => intro m hm; unfold lnB; rw [s1, in_arm]; simp (config := {decide := true}) [lpB]
  | either n a b ha hb la lb iha ihb =>
    intro m hm
    obtain ⟨p, rfl⟩ : ∃ p, m = p + 1 := ⟨m - 1, by omega⟩
    unfold lnB
    rw [s1, in_either]
    have ra : RB (p + 1) (.tup a) = true := rb fun x hx => iha x hx (LN_st hS hJ hC (ha x hx)) p (by omega)
    have rb' : RB (p + 1) (.tup b) = true := rb fun x hx => ihb x hx (LN_st hS hJ hC (hb x hx)) p (by omega)
    simp (config := {decide := true}) [lpB, ra, rb']
  | when n c a b hc ha hb la lb iha ihb =>
    intro m hm
    obtain ⟨p, rfl⟩ : ∃ p, m = p + 1 := ⟨m - 1, by omega⟩
    unfold lnB
    rw [s1, in_when]
    have ra : RB (p + 1) (.tup a) = true := rb fun x hx => iha x hx (LN_st hS hJ hC (ha x hx)) p (by omega)
    have rb' : RB (p + 1) (.tup b) = true := rb fun x hx => ihb x hx (LN_st hS hJ hC (hb x hx)) p (by omega)
    simp (config := {decide := true}) [lpB, ra, rb']
  | loop n i a h1 h2 ha la iha =>
    intro m hm
    obtain ⟨p, rfl⟩ : ∃ p, m = p + 1 := ⟨m - 1, by omega⟩
    unfold lnB
    rw [s1, in_loop]
    have ra : RB (p + 1) (.tup (.tup [.str "run", .int 1] :: a)) = true := rb (memc (by unfold lnB; rw [in_run]; simp (config := {decide := true}) [lpB, stB, t_FORMS, List.lookup, beq_str, partB, List.zip, btw]) fun x hx => iha x hx (LN_st hS hJ hC (ha x hx)) p (by omega))
    have tk : 0 < (tkB (p + 1) (.tup (.tup [.str "run", .int 1] :: a))).1 := by
      show 0 < (stTk (tkB p) (.tup [.str "run", .int 1])).1 + (sumTk (tkB p) a).1
      rw [tk_run]
      have := sum_nn (f := tkB p) fun x hx => LN_nn p n x (ha x hx)
      show 0 < (1 : Int) + _
      omega
    simp (config := {decide := true}) [lpB, ra, tk]
/-! ### as many statements as are shown -/
theorem in_nS {x : T} (h : St x) : 1 + nSs (innerS x) ≤ nS x := by
  cases h with
  | run k h => rw [in_run]; simp only [nS, nSs, hd1]; omega
  | either a b ha hb => rw [in_either]; simp only [nS, nSs, hd1]; omega
  | when c a b hc ha hb => rw [in_when]; simp only [nS, nSs, hd1]; omega
  | loop k a h ha => rw [in_loop]; simp only [nS, nSs, hd1]; omega
  | mask k h => rw [in_mask]; simp only [nS, nSs, hd1]; omega
  | unmask => rw [in_unmask]; simp only [nS, nSs, hd1]; omega
  | named w n hw h => rw [in_named w n hw]; simp only [nS, nSs, hd1]; omega
  | arm n d h hd => rw [in_arm]; simp only [nS, nSs, hd1]; omega
theorem in_nW (w : Str) {x : T} (h : St x) : (if isW w x = true then 1 else 0) + nWs w (innerS x) ≤ nW w x := by
  cases h with
  | run k h => rw [in_run]; simp only [nW, nWs, hdW, isW, decide_eq_true_eq]; omega
  | either a b ha hb => rw [in_either]; simp only [nW, nWs, hdW, isW, decide_eq_true_eq]; omega
  | when c a b hc ha hb => rw [in_when]; simp only [nW, nWs, hdW, isW, decide_eq_true_eq]; omega
  | loop k a h ha => rw [in_loop]; simp only [nW, nWs, hdW, isW, decide_eq_true_eq]; omega
  | mask k h => rw [in_mask]; simp only [nW, nWs, hdW, isW, decide_eq_true_eq]; omega
  | unmask => rw [in_unmask]; simp only [nW, nWs, hdW, isW, decide_eq_true_eq]; omega
  | named v n hw h => rw [in_named v n hw]; simp only [nW, nWs, hdW, isW, decide_eq_true_eq]; omega
  | arm n d h hd => rw [in_arm]; simp only [nW, nWs, hdW, isW, decide_eq_true_eq]; omega
theorem fm_nS {A : T → List T} : ∀ {l : List T}, (∀ b ∈ l, (A b).length ≤ nS b) → (l.flatMap A).length ≤ nSs l
  | [], _ => Nat.zero_le _
  | a :: r, h => by
    rw [List.flatMap_cons, List.length_append]
    have p := h a List.mem_cons_self
    have q := fm_nS fun b hb => h b (List.mem_cons_of_mem a hb)
    unfold nSs
    omega
theorem fm_nW {w : Str} {A : T → List T} : ∀ {l : List T}, (∀ b ∈ l, (A b).countP (isW w) ≤ nW w b) → (l.flatMap A).countP (isW w) ≤ nWs w l
  | [], _ => Nat.zero_le _
  | a :: r, h => by
    rw [List.flatMap_cons, List.countP_append]
    have p := h a List.mem_cons_self
    have q := fm_nW fun b hb => h b (List.mem_cons_of_mem a hb)
    unfold nWs
    omega
theorem allL_nS {A : T → List T} : ∀ {ts : List T}, (∀ x ∈ ts, St x ∧ ∀ b ∈ innerS x, (A b).length ≤ nS b) → (allL A ts).length ≤ nSs ts
  | [], _ => Nat.zero_le _
  | x :: r, h => by
    obtain ⟨h1, h2⟩ := h x List.mem_cons_self
    have q := allL_nS fun b hb => h b (List.mem_cons_of_mem x hb)
    have p := fm_nS h2
    have s := in_nS h1
    unfold allL nSs
    rw [List.length_append, List.length_cons]
    omega
theorem allL_nW {w : Str} {A : T → List T} : ∀ {ts : List T}, (∀ x ∈ ts, St x ∧ ∀ b ∈ innerS x, (A b).countP (isW w) ≤ nW w b) → (allL A ts).countP (isW w) ≤ nWs w ts
  | [], _ => Nat.zero_le _
  | x :: r, h => by
    obtain ⟨h1, h2⟩ := h x List.mem_cons_self
    have q := allL_nW fun b hb => h b (List.mem_cons_of_mem x hb)
    have p := fm_nW h2
    have s := in_nW w h1
    unfold allL nWs
    rw [List.countP_append, List.countP_cons]
    omega
theorem nSs_le (ts : List T) : nSs ts ≤ nS (.tup ts) := by unfold nS; omega
theorem nWs_le (w : Str) (ts : List T) : nWs w ts ≤ nW w (.tup ts) := by unfold nW; omega
theorem allS_nS : ∀ (n : Nat) (v : T), PB n v = true → (allS n v).length ≤ nS v ∧ ∀ w, (allS n v).countP (isW w) ≤ nW w v
  | 0, v, h => by unfold PB at h; cases h
  | n + 1, v, h => by
    obtain ⟨ts, rfl, ht⟩ := PB_tup h
    have e : allS (n + 1) (.tup ts) = allL (allS n) ts := rfl
    rw [e]
    exact ⟨Nat.le_trans (allL_nS fun x hx => ⟨st_of (ht x hx).1, fun b hb => (allS_nS n b ((ht x hx).2 b hb)).1⟩) (nSs_le ts),
      fun w => Nat.le_trans (allL_nW fun x hx => ⟨st_of (ht x hx).1, fun b hb => (allS_nS n b ((ht x hx).2 b hb)).2 w⟩) (nWs_le w ts)⟩
end
end K02
/-! k2R26 -/
namespace K02
open Mi PySem
section
variable {S J C : List Str} {k : Nat}
/-! ### a drawn body -/
theorem cnt_words (ws : List Str) (w : Str) (s : Sto) : countG (.t (.lst (ws.map .str))) [.t (.str w)] s = some (.t (.int ((ws.countP fun p => decide (p = w)) : Nat)), s) := by
  have e : tVs ((ws.map T.str).map .t) = some (ws.map L2.V.str) := by
    induction ws with
    | nil => rfl
    | cons a r ih =>
      show (tV (.str a)).bind (fun v => (tVs ((r.map T.str).map .t)).map (v :: ·)) = _
      rw [ih]; rfl
  show ((tVs ((ws.map T.str).map .t)).map fun vs => (iD ((vs.countP fun z => L2.eqV z (.str w) : Nat) : Int), s)) = _
  rw [e]
  show some (iD (((ws.map L2.V.str).countP fun z => L2.eqV z (.str w) : Nat) : Int), s) = _
  rw [List.countP_map]
  rfl
theorem len_words (ws : List Str) (s : Sto) : lenB [.t (.lst (ws.map .str))] s = some (.t (.int ws.length)) := by rw [len_lst, List.length_map]
theorem forR1 {env : Mi.Env} {st : Sto} {r : Int} {ga : D → Mi.Env → Option Mi.Env} {body : Mi.Env → Sto → Out} {N : Mi.Env → Sto → Prop} {B : D → Sto → Prop} (P : Mi.Env → Sto → Prop) (r0 : -B62 ≤ r) (r1 : r < B62)
    (h0 : P env st) (ht : ∀ d e s, P e s → d ∈ upto 0 r.toNat → ∃ e1, ga d e = some e1 ∧ (body e1 s).Is P B) (hN : ∀ e s, P e s → N e s) : (forM' (rng1 [eC (.int r)]) ga body env st).Is N B :=
  forR (s := st) (fun _ => P) rfl r0 r1 h0 (fun _ d e s h hd _ => ht d e s h hd) hN
theorem body_lines (hS : Nms S) (hJ : Nms J) (hC : Nms C) (nS' : S ≠ []) {u : Sto} (hk : k < u.length) (most : Nat) (m1 : 1 ≤ most) (m2 : most ≤ 20) (st : Sto) (h0 : I k u st) :
    (m_law_body [.r k, nl S, nl J, nl C, .t (.int most)] st).Is fun d s => (∃ ts, d = .t (.tup ts) ∧ ((∀ x ∈ ts, LN S J C 2 x) ∧ ts.length < most ∧ nS (.tup ts) ≤ 23 ∧ nW "either" (.tup ts) + nW "loop" (.tup ts) ≤ 6 ∨ ts = [.tup [.str "run", .int 2]])) ∧ I k u s := by
  have fin : ∀ {ts : List T} {s : Sto}, I k u s → ((∀ x ∈ ts, LN S J C 2 x) ∧ ts.length < most ∧ nS (.tup ts) ≤ 23 ∧ nW "either" (.tup ts) + nW "loop" (.tup ts) ≤ 6 ∨ ts = [.tup [.str "run", .int 2]]) →
      (trim st.length (.t (.tup ts)) s).Is fun d s => (∃ ts, d = .t (.tup ts) ∧ ((∀ x ∈ ts, LN S J C 2 x) ∧ ts.length < most ∧ nS (.tup ts) ≤ 23 ∧ nW "either" (.tup ts) + nW "loop" (.tup ts) ≤ 6 ∨ ts = [.tup [.str "run", .int 2]])) ∧ I k u s := fun {ts s} h hx => by
    refine is_trim h.b ⟨⟨ts, rfl, hx⟩, ?_⟩
    rw [h0.l, h.cut]
    exact h
  refine is_defT ?_
  show (b_law_body [some (.r k), some (nl S), some (nl J), some (nl C), some (.t (.int most)), none, none, none] st).Is _ _
  unfold b_law_body
  refine o_seq ?_
  unfold l_law_body_1
  refine forR1 (r := 20) (fun e s => ∃ x5 x6 x7, e = [some (.r k), some (nl S), some (nl J), some (nl C), some (.t (.int most)), x5, x6, x7] ∧ I k u s) (by decide) (by decide) ⟨_, _, _, rfl, h0⟩ ?_ ?_
  · rintro d e s ⟨x5, x6, x7, rfl, h⟩ hd
    refine ⟨_, rfl, ?_⟩
    obtain ⟨i, _, rfl⟩ := upto_mem hd
    have g := ((g_ok (k := k) hS hJ hC nS' 2 (by decide) 4).2 u hk) s most h m1 (by omega)
    refine o_seq <| o_set <| is_callG <| is_cons <| is_var rfl <| is_cons <| is_var rfl <| is_cons <| is_var rfl <| is_cons <| is_var rfl <| is_cons <| is_C <| is_cons <| is_var rfl <| is_nil ?_
    refine g.imp fun d s2 ⟨⟨ts, ed, a1, a2⟩, h2⟩ => ?_
    subst ed
    have tq6 : tq 6 (.tup ts) = true := tq_t fun x hx => LN_tq hS hJ hC (a1 x hx)
    have w2 : wts ts ≤ 20 * (1000 + 1) := by
      have p := wts_le (w := 1000) fun x hx => Nat.le_trans (LN_wt hS hJ hC (a1 x hx)) (show Wn 2 ≤ 1000 by decide)
      exact Nat.le_trans p (Nat.mul_le_mul_right _ (by omega))
    have lim : 10 * wts ts + 10 ≤ LIM := by unfold LIM; omega
    obtain ⟨sh, e1, e2, e3, e4⟩ := str_tree tq6 (by decide) (by omega) s2
    have sp1 : splitG (.t (.str sh)) [.t (.str "'")] s2 = some (.t (.lst ((Txt.split sh "'").map .str)), s2) := by
      show (if ((Str.ofString "'").length == 0) = false ∧ sh.length + 2 ≤ LIM then some (D.t (.lst ((Txt.split sh "'").map .str)), s2) else none) = _
      rw [if_pos ⟨by decide +kernel, by omega⟩]
    have sp2 : splitG (.t (.str sh)) [.t (.str "('")] s2 = some (.t (.lst ((Txt.split sh "('").map .str)), s2) := by
      show (if ((Str.ofString "('").length == 0) = false ∧ sh.length + 2 ≤ LIM then some (D.t (.lst ((Txt.split sh "('").map .str)), s2) else none) = _
      rw [if_pos ⟨by decide +kernel, by omega⟩]
    refine o_seq <| o_set <| is_meth <| is_callB <| is_cons <| is_var rfl <| is_nil ⟨_, e1, rfl, is_cons <| is_C <| is_nil ⟨_, sp1, ?_⟩⟩
    refine o_if <| is_and <| is_bl <| is_bin <| is_callB <| is_cons <| is_meth <| is_callB <| is_cons <| is_var rfl <| is_nil ⟨_, e1, rfl, is_cons <| is_C <| is_nil ⟨_, sp2, is_nil ⟨_, len_words _ _, is_C ⟨_, le_int _ _ _, _, rfl, ?_⟩⟩⟩⟩
    have done : (nxM [some (.r k), some (nl S), some (nl J), some (nl C), some (.t (.int most)), some (.t (.int (0 + (i : Int)))), some (.t (.tup ts)), some (.t (.lst ((Txt.split sh "'").map .str)))] s2).Is (fun e s => ∃ x5 x6 x7, e = [some (.r k), some (nl S), some (nl J), some (nl C), some (.t (.int most)), x5, x6, x7] ∧ I k u s) (fun d s => (trim st.length d s).Is fun d s => (∃ ts, d = .t (.tup ts) ∧ ((∀ x ∈ ts, LN S J C 2 x) ∧ ts.length < most ∧ nS (.tup ts) ≤ 23 ∧ nW "either" (.tup ts) + nW "loop" (.tup ts) ≤ 6 ∨ ts = [.tup [.str "run", .int 2]])) ∧ I k u s) := o_nx ⟨_, _, _, rfl, h2⟩
    refine t_if (fun c1 => ?_) fun _ => done
    refine is_bl <| is_bin <| is_bin <| is_meth <| is_var rfl ⟨rfl, is_cons <| is_C <| is_nil ⟨_, cnt_words _ _ _, is_meth <| is_var rfl ⟨rfl, is_cons <| is_C <| is_nil ⟨_, cnt_words _ _ _, _, add_int _ _ _, is_C ⟨_, le_int _ _ _, _, rfl, ?_⟩⟩⟩⟩⟩
    refine t_if (fun c2 => ?_) fun _ => done
    refine o_ret <| is_var rfl <| fin h2 (.inl ⟨a1, a2, ?_, ?_⟩)
    · have := words_len e3
      omega
    · have w1 := words_cnt (w := "either") (by decide +kernel) (e4 "either")
      have w2 := words_cnt (w := "loop") (by decide +kernel) (e4 "loop")
      omega
  · rintro e s ⟨x5, x6, x7, rfl, h⟩
    refine o_ret <| is_tup <| is_cons <| is_tup <| is_cons <| is_C <| is_cons <| is_C <| is_nil ⟨_, rfl, is_nil ⟨_, rfl, fin h (.inr rfl)⟩⟩
end
end K02
/-! k2R27 -/
namespace K02
open Mi PySem
section
variable {S J C : List Str} {k : Nat}
/-! ### sizes -/
mutual
/-- how many tuples and lists -/
def sz : T → Nat
  | .tup ts => 1 + szs ts
  | .lst ts => 1 + szs ts
  | _ => 0
def szs : List T → Nat
  | [] => 0
  | t :: r => sz t + szs r
end
mutual
theorem nS_sz : ∀ t : T, nS t ≤ sz t
  | .tup ts => by
    have := nSs_sz ts
    have h : hd1 ts ≤ 1 := by unfold hd1; split <;> omega
    unfold nS sz
    omega
  | .lst ts => by unfold nS; exact Nat.zero_le _
  | .non => Nat.zero_le _
  | .bl _ => Nat.zero_le _
  | .int _ => Nat.zero_le _
  | .str _ => Nat.zero_le _
  | .scr _ => Nat.zero_le _
  | .glb _ => Nat.zero_le _
  | .ty _ => Nat.zero_le _
theorem nSs_sz : ∀ ts : List T, nSs ts ≤ szs ts
  | [] => Nat.zero_le _
  | t :: r => by
    have := nS_sz t
    have := nSs_sz r
    unfold nSs szs
    omega
end
theorem szs_app : ∀ a b : List T, szs (a ++ b) = szs a + szs b
  | [], b => by show szs b = 0 + szs b; omega
  | t :: r, b => by
    have := szs_app r b
    show sz t + szs (r ++ b) = (sz t + szs r) + szs b
    omega
theorem szs_sub {a b : List T} (h : a.Sublist b) : szs a ≤ szs b := by
  induction h with
  | slnil => exact Nat.le_refl _
  | cons x h ih => show _ ≤ sz x + szs _; omega
  | cons_cons x h ih => show sz x + szs _ ≤ sz x + szs _; omega
theorem szs_le {w : Nat} : ∀ {ts : List T}, (∀ t ∈ ts, sz t ≤ w) → szs ts ≤ ts.length * w
  | [], _ => Nat.zero_le _
  | t :: r, h => by
    have a := h t List.mem_cons_self
    have b := szs_le fun x hx => h x (List.mem_cons_of_mem t hx)
    show sz t + szs r ≤ _
    rw [List.length_cons, Nat.succ_mul]
    omega
def Zn : Nat → Nat
  | 0 => 1
  | n + 1 => 3 + 3 * Zn n
theorem Zn_ge : ∀ n, 1 ≤ Zn n
  | 0 => Nat.le_refl _
  | n + 1 => by unfold Zn; omega
theorem LN_sz : ∀ {n : Nat} {x : T}, LN S J C n x → sz x ≤ Zn n := by
  intro n x h
  induction h with
  | run n i h1 h2 => have := Zn_ge n; simp only [sz, szs]; omega
  | mask n i h1 h2 => have := Zn_ge n; simp only [sz, szs]; omega
  | unmask n => have := Zn_ge n; simp only [sz, szs]; omega
  | nam n w s hw hs => have := Zn_ge n; simp only [sz, szs]; omega
  | arm n s i hs h1 h2 => have := Zn_ge n; simp only [sz, szs]; omega
  | either n a b ha hb la lb iha ihb =>
    have p := szs_le iha
    have q := szs_le ihb
    have p2 := Nat.mul_le_mul_right (Zn n) la
    have q2 := Nat.mul_le_mul_right (Zn n) lb
    simp only [sz, szs]
    unfold Zn; omega
  | when n c a b hc ha hb la lb iha ihb =>
    have p := szs_le iha
    have q := szs_le ihb
    have p2 := Nat.mul_le_mul_right (Zn n) la
    have q2 := Nat.mul_le_mul_right (Zn n) lb
    simp only [sz, szs]
    unfold Zn; omega
  | loop n i a h1 h2 ha la iha =>
    have p := szs_le iha
    have p2 := Nat.mul_le_mul_right (Zn n) la
    have := Zn_ge n
    simp only [sz, szs]
    unfold Zn; omega
mutual
theorem gd_up : ∀ (n : Nat) (t : T), gd n t = true → gd (n + 1) t = true
  | n, .non, _ => rfl
  | n, .bl _, _ => rfl
  | n, .int _, _ => rfl
  | n, .str x, h => by unfold gd at h ⊢; exact h
  | n + 1, .tup ts, h => by
    unfold gd at h ⊢
    rw [Bool.and_eq_true] at h ⊢
    exact ⟨h.1, gds_up n ts h.2⟩
  | n + 1, .lst ts, h => by
    unfold gd at h ⊢
    rw [Bool.and_eq_true] at h ⊢
    exact ⟨h.1, gds_up n ts h.2⟩
  | 0, .tup ts, h => by cases h
  | 0, .lst ts, h => by cases h
  | n, .scr ts, h => by cases n <;> cases h
  | n, .glb ts, h => by cases n <;> cases h
  | n, .ty ts, h => by cases n <;> cases h
theorem gds_up : ∀ (n : Nat) (ts : List T), gds n ts = true → gds (n + 1) ts = true
  | n, [], _ => by unfold gds; rfl
  | n, t :: r, h => by
    unfold gds at h ⊢
    rw [Bool.and_eq_true] at h ⊢
    exact ⟨gd_up n t h.1, gds_up n r h.2⟩
end
theorem gd_more {n : Nat} {t : T} (h : gd n t = true) : ∀ k, gd (n + k) t = true
  | 0 => h
  | k + 1 => gd_up _ _ (gd_more h k)
theorem gd_to {n m : Nat} {t : T} (h : gd n t = true) (hm : n ≤ m) : gd m t = true := by
  rw [show m = n + (m - n) by omega]; exact gd_more h _
/-- a tree that both look at -/
theorem both {v : T} {j : Nat} (hj : j ≤ 60) (hg : gd j v = true) (hl : sz v ≤ 1000) : m_is_body [v] = .ok (.bl (body v)) ∧ m_law_is_body [v] = .ok (.bl (body v)) :=
  same_body hj hg fun h => Nat.le_trans (allS_nS 4 v h).1 (Nat.le_trans (nS_sz v) hl)
/-! ### a bent body -/
theorem cutG_sub {α : Type} (xs : List α) (lo hi : Option Int) : (cutG xs lo hi).Sublist xs := (List.take_sublist _ _).trans (List.drop_sublist _ _)
def ODD : List T := [.non, .int 0, .bl true, .str "", .str "abcdefghi", .str "Aa", .tup [], .tup [.str "run", .int 1], .tup [.tup [.str "run", .int 0]], .int 21, .int (-1), .int 6, .int 10, .int 51, .tup [.tup [.str "answer", .str "a"]], .lst [], .tup [.str "x"]]
theorem ODD_ok : (ODD.all fun t => gd 3 t && decide (sz t ≤ 3)) = true ∧ ODD.length = 17 := by decide +kernel
/-- items that a line, or a body, is put together of -/
structure Its (n z : Nat) (ts : List T) : Prop where
  g : ∀ t ∈ ts, gd n t = true
  s : szs ts ≤ z
  l : ts.length ≤ 300
theorem Its.sub {n z : Nat} {a b : List T} (h : Its n z b) (s : a.Sublist b) : Its n z a := ⟨fun t ht => h.g t (s.subset ht), Nat.le_trans (szs_sub s) h.s, Nat.le_trans s.length_le h.l⟩
theorem Its.tup {n z : Nat} {ts : List T} (h : Its n z ts) : gd (n + 1) (.tup ts) = true ∧ sz (.tup ts) ≤ z + 1 := ⟨gd_t (Nat.le_trans h.l (by decide)) h.g, by have := h.s; unfold sz; omega⟩
theorem Its.lst {n z : Nat} {ts : List T} (h : Its n z ts) : gd (n + 1) (.lst ts) = true ∧ sz (.lst ts) ≤ z + 1 := by
  refine ⟨?_, by have := h.s; unfold sz; omega⟩
  unfold gd
  rw [Bool.and_eq_true]
  exact ⟨decide_eq_true (Nat.le_trans h.l (by decide)), gds_of h.g⟩
/-- what becomes of a body -/
def Bent (d : D) : Prop := ∃ v, d = .t v ∧ gd 10 v = true ∧ sz v ≤ 900
theorem add_tup (a b : List T) (h : a.length + b.length ≤ 1000) (s : Sto) : addM (.t (.tup a)) (.t (.tup b)) s = some (.t (.tup (a ++ b))) := by
  show catT a b = _
  unfold catT
  rw [if_pos (Nat.le_trans h (Nat.le_trans (by decide) lim1))]
theorem sl_tup (a : List T) (lo hi : Option Int) (s : Sto) : slM (.t (.tup a)) lo hi s = some (.t (.tup (cutG a lo hi))) := rfl
theorem is_slice {f : Mi.Env → Sto → Res D} {lo hi : Mi.Env → Sto → Res (Option Int)} {env : Mi.Env} {st : Sto} {B : D → Sto → Prop} {ts : List T} {l h : Option Int} (hf : f env st = .ok (.t (.tup ts)) st) (hl : lo env st = .ok l st) (hh : hi env st = .ok h st) (hB : B (.t (.tup (cutG ts l h))) st) : (sliceM f lo hi env st).Is B := by
  unfold sliceM
  rw [hf, Res.bind_ok, hl, Res.bind_ok, hh, Res.bind_ok, sl_tup]
  exact hB
end
end K02
/-! k2S1 -/
namespace K02
open Mi PySem
/-! ### the ticks of a body; what is no body -/
theorem body_PB {v : T} (h : body v = true) : PB 4 v = true := by
  unfold body at h
  rw [Bool.and_eq_true] at h
  exact RB_PB 4 _ h.1
theorem v_tk {v : T} (h : body v = true) : (g_tick_bounds 12).1 [v] = .ok (pr (tkB 4 v)) := v_ticks 4 v 4 (body_PB h)
theorem v_ltk {v : T} (h : body v = true) : g_law_ticks 6 [v] = .ok (pr (tkB 4 v)) := v_lticks 4 v 2 (body_PB h)
theorem v_least {xc : XC} {v : T} {j : Nat} (hg : gd j v = true) (h : body v = true) : m_least_ticks xc [v] = .ok (.int (tkB 4 v).1) := by
  simp [m_least_ticks, b_least_ticks, defP, startE, seqM, ifM, Mi.notM, truM, callP, argsM, eVar, eC, Res.bind_ok, Res.out_ok, plains, v_is_body hg, h, tru, Out.seq, nxM, retM, Mi.bin, v_tk h, pr1, exitP, optR_ok]
theorem v_most {xc : XC} {v : T} {j : Nat} (hg : gd j v = true) (h : body v = true) : m_most_ticks xc [v] = .ok (.int (tkB 4 v).2) := by
  simp [m_most_ticks, b_most_ticks, defP, startE, seqM, ifM, Mi.notM, truM, callP, argsM, eVar, eC, Res.bind_ok, Res.out_ok, plains, v_is_body hg, h, tru, Out.seq, nxM, retM, Mi.bin, v_tk h, pr2, exitP, optR_ok]
theorem n_least {xc : XC} {v : T} {j : Nat} (hg : gd j v = true) (h : body v = false) : m_least_ticks xc [v] = .exc xc.InvalidBody [("value", v)] := by
  simp [m_least_ticks, b_least_ticks, defP, startE, seqM, ifM, Mi.notM, truM, callP, argsM, eVar, eC, Res.bind_ok, Res.out_ok, plains, v_is_body hg, h, tru, Out.seq, nxM, raiseM, exitP, optR_ok]
theorem n_most {xc : XC} {v : T} {j : Nat} (hg : gd j v = true) (h : body v = false) : m_most_ticks xc [v] = .exc xc.InvalidBody [("value", v)] := by
  simp [m_most_ticks, b_most_ticks, defP, startE, seqM, ifM, Mi.notM, truM, callP, argsM, eVar, eC, Res.bind_ok, Res.out_ok, plains, v_is_body hg, h, tru, Out.seq, nxM, raiseM, exitP, optR_ok]
theorem try_is {i : Nat} {isC : Addr → Option Bool} {gb : Mi.Env → Sto → Out} {S : Addr → Option Addr → Addr → Mi.Env → Sto → Out} {env e : Mi.Env} {st s : Sto} {C : Addr} {fs : List (Str × T)} {o : Out} (h : gb env st = .exc C fs e s) (hC : isC C = some true)
    (hs : ∀ a q, unset i (S a q C (e.set i (some (.x a q C fs))) s) = o) : tryAs i isC gb S env st = o := by
  unfold tryAs
  rw [h]
  simp only [hC]
  rw [if_pos fun a q => (hs a q).trans (hs 0 none).symm]
  exact hs 0 none
theorem lk_self (C : Addr) : lkB C [(C, true)] = some true := by simp [lkB]
theorem kt_self (C B : Addr) : kt1 B [(C, true)] C B = some true := by simp [kt1, lkB]
/-- one turn: the error is caught, its value is the argument -/
theorem ref_turn {xc : XC} {v : T} {j : Nat} (hg : gd j v = true) (h : body v = false) {z : Str} (hz : ∀ s, reprB [.t v] s = some (.t (.str z))) {i : Int} {x3 : Option D} {n : Nat} (hn : n < 10) :
    tryAs 3 (fun C => lkB C [(xc.InvalidBody, true)]) (seqM (ifM (fun env st => blOf (Mi.bin eqM (eVar 2) (eC (.int 0)) env st)) (dropM (callP (m_least_ticks xc) [eVar 0])) (dropM (callP (m_most_ticks xc) [eVar 0])))
    (dropM (methM "list" appG (eVar 1) [eC (.bl false)])))
    (fun a0 o0 C0 => dropM (methM "list" appG (eVar 1) [andV (callB (isXB a0 o0 C0 (kt1 xc.RunError [(xc.InvalidBody, true)])) [eVar 3, eC (.glb xc.RunError)]) (Mi.bin eqM (callB reprB [xfM a0 o0 C0 "value" (eVar 3)]) (callB reprB [eVar 0]))]))
    [some (.t v), some (.r 0), some (.t (.int i)), x3] [.lst (List.replicate n (.t (.bl true)))] = .nx [some (.t v), some (.r 0), some (.t (.int i)), none] [.lst (List.replicate (n + 1) (.t (.bl true)))] := by
  refine try_is (C := xc.InvalidBody) (fs := [("value", v)]) (e := [some (.t v), some (.r 0), some (.t (.int i)), x3]) (s := [.lst (List.replicate n (.t (.bl true)))]) ?_ (lk_self _) fun a q => ?_
  · by_cases c : i = 0
    · simp [seqM, ifM, blOf, Mi.bin, eqM, eqB, bD, eVar, eC, Res.bind_ok, Res.out_ok, optR_ok, dropM, callP, argsM, plains, n_least hg h, Res.out, Out.seq, c]
    · simp [seqM, ifM, blOf, Mi.bin, eqM, eqB, bD, eVar, eC, Res.bind_ok, Res.out_ok, optR_ok, dropM, callP, argsM, plains, n_most hg h, Res.out, Out.seq, c]
  · have ht : tyOk "list" [.lst (List.replicate n (.t (.bl true)))] (.r 0) = true := rfl
    have hl : n < LIM := by unfold LIM; omega
    simp [dropM, methM, eVar, eC, ht, hl, Res.bind_ok, Res.out_ok, argsM, andV, callB, isXB, kt_self, optR_ok, bD, tru, Mi.bin, xfM, List.lookup, hz, eqM, eqB, appG, optS, unset, List.replicate_succ']
end K02
/-! k2R28 -/
namespace K02
open Mi PySem
section
variable {S J C : List Str} {k : Nat} {u : Sto}
structure Line (x : T) : Prop where
  ex : ∃ es, x = .tup es ∧ es ≠ [] ∧ Its 4 20 es ∧ es.length ≤ 4
theorem LN_line (hS : Nms S) (hJ : Nms J) (hC : Nms C) {x : T} (h : LN S J C 2 x) : Line x := by
  have g := LN_gd hS hJ hC h
  have s := LN_sz h
  obtain ⟨es, rfl, ne, l4⟩ : ∃ es, x = .tup es ∧ es ≠ [] ∧ es.length ≤ 4 := by
    cases h <;> exact ⟨_, rfl, by simp, by simp⟩
  refine ⟨es, rfl, ne, ⟨fun t ht => ?_, ?_, by omega⟩, l4⟩
  · obtain ⟨m, e, _, h⟩ := gd_tup.mp g
    have : m = 4 := by omega
    subst this
    exact h t ht
  · have : Zn 2 = 21 := by decide
    rw [this] at s
    unfold sz at s
    omega
theorem run2_line : Line (.tup [.str "run", .int 2]) := ⟨_, rfl, by simp, ⟨memc (gd_str1 gd_words.1) (mem1 gd_int1), by simp [szs, sz], by simp⟩, by simp⟩
theorem Line.its {bs : List T} (h : ∀ x ∈ bs, Line x) (hl : bs.length ≤ 12) : Its 5 (12 * 21) bs := by
  refine ⟨fun x hx => ?_, ?_, by omega⟩
  · obtain ⟨es, rfl, _, i, _⟩ := h x hx
    exact i.tup.1
  · have : ∀ x ∈ bs, sz x ≤ 21 := fun x hx => by
      obtain ⟨es, rfl, _, i, _⟩ := h x hx
      exact i.tup.2
    exact Nat.le_trans (szs_le this) (Nat.mul_le_mul_right _ hl)
end
end K02
/-! k2S2 -/
namespace K02
open Mi PySem
theorem is_defP {n : Nat} {g : Mi.Env → Sto → Out} {ts : List T} {t : T} (h : (g (startE n (ts.map .t)) []).Is (fun _ _ => t = .non) fun d _ => d = .t t) : defP n g ts = .ok t := by
  unfold defP
  cases q : g (startE n (ts.map .t)) [] with
  | nx e s => rw [q] at h; have h : t = .non := h; rw [h]; rfl
  | rt d s => rw [q] at h; have h : d = .t t := h; rw [h]; rfl
  | bk => rw [q] at h; exact h.elim
  | ct => rw [q] at h; exact h.elim
  | exc => rw [q] at h; exact h.elim
  | bad => rw [q] at h; exact h.elim
theorem v_refused {xc : XC} {v : T} {j : Nat} (hg : gd j v = true) (h : body v = false) {z : Str} (hz : ∀ s, reprB [.t v] s = some (.t (.str z))) : m_law_refused xc [v] = .ok (.bl true) := by
  refine is_defP ?_
  show (b_law_refused xc [some (.t v), none, none, none] []).Is _ _
  unfold b_law_refused
  refine o_seq (Out.is_of (o' := .nx [some (.t v), some (.r 0), none, none] [.lst []]) rfl ?_)
  refine o_seq ?_
  unfold l_law_refused_1
  refine forR (r := 2) (s := [.lst []]) (fun p e s => ∃ x2 x3, e = [some (.t v), some (.r 0), x2, x3] ∧ s = [.lst (List.replicate p.length (.t (.bl true)))]) rfl (by decide) (by decide) ⟨_, _, rfl, rfl⟩ ?_ ?_
  · rintro p d e s ⟨x2, x3, rfl, rfl⟩ hd hl
    obtain ⟨i, _, rfl⟩ := upto_mem hd
    refine ⟨_, rfl, ?_⟩
    exact Out.is_of (ref_turn (i := 0 + (i : Nat)) (x3 := x3) hg h hz (n := p.length) (by have : (2 : Int).toNat = 2 := rfl; omega)) ⟨_, _, rfl, by rw [List.length_append]; rfl⟩
  · rintro e s ⟨x2, x3, rfl, rfl⟩
    rw [upto_len]
    exact o_ret <| is_bin <| is_var rfl <| is_lst <| is_cons <| is_C <| is_cons <| is_C <| is_nil ⟨_, rfl, _, rfl, rfl⟩
def NINE : List T := [.non, .lst [], .tup [.tup [.str "run", .int 0]], .tup [.tup [.str "loop", .int 2, .tup []]], .tup [.str "run", .int 1], .int 0, .str "", .tup [.tup []], .tup [.tup [.str "run", .bl true]]]
def shB (t : T) : Bool := match reprB [.t t] [] with
  | some (.t (.str _)) => true
  | _ => false
theorem NINE_ok : (NINE.all fun t => gd 3 t && (!body t && shB t)) = true := by decide +kernel
theorem repr_s (t : T) (s : Sto) : reprB [.t t] s = reprB [.t t] [] := by cases t <;> rfl
theorem sh_ex {t : T} (h : shB t = true) : ∃ z, ∀ s, reprB [.t t] s = some (.t (.str z)) := by
  unfold shB at h
  split at h
  · rename_i z q
    exact ⟨z, fun s => by rw [repr_s]; exact q⟩
  · cases h
theorem nine {xc : XC} {t : T} (h : t ∈ NINE) : m_law_refused xc [t] = .ok (.bl true) := by
  have := List.all_eq_true.mp NINE_ok t h
  simp only [Bool.and_eq_true, Bool.not_eq_true'] at this
  obtain ⟨z, hz⟩ := sh_ex this.2.2
  exact v_refused this.1 this.2.1 hz
theorem nth_seq {ts : List T} {n : Nat} : ∀ st i, (seqIt (.t (.lst ts)) n).nth st i = some (ts.map D.t)[i]? := fun _ _ => rfl
theorem t_not {b : Bool} {A B : Prop} (hb : b = true) (h : B) : if (!b) = true then A else B := by rw [hb]; exact h
/-- the nine things that are no bodies -/
theorem nine_turns {xc : XC} {x0 x1 x2 x3 x4 x5 x6 : Option D} {st : Sto} {B : D → Sto → Prop} : (l_law_1 xc [x0, x1, x2, x3, x4, x5, x6] st).Is (fun e s => (∃ x2, e = [x0, x1, x2, x3, x4, x5, x6]) ∧ s = st) B := by
  unfold l_law_1
  refine o_for (it := seqIt (.t (.lst NINE)) 9) (s := st) (ds := NINE.map .t) (fun _ e s => (∃ x2, e = [x0, x1, x2, x3, x4, x5, x6]) ∧ s = st) rfl nth_seq (by decide) ⟨⟨_, rfl⟩, rfl⟩ ?_ (fun _ _ h => h)
  rintro p d e s ⟨⟨x2, rfl⟩, rfl⟩ hd _
  obtain ⟨t, ht, rfl⟩ := List.mem_map.mp hd
  refine ⟨_, rfl, ?_⟩
  exact o_if <| is_not <| is_tru <| is_callP <| is_cons <| is_var rfl <| is_nil ⟨_, _, rfl, nine ht, true, rfl, t_not rfl <| o_nx ⟨⟨_, rfl⟩, rfl⟩⟩
end K02
/-! k2S3 -/
namespace K02
open Mi PySem
theorem ne_pr (p : Int × Int) (s : Sto) : neM (.t (.tup [.int p.1, .int p.2])) (.t (pr p)) s = some (.t (.bl false)) := by
  simp [neM, eqB, pr, pyD, pyT, pyTs, SeqAt.shaped, PyData.eqv, bD]
  exact ⟨⟨rfl, Nat.le_of_ble_eq_true rfl⟩, by simp [PyData.eqvAll, PyData.eqv]⟩
def deep : T := .tup [.tup [.str "loop", .int 5, .tup [.tup [.str "loop", .int 5, .tup [.tup [.str "run", .int 20]]], .tup [.str "run", .int 1]]]]
theorem deep_ok : (gd 9 deep && (body deep && (body (.tup []) && gd 9 (.tup [])))) = true := by decide +kernel
theorem deep_tk : tkB 4 deep = (0, 505) ∧ tkB 4 (.tup []) = (0, 0) := by decide +kernel
theorem ne_four (s : Sto) : neM (.t (.lst [.int 0, .int 505, .int 0, .int 0])) (.t (.lst [.int 0, .int 505, .int 0, .int 0])) s = some (.t (.bl false)) := by
  simp [neM, eqB, pyD, pyT, pyTs, SeqAt.shaped, PyData.eqv, bD]
  exact ⟨⟨rfl, Nat.le_of_ble_eq_true rfl⟩, by simp [PyData.eqvAll, PyData.eqv]⟩
def yes (d : D) (_ : Sto) : Prop := d = .t (.bl true)
theorem is_no {P Q : Prop} {b : Bool} (hb : b = false) (h : Q) : if b = true then P else Q := by rw [hb, if_neg (by decide)]; exact h
theorem nms_ab : Nms ["a", "b"] := ⟨fun s hs => by
  simp only [List.mem_cons, List.not_mem_nil, or_false] at hs
  rcases hs with rfl | rfl <;> exact ⟨by decide +kernel, by decide +kernel, by decide +kernel, by decide +kernel⟩, by decide⟩
theorem nms_t : Nms ["t"] := ⟨fun s hs => by
  rw [List.mem_singleton.mp hs]
  exact ⟨by decide +kernel, by decide +kernel, by decide +kernel, by decide +kernel⟩, by decide⟩
theorem nms_n : Nms ["n"] := ⟨fun s hs => by
  rw [List.mem_singleton.mp hs]
  exact ⟨by decide +kernel, by decide +kernel, by decide +kernel, by decide +kernel⟩, by decide⟩
/-- one piece: where it is a body the ticks are alike -/
theorem piece {xc : XC} {w : T} (hg : gd 20 w = true) (hz : sz w ≤ 1000) {x0 x1 x2 x3 x4 x5 : Option D} {st : Sto} {N : Mi.Env → Sto → Prop} {B : D → Sto → Prop} (h : N [x0, x1, x2, x3, x4, x5, some (.t w)] st) :
    (ifM (andM (truM (callP m_law_is_body [eVar 6])) (fun env st => blOf (Mi.bin neM (tupM [callP (m_least_ticks xc) [eVar 6], callP (m_most_ticks xc) [eVar 6]]) (callP (g_law_ticks 6) [eVar 6]) env st))) (retM (eC (.bl false))) (nxM) [x0, x1, x2, x3, x4, x5, some (.t w)] st).Is N B := by
  obtain ⟨_, b2⟩ := both (by decide) hg hz
  refine o_if <| is_and <| is_tru <| is_callP <| is_cons <| is_var rfl <| is_nil ⟨_, _, rfl, b2, body w, rfl, ?_⟩
  cases hb : body w with
  | false => rw [if_neg (by decide)]; exact is_no rfl <| o_nx h
  | true =>
    rw [if_pos rfl]
    refine is_bl <| is_bin <| is_tup <| is_cons <| is_callP <| is_cons <| is_var rfl <| is_nil ⟨_, _, rfl, v_least hg hb, is_cons <| is_callP <| is_cons <| is_var rfl <| is_nil ⟨_, _, rfl, v_most hg hb, is_nil ⟨_, rfl, ?_⟩⟩⟩
    refine is_callP <| is_cons <| is_var rfl <| is_nil ⟨_, _, rfl, v_ltk hb, _, ne_pr _ _, false, rfl, is_no rfl <| o_nx h⟩
/-- the four pieces of a drawn body -/
theorem four {xc : XC} {ts : List T} (hi : Its 5 (12 * 21) ts) {x0 x1 x2 x3 x4 x6 : Option D} {st : Sto} {B : D → Sto → Prop} : (l_law_2 xc [x0, x1, x2, x3, x4, some (.t (.tup ts)), x6] st).Is (fun e s => (∃ x6, e = [x0, x1, x2, x3, x4, some (.t (.tup ts)), x6]) ∧ s = st) B := by
  unfold l_law_2
  let W : List T := [.tup ts, .tup (cutG ts none (some 2)), .tup [.tup [.str "either", .tup (cutG ts none (some 1)), .tup [.tup [.str "run", .int 3]]]], .tup [.tup [.str "when", .str "n", .tup (cutG ts none (some 2)), .tup []]]]
  have ok : ∀ w ∈ W, gd 20 w = true ∧ sz w ≤ 1000 := by
    have a2 := (hi.sub (cutG_sub ts none (some 2))).tup
    have a1 := (hi.sub (cutG_sub ts none (some 1))).tup
    have e0 : ∀ n, gd (n + 1) (.tup []) = true := fun n => gd_t (by simp) fun t h => by simp at h
    have r3 : gd 6 (.tup [.tup [.str "run", .int 3]]) = true := gd_t (by simp) (mem1 (gd_t (by simp) (memc (gd_str1 gd_words.1) (mem1 gd_int1))))
    refine memc ⟨gd_to hi.tup.1 (by decide), by have := hi.tup.2; omega⟩ <| memc ⟨gd_to a2.1 (by decide), by have := a2.2; omega⟩ <| memc ⟨gd_to (n := 8) ?_ (by decide), ?_⟩ <| mem1 ⟨gd_to (n := 8) ?_ (by decide), ?_⟩
    · exact gd_t (by simp) (mem1 (gd_t (by simp) (memc (gd_str1 gd_words.2.2.2.2.1) (memc a1.1 (mem1 r3)))))
    · have := a1.2; simp only [sz, szs] at this ⊢; omega
    · exact gd_t (by simp) (mem1 (gd_t (by simp) (memc (gd_str1 gd_words.2.2.2.2.2.1) (memc (gd_str1 (by decide +kernel)) (memc a2.1 (mem1 (e0 5)))))))
    · have := a2.2; simp only [sz, szs] at this ⊢; omega
  refine o_for (it := seqIt (.t (.lst W)) 4) (s := st) (ds := W.map .t) (fun _ e s => (∃ x6, e = [x0, x1, x2, x3, x4, some (.t (.tup ts)), x6]) ∧ s = st) rfl nth_seq (Nat.le_refl _) ⟨⟨_, rfl⟩, rfl⟩ ?_ (fun _ _ h => h)
  rintro p d e s ⟨⟨x6, rfl⟩, rfl⟩ hd _
  obtain ⟨t, ht, rfl⟩ := List.mem_map.mp hd
  exact ⟨_, rfl, piece (ok t ht).1 (ok t ht).2 ⟨⟨_, rfl⟩, rfl⟩⟩
theorem mxn (n : Nat) : 1 ≤ mx 1 (mn 30 n) ∧ mx 1 (mn 30 n) ≤ 30 := by
  unfold mx mn
  split <;> split <;> omega
theorem m_true (xc : XC) (ns : List Int) : (m_law xc [script ns] []).Is yes := by
  refine is_defG ?_
  show (b_law xc [some (script ns), none, none, none, none, none, none] []).Is _ _
  unfold b_law
  have dk := deep_ok
  simp only [Bool.and_eq_true] at dk
  obtain ⟨g1, c1, c2, g2⟩ := dk
  refine o_seq (Out.is_of (o' := .nx [some (script ns), some (.t deep), none, none, none, none, none] []) rfl ?_)
  refine o_seq <| o_if <| is_bl <| is_bin <| is_lst <| is_cons <| is_callP <| is_cons <| is_var rfl <| is_nil ⟨_, _, rfl, v_least g1 c1, is_cons <| is_callP <| is_cons <| is_var rfl <| is_nil ⟨_, _, rfl, v_most g1 c1, is_cons <| is_callP <| is_cons <| is_tup <| is_nil ⟨_, rfl, is_nil ⟨_, _, rfl, v_least g2 c2, is_cons <| is_callP <| is_cons <| is_tup <| is_nil ⟨_, rfl, is_nil ⟨_, _, rfl, v_most g2 c2, is_nil ⟨_, rfl, ?_⟩⟩⟩⟩⟩⟩⟩
  rw [deep_tk.1, deep_tk.2]
  refine is_lst <| is_cons <| is_C <| is_cons <| is_C <| is_cons <| is_C <| is_cons <| is_C <| is_nil ⟨_, rfl, _, ne_four _, false, rfl, is_no rfl <| o_nx ?_⟩
  refine o_seq <| nine_turns.imp (fun e s ⟨⟨x2, ee⟩, es⟩ => ?_) fun _ _ h => h
  subst ee es
  refine o_seq ?_
  unfold l_law_3
  obtain ⟨r1, r2⟩ := mxn ns.length
  refine forR (r := mx 1 (mn 30 ns.length)) (s := []) (fun _ e s => (∃ x1 x2 x3 x4 x5 x6, e = [some (script ns), x1, x2, x3, x4, x5, x6]) ∧ Pl s) ?_ (by unfold B62; omega) (by unfold B62; omega) ⟨⟨_, _, _, _, _, _, rfl⟩, rfl⟩ ?_ ?_
  · have v0 : ∀ s, eVar 0 [some (script ns), some (.t deep), x2, none, none, none, none] s = .ok (script ns) s := fun _ => rfl
    simp only [argsM, callB, v0, eC, Res.bind_ok, len_scr, optR_ok, min_2, max_2]
  · rintro p d e s ⟨⟨x1, x2, x3, x4, x5, x6, rfl⟩, hs⟩ hd _
    refine ⟨_, rfl, ?_⟩
    obtain ⟨i, hi, rfl⟩ := upto_mem hd
    rw [Int.zero_add]
    obtain ⟨st', e1, pa, l1, a, q, e2⟩ := v_pool ns i (by omega) s
    have h1 : I s.length st' st' := ⟨pa, rfl, by rw [e2, pool_pl]; exact hs.app _, fun _ _ => rfl⟩
    refine o_seq <| o_set <| is_callG <| is_cons <| is_var rfl <| is_cons <| is_var rfl <| is_nil <| Res.is_of e1 ?_
    refine o_seq <| o_set <| is_callG <| is_cons <| is_var rfl <| is_cons <| is_lst <| is_cons <| is_C <| is_cons <| is_C <| is_nil ⟨_, rfl, is_cons <| is_lst <| is_cons <| is_C <| is_nil ⟨_, rfl, is_cons <| is_lst <| is_cons <| is_C <| is_nil ⟨_, rfl, is_cons <| is_C <| is_nil ?_⟩⟩⟩
    refine (body_lines nms_ab nms_t nms_n (by simp) (u := st') (by omega) 7 (by decide) (by decide) st' h1).imp fun d s2 ⟨⟨ts, ed, hts⟩, h2⟩ => ?_
    subst ed
    have len7 : ts.length ≤ 7 := by
      rcases hts with h | h
      · have := h.2.1; omega
      · rw [h]; decide
    have lines : ∀ x ∈ ts, Line x := fun x hx => by
      rcases hts with h | h
      · exact LN_line nms_ab nms_t nms_n (h.1 x hx)
      · rw [h] at hx; rw [List.mem_singleton.mp hx]; exact run2_line
    have it := Line.its lines (by omega)
    exact (four it).imp (fun e s ⟨⟨y6, ee⟩, es⟩ => ⟨⟨_, _, _, _, _, _, ee⟩, by rw [es]; exact h2.b⟩) fun _ _ h => h
  · rintro e s ⟨⟨x1, x2, x3, x4, x5, x6, rfl⟩, hs⟩
    exact o_ret <| is_C rfl
theorem truth (xc : XC) (ns : List Int) (_ : ns.length ≤ 63) : ∃ st, m_law xc [script ns] [] = .ok (.t (.bl true)) st := by
  obtain ⟨d, s, e, rfl⟩ := (m_true xc ns).get
  exact ⟨s, e⟩
end K02
open PyProof.Rows PySem PySem.W
set_option maxHeartbeats 0 in
theorem PySem.Challenge.cw_interruptruns_k02_least_and_most_ticks_holds : PySem.Challenge.rw_interruptruns_k02_least_and_most_ticks.Holds := by
  w_on; o_law; k_head; (case hw => w_witness2); k_fill
  refine Mi.law_endX (l := PySem.Challenge.rw_interruptruns_k02_least_and_most_ticks) (n := 63) (k := 21) (x := "_law_script") (m := K02.m_law) rfl (by decide) rfl ⟨rfl, by decide, by decide⟩ (fun w h Y => PySem.W.kIn_of Y) ?F (fun xc ns hn => K02.truth xc ns hn)
  case F =>
    intro w mg fa h KX G hmg
    refine' K02.all_mk KX G hmg ?a0 ?l0 ?c0 ?k0 ?a1 ?l1 ?c1 ?k1 ?a2 ?l2 ?c2 ?k2 ?a3 ?l3 ?c3 ?k3 ?a4 ?l4 ?c4 ?k4 ?a5 ?l5 ?c5 ?k5 ?a6 ?l6 ?c6 ?k6 ?a7 ?l7 ?c7 ?k7 ?a8 ?l8 ?c8 ?k8 ?a9 ?l9 ?c9 ?k9 ?a10 ?l10 ?c10 ?k10 ?a11 ?l11 ?c11 ?k11 ?a12 ?l12 ?c12 ?k12 ?a13 ?l13 ?c13 ?k13 ?a14 ?l14 ?c14 ?k14 ?a15 ?l15 ?c15 ?k15 ?a16 ?l16 ?c16 ?k16 ?a17 ?l17 ?c17 ?k17 ?a18 ?l18 ?c18 ?k18 ?a19 ?l19 ?c19 ?k19 ?a20 ?l20 ?c20 ?k20 ?a21 ?l21 ?c21 ?k21 ?a22 ?l22 ?c22 ?k22 ?a23 ?l23 ?c23 ?k23 ?a24 ?l24 ?c24 ?k24 ?a25 ?l25 ?c25 ?k25 ?a26 ?l26 ?c26 ?k26 ?a27 ?l27 ?c27 ?k27 ?z0 ?z1 ?z2 ?z3 ?z4 ?z5 ?z6 ?z7 ?z8 ?z9 ?z10 ?z11 ?z12 ?x0 ?r0 ?x1 ?r1 ?x2 ?r2 ?x3 ?r3 ?x4 ?r4 ?t0 ?m0 ?q0 ?w0 ?e0 ?t1 ?m1 ?q1 ?w1 ?e1 ?xa0 ?xa1 ?yo0 ?ysa0 ?yex0 ?yty0 ?ykc0 ?yga0 ?ygg0 ?yhd0 ?yno0 ?ycl0 ?ymr0 ?ysp ?ytk ?xi0 ?li0 ?ci0 ?ki0 ?xt0 ?xe0_0 ?xk0_1
    (case a0 => k_is); (case l0 => k_is); (case c0 => k_is); (case k0 => k_is); (case a1 => k_is); (case l1 => k_is); (case c1 => k_is); (case k1 => k_is); (case a2 => k_is); (case l2 => k_is); (case c2 => k_is); (case k2 => k_is); (case a3 => k_is); (case l3 => k_is); (case c3 => k_is); (case k3 => k_is); (case a4 => k_is); (case l4 => k_is); (case c4 => k_is); (case k4 => k_is); (case a5 => k_is); (case l5 => k_is); (case c5 => k_is); (case k5 => k_is); (case a6 => k_is); (case l6 => k_is); (case c6 => k_is); (case k6 => k_is); (case a7 => k_is); (case l7 => k_is); (case c7 => k_is); (case k7 => k_is); (case a8 => k_is); (case l8 => k_is); (case c8 => k_is); (case k8 => k_is); (case a9 => k_is); (case l9 => k_is); (case c9 => k_is); (case k9 => k_is); (case a10 => k_is); (case l10 => k_is); (case c10 => k_is); (case k10 => k_is); (case a11 => k_is); (case l11 => k_is); (case c11 => k_is); (case k11 => k_is); (case a12 => k_is); (case l12 => k_is); (case c12 => k_is); (case k12 => k_is); (case a13 => k_is); (case l13 => k_is); (case c13 => k_is); (case k13 => k_is); (case a14 => k_is); (case l14 => k_is); (case c14 => k_is); (case k14 => k_is); (case a15 => k_is); (case l15 => k_is); (case c15 => k_is); (case k15 => k_is); (case a16 => k_is); (case l16 => k_is); (case c16 => k_is); (case k16 => k_is); (case a17 => k_is); (case l17 => k_is); (case c17 => k_is); (case k17 => k_is); (case a18 => k_is); (case l18 => k_is); (case c18 => k_is); (case k18 => k_is); (case a19 => k_is); (case l19 => k_is); (case c19 => k_is); (case k19 => k_is); (case a20 => k_is); (case l20 => k_is); (case c20 => k_is); (case k20 => k_is); (case a21 => k_is); (case l21 => k_is); (case c21 => k_is); (case k21 => k_is); (case a22 => k_is); (case l22 => k_is); (case c22 => k_is); (case k22 => k_is); (case a23 => k_is); (case l23 => k_is); (case c23 => k_is); (case k23 => k_is); (case a24 => k_is); (case l24 => k_is); (case c24 => k_is); (case k24 => k_is); (case a25 => k_is); (case l25 => k_is); (case c25 => k_is); (case k25 => k_is); (case a26 => k_is); (case l26 => k_is); (case c26 => k_is); (case k26 => k_is); (case a27 => k_is); (case l27 => k_is); (case c27 => k_is); (case k27 => k_is); (case z0 => k_is); (case z1 => k_is); (case z2 => k_is); (case z3 => k_is); (case z4 => k_is); (case z5 => k_is); (case z6 => k_is); (case z7 => k_is); (case z8 => k_is); (case z9 => k_is); (case z10 => k_is); (case z11 => k_is); (case z12 => k_is); (case x0 => k_is); (case x1 => k_is); (case x2 => k_is); (case x3 => k_is); (case x4 => k_is); (case t0 => k_is); (case m0 => k_is); (case t1 => k_is); (case m1 => k_is); (case xa0 => k_is); (case xa1 => k_is); (case ysa0 => k_is); (case yex0 => k_is); (case yty0 => k_is); (case ykc0 => k_is); (case yga0 => k_is); (case ygg0 => k_is); (case yhd0 => k_is); (case yno0 => k_is); (case ycl0 => k_is); (case ymr0 => k_is); (case ysp => k_is); (case ytk => k_is); (case xi0 => k_is); (case li0 => k_is); (case ci0 => k_is); (case ki0 => k_is); (case xt0 => k_is)
    (case r0 => rfl); (case r1 => rfl); (case r2 => rfl); (case r3 => rfl); (case r4 => rfl); (case q0 => exact ⟨⟨_, _, rfl, rfl⟩, ⟨⟨_, _, rfl, rfl⟩, ⟨⟨_, _, rfl, rfl⟩, ⟨⟨_, _, rfl, rfl⟩, trivial⟩⟩⟩⟩); (case w0 => rfl); (case e0 => rfl); (case q1 => exact ⟨⟨_, _, rfl, rfl⟩, ⟨⟨_, _, rfl, rfl⟩, ⟨⟨_, _, rfl, rfl⟩, ⟨⟨_, _, rfl, rfl⟩, ⟨⟨_, _, rfl, rfl⟩, ⟨⟨_, _, rfl, rfl⟩, ⟨⟨_, _, rfl, rfl⟩, ⟨⟨_, _, rfl, rfl⟩, ⟨⟨_, _, rfl, rfl⟩, ⟨⟨_, _, rfl, rfl⟩, ⟨⟨_, _, rfl, rfl⟩, ⟨⟨_, _, rfl, rfl⟩, trivial⟩⟩⟩⟩⟩⟩⟩⟩⟩⟩⟩⟩); (case w1 => rfl); (case e1 => rfl); (case yo0 => exact ⟨_, _, _, _, _, _, _, _, _, _, _, _, _, _, _, rfl, rfl⟩); (case xe0_0 => rfl); (case xk0_1 => rfl)
