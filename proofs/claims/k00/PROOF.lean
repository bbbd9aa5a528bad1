import PyProof.Rows.All
import Wide.All
import OpenK.AllK
import Wide.FinOn
import HandS.Lambda
import HandS.Words
import HandS.ForMost
import HandS.ForExc
import HandS.ExcInit
import HandS.TupAny
import HandS.TupMul
import HandS.Deep
import HandS.IsInst
import HandS.Walk
import HandS.NoneIn
import HandS.Zip
import HandS.ExcCtx
import HandS.CallSlots
import KE.DatumIndex
import KE.GoesNew
import HandS.Iter
import HandS.SetBool
import HandS.DictComp
import HandS.TupSets
import HandS.MakeKw
import HandS.MakeKwOnly
import HandS.Defaults
import HandS.ExcValue
import KE.KExcInit
import HandS.ExcField
import HandS.ExcIs
import HandS.HotCalls
import HandS.More
import HandS.WordsDict
import HandS.DictTup
import KE.KDictSum
import HandS.SetFor
import HandS.Strs
import HandS.StrMore
import HandS.Text
import HandS.Rev
import HandS.Flow
import HandS.Nested
import HandS.Hot
import HandS.Conv
import HandS.EndTab
import KE.KNestM
import PySem.Challenge.RW_makefirst_k00_errors_and_what_they_keep
section
set_option Elab.async false
set_option linter.all false
/-! MF0: the one text of the layer that speaks of a program: which lambdas may leave the def that makes them. -/
namespace MF
open PySem PySem.Spec PyProof.Rows L2
structure LamI where
  qual : Str
  params : Arguments
  body : Expr
  scope : Scope
def lamOf (q : Str) : Stmt → LamI
  | .Return (some (.Lambda p b sc _)) _ => ⟨q, p, b, sc⟩
  | _ => ⟨q, ⟨[], [], none, [], [], none, []⟩, .Constant .none 0 ⟨0, 0, 0, 0⟩, ⟨.function, [], false, false, []⟩⟩
def inIf : Stmt → Stmt
  | .If _ (s :: _) _ _ => s
  | s => s
def top0 (i : Nat) : Stmt := PySem.Challenge.pw_makefirst_k00_errors_and_what_they_keep.main.body.getD i (.Pass ⟨0, 0, 0, 0⟩)
/-- the lambdas by their number: 0 the first that group_steps makes -/
def LT : Nat → LamI
  | 0 => lamOf "group_steps.<locals>.<lambda>" (inIf ((defBody (top0 71)).getD 0 (.Pass ⟨0, 0, 0, 0⟩)))
  | _ => lamOf "" (.Pass ⟨0, 0, 0, 0⟩)
/-- the object at a, whole -/
def atO (a : Addr) (o : Obj) : HO := .ext fun h => h.get? a = some o
/-- the cell at c holds v -/
def cellO (c : Addr) (v : V) : HO := .ext fun h => ∃ o u, h.get? c = some o ∧ o.data = .cell (some u) ∧ RelV v u
end MF
end
section
set_option Elab.async false
set_option linter.all false
set_option maxRecDepth 100000
set_option maxHeartbeats 4000000
/-! MF1: values D, stores, the state relation, results, readings made of functions. -/
namespace MF
open PySem PySem.Spec PyProof.Rows L2

/-- a value of a program: data (lists that nobody changes any more, tuples), an object that may change, a fixed instance, a fixed dict -/
inductive D where
  | non | bl (b : Bool) | int (i : Int) | str (x : Str)
  | lst (xs : List D) | tup (xs : List D)
  /-- a list that is only read: the script -/
  | scr (xs : List D)
  /-- a tuple of the program's own top: a default -/
  | ctp (xs : List D)
  | loc (n : Nat)
  | ins (C : Addr) (fs : List (Str × D))
  | dct (kvs : List (List Key × D))
  /-- a dict with int and text keys -/
  | dik (kvs : List (Key × D))
  /-- an exception's object of the class C, its one field -/
  | exc (C : Addr) (f : Str) (d : D)
  /-- a lambda that has left its maker: its number, the one name that it took along, what that holds -/
  | clo (n : Nat) (x : Str) (d : D)
  /-- some object, nothing known -/
  | adr (a : Addr)
deriving Inhabited
/-- an object that may change -/
inductive Ob where
  | lst (xs : List D)
  | dct (kvs : List (List Key × D))
  | dik (kvs : List (Key × D))
  | ins (C : Addr) (fs : List (Str × D))
  /-- a table of code objects that bear the name q -/
  | tab (p : Addr) (q : Str)
abbrev S := List Ob

inductive R (α : Type) where
  | ok (a : α) (st : S)
  | ex (c : Addr) (f : Str) (p : D) (st : S)
  | stuck
def R.bind {α β : Type} (r : R α) (k : α → S → R β) : R β := match r with
  | .ok a st => k a st
  | .ex c f p st => .ex c f p st
  | .stuck => .stuck
abbrev Env := List (Option D)

variable (K : PySem.W.Frag)
/-- a list, a tuple that stays: not among the objects that may change -/
def FzL (ι : List Addr) (H : Hp) (a : Addr) (xs : List V) : Prop := (a ∉ ι ∧ Rd H a (.lst xs)) ∨
    ∃ (o : Obj) (its : Array Value) (n : Nat), K.lookup a = some o ∧ o.cls = .type "list" ∧ o.dict = none ∧ o.data = .seq its n ∧ its.size ≤ sizeLine ∧ Vals xs its.toList
def FzT (_K : PySem.W.Frag) (ι : List Addr) (H : Hp) (a : Addr) (xs : List V) : Prop := a ∉ ι ∧ H a = some (.tup xs)
/-- a tuple that stands in the text's own objects -/
def KTup (a : Addr) (xs : List V) : Prop := ∃ (o : Obj) (its : Array Value) (n : Nat), K.lookup a = some o ∧ o.cls = .type "tuple" ∧ o.data = .seq its n ∧ its.size ≤ sizeLine ∧ Vals xs its.toList
/-- at a an exception's object, made or caught -/
def exw (a C d : Addr) : HO := .ext fun h => ∃ (oe : Obj) (vs : Array Value), h.get? a = some oe ∧ oe.cls = .ref C ∧ oe.dict = some d ∧ oe.data = .fields vs ∧ vs[2]? = some .none
mutual
inductive Den (ι : List Addr) (H : Hp) : V → D → Prop
  | non : Den ι H .non .non
  | bl (b : Bool) : Den ι H (.bl b) (.bl b)
  | int (i : Int) : Den ι H (.int i) (.int i)
  | str (x : Str) : Den ι H (.str x) (.str x)
  | lst {a : Addr} {xs : List V} {ds : List D} (hn : a ∉ ι) (h : H a = some (.lst xs)) (hs : DenL ι H xs ds) : Den ι H (.ref a) (.lst ds)
  | scr {a : Addr} {xs : List V} {ds : List D} (h : FzL K ι H a xs) (hs : DenL ι H xs ds) : Den ι H (.ref a) (.scr ds)
  | ctp {a : Addr} {xs : List V} {ds : List D} (h : KTup K a xs) (hs : DenL ι H xs ds) : Den ι H (.ref a) (.ctp ds)
  | tup {a : Addr} {xs : List V} {ds : List D} (h : FzT K ι H a xs) (hs : DenL ι H xs ds) : Den ι H (.ref a) (.tup ds)
  | loc {a : Addr} {n : Nat} (h : ι[n]? = some a) : Den ι H (.ref a) (.loc n)
  | ins {a C dx : Addr} {fs : List (Str × V)} {gs : List (Str × D)} (hn : a ∉ ι) (h : H a = some (.ins C dx fs)) (hs : DenF ι H fs gs) : Den ι H (.ref a) (.ins C gs)
  | dct {a : Addr} {fs : List (List Key × V)} {gs : List (List Key × D)} (hn : a ∉ ι) (h : H a = some (.dT fs)) (hs : DenK ι H fs gs) : Den ι H (.ref a) (.dct gs)
  | dik {a : Addr} {fs : List (Key × V)} {gs : List (Key × D)} (hn : a ∉ ι) (h : H a = some (.dK fs)) (hs : DenI ι H fs gs) : Den ι H (.ref a) (.dik gs)
  | exc {a C dx : Addr} {f : Str} {v : V} {d : D} (hn : a ∉ ι) (h : H a = some (exw a C dx)) (hx : dx ∉ ι) (h2 : H dx = some (.xd [(f, v)])) (hd : Den ι H v d) : Den ι H (.ref a) (.exc C f d)
  | clo {f c c' : Addr} {n : Nat} {x : Str} {pm ctv : Value} {v : V} {d : D} (hn : f ∉ ι) (h : H f = some (atO f (PySem.W.kla_obj "<lambda>" (LT n).qual (LT n).params (LT n).body (LT n).scope [(x, c)] pm c' ctv))) (hn1 : c' ∉ ι) (h1 : H c' = some (LamX.CodeO c' (LT n).qual)) (hn2 : c ∉ ι) (h2 : H c = some (cellO c v)) (hd : Den ι H v d) : Den ι H (.ref f) (.clo n x d)
  | adr (a : Addr) : Den ι H (.ref a) (.adr a)
inductive DenL (ι : List Addr) (H : Hp) : List V → List D → Prop
  | nil : DenL ι H [] []
  | cons {v : V} {vs : List V} {d : D} {ds : List D} : Den ι H v d → DenL ι H vs ds → DenL ι H (v :: vs) (d :: ds)
inductive DenF (ι : List Addr) (H : Hp) : List (Str × V) → List (Str × D) → Prop
  | nil : DenF ι H [] []
  | cons {f : Str} {v : V} {vs : List (Str × V)} {d : D} {ds : List (Str × D)} : Den ι H v d → DenF ι H vs ds → DenF ι H ((f, v) :: vs) ((f, d) :: ds)
inductive DenK (ι : List Addr) (H : Hp) : List (List Key × V) → List (List Key × D) → Prop
  | nil : DenK ι H [] []
  | cons {f : List Key} {v : V} {vs : List (List Key × V)} {d : D} {ds : List (List Key × D)} : Den ι H v d → DenK ι H vs ds → DenK ι H ((f, v) :: vs) ((f, d) :: ds)
inductive DenI (ι : List Addr) (H : Hp) : List (Key × V) → List (Key × D) → Prop
  | nil : DenI ι H [] []
  | cons {f : Key} {v : V} {vs : List (Key × V)} {d : D} {ds : List (Key × D)} : Den ι H v d → DenI ι H vs ds → DenI ι H ((f, v) :: vs) ((f, d) :: ds)
end
/-- a step: what may not change stands, what may change keeps its number -/
structure Stp (ι : List Addr) (H : Hp) (ι' : List Addr) (H' : Hp) : Prop where
  pre : ι <+: ι'
  keep : ∀ a o, a ∉ ι → (∀ ps, o ≠ .tbl ps) → H a = some o → a ∉ ι' ∧ H' a = some o
theorem ext_tbl {φ : Heap → Prop} {ps : Array Value} : HO.ext φ ≠ .tbl ps := fun z => nomatch z
theorem Stp.refl {ι : List Addr} {H : Hp} : Stp ι H ι H := ⟨List.prefix_refl _, fun _ _ n _ h => ⟨n, h⟩⟩
theorem Stp.trans {ι ι1 ι2 : List Addr} {H H1 H2 : Hp} (a : Stp ι H ι1 H1) (b : Stp ι1 H1 ι2 H2) : Stp ι H ι2 H2 :=
  ⟨a.pre.trans b.pre, fun c o n t h => let ⟨n1, h1⟩ := a.keep c o n t h; b.keep c o n1 t h1⟩
variable {K} {ι ι' : List Addr} {H H' : Hp}
theorem Stp.rd (s : Stp ι H ι' H') {a : Addr} {u : HO} (n : a ∉ ι) (t : ∀ ps, u ≠ .tbl ps) (h : Rd H a u) : a ∉ ι' ∧ Rd H' a u := by
  rcases h with h | ⟨o, h⟩
  · exact ⟨(s.keep a _ n t h).1, .inl (s.keep a _ n t h).2⟩
  · exact ⟨(s.keep a _ n (by intro _ z; cases z) h).1, .inr ⟨o, (s.keep a _ n (by intro _ z; cases z) h).2⟩⟩
theorem Stp.fzl (s : Stp ι H ι' H') {a : Addr} {xs : List V} (h : FzL K ι H a xs) : FzL K ι' H' a xs := by
  rcases h with ⟨n, h⟩ | h
  · exact .inl (s.rd n (by intro _ z; cases z) h)
  · exact .inr h
theorem Stp.fzt (s : Stp ι H ι' H') {a : Addr} {xs : List V} (h : FzT K ι H a xs) : FzT K ι' H' a xs := s.keep _ _ h.1 (by intro _ z; cases z) h.2
theorem FzL.sq {a : Addr} {xs : List V} (h : FzL K ι H a xs) : SqL K H a xs := by
  rcases h with ⟨_, h⟩ | h
  · exact .inl h
  · exact .inr h
theorem FzT.sq {a : Addr} {xs : List V} (h : FzT K ι H a xs) : SqT K H a xs := .inl (.inl h.2)
theorem Stp.get (s : Stp ι H ι' H') {n : Nat} {a : Addr} (h : ι[n]? = some a) : ι'[n]? = some a := by
  obtain ⟨t, e⟩ := s.pre
  rw [← e, List.getElem?_append_left (List.getElem?_eq_some_iff.mp h).1]
  exact h
mutual
theorem Den.stp (s : Stp ι H ι' H') : ∀ {v : V} {d : D}, Den K ι H v d → Den K ι' H' v d
  | _, _, .non => .non
  | _, _, .bl b => .bl b
  | _, _, .int i => .int i
  | _, _, .str x => .str x
  | _, _, .lst hn h hs => .lst (s.keep _ _ hn (by intro _ z; cases z) h).1 (s.keep _ _ hn (by intro _ z; cases z) h).2 (DenL.stp s hs)
  | _, _, .scr h hs => .scr (s.fzl h) (DenL.stp s hs)
  | _, _, .tup h hs => .tup (s.fzt h) (DenL.stp s hs)
  | _, _, .ctp h hs => .ctp h (DenL.stp s hs)
  | _, _, .loc h => .loc (s.get h)
  | _, _, .ins hn h hs => .ins (s.keep _ _ hn (by intro _ z; cases z) h).1 (s.keep _ _ hn (by intro _ z; cases z) h).2 (DenF.stp s hs)
  | _, _, .dct hn h hs => .dct (s.keep _ _ hn (by intro _ z; cases z) h).1 (s.keep _ _ hn (by intro _ z; cases z) h).2 (DenK.stp s hs)
  | _, _, .dik hn h hs => .dik (s.keep _ _ hn (by intro _ z; cases z) h).1 (s.keep _ _ hn (by intro _ z; cases z) h).2 (DenI.stp s hs)
  | _, _, .exc hn h hx h2 hd => .exc (s.keep _ _ hn (fun _ => ext_tbl) h).1 (s.keep _ _ hn (fun _ => ext_tbl) h).2 (s.keep _ _ hx (by intro _ z; cases z) h2).1 (s.keep _ _ hx (by intro _ z; cases z) h2).2 (Den.stp s hd)
  | _, _, .clo hn h hn1 h1 hn2 h2 hd => .clo (s.keep _ _ hn (fun _ => ext_tbl) h).1 (s.keep _ _ hn (fun _ => ext_tbl) h).2 (s.keep _ _ hn1 (fun _ => ext_tbl) h1).1 (s.keep _ _ hn1 (fun _ => ext_tbl) h1).2 (s.keep _ _ hn2 (fun _ => ext_tbl) h2).1 (s.keep _ _ hn2 (fun _ => ext_tbl) h2).2 (Den.stp s hd)
  | _, _, .adr a => .adr a
theorem DenL.stp (s : Stp ι H ι' H') : ∀ {v : List V} {d : List D}, DenL K ι H v d → DenL K ι' H' v d
  | _, _, .nil => .nil
  | _, _, .cons h hs => .cons (Den.stp s h) (DenL.stp s hs)
theorem DenF.stp (s : Stp ι H ι' H') : ∀ {v : List (Str × V)} {d : List (Str × D)}, DenF K ι H v d → DenF K ι' H' v d
  | _, _, .nil => .nil
  | _, _, .cons h hs => .cons (Den.stp s h) (DenF.stp s hs)
theorem DenK.stp (s : Stp ι H ι' H') : ∀ {v : List (List Key × V)} {d : List (List Key × D)}, DenK K ι H v d → DenK K ι' H' v d
  | _, _, .nil => .nil
  | _, _, .cons h hs => .cons (Den.stp s h) (DenK.stp s hs)
theorem DenI.stp (s : Stp ι H ι' H') : ∀ {v : List (Key × V)} {d : List (Key × D)}, DenI K ι H v d → DenI K ι' H' v d
  | _, _, .nil => .nil
  | _, _, .cons h hs => .cons (Den.stp s h) (DenI.stp s hs)
end
theorem DenL.length : ∀ {vs : List V} {ds : List D}, DenL K ι H vs ds → vs.length = ds.length
  | _, _, .nil => rfl
  | _, _, .cons _ hs => by rw [List.length_cons, List.length_cons, DenL.length hs]
theorem DenL.get : ∀ {vs : List V} {ds : List D} {i : Nat} {d : D}, DenL K ι H vs ds → ds[i]? = some d → ∃ v, vs[i]? = some v ∧ Den K ι H v d
  | _, _, _, _, .nil, e => by simp at e
  | _, _, 0, _, .cons h _, e => by simp at e; subst e; exact ⟨_, rfl, h⟩
  | _, _, i + 1, d, .cons _ hs, e => by
    obtain ⟨v, h1, h2⟩ := DenL.get (i := i) (d := d) hs (by simpa using e)
    exact ⟨v, by simpa using h1, h2⟩
theorem DenL.getV : ∀ {vs : List V} {ds : List D} {i : Nat} {v : V}, DenL K ι H vs ds → vs[i]? = some v → ∃ d, ds[i]? = some d ∧ Den K ι H v d
  | _, _, _, _, .nil, e => by simp at e
  | _, _, 0, _, .cons h _, e => by simp at e; subst e; exact ⟨_, rfl, h⟩
  | _, _, i + 1, d, .cons _ hs, e => by
    obtain ⟨v, h1, h2⟩ := DenL.getV (i := i) (v := d) hs (by simpa using e)
    exact ⟨v, by simpa using h1, h2⟩
theorem DenL.append : ∀ {vs ws : List V} {ds es : List D}, DenL K ι H vs ds → DenL K ι H ws es → DenL K ι H (vs ++ ws) (ds ++ es)
  | _, _, _, _, .nil, h => h
  | _, _, _, _, .cons h hs, h' => .cons h (DenL.append hs h')
theorem DenL.take : ∀ {vs : List V} {ds : List D} (n : Nat), DenL K ι H vs ds → DenL K ι H (vs.take n) (ds.take n)
  | _, _, 0, _ => .nil
  | _, _, _ + 1, .nil => .nil
  | _, _, n + 1, .cons h hs => .cons h (DenL.take n hs)
theorem DenL.drop : ∀ {vs : List V} {ds : List D} (n : Nat), DenL K ι H vs ds → DenL K ι H (vs.drop n) (ds.drop n)
  | _, _, 0, h => h
  | _, _, _ + 1, .nil => .nil
  | _, _, n + 1, .cons _ hs => DenL.drop n hs
theorem DenL.set {v : V} {d : D} (h : Den K ι H v d) : ∀ {vs : List V} {ds : List D} (n : Nat), DenL K ι H vs ds → DenL K ι H (vs.set n v) (ds.set n d)
  | _, _, _, .nil => .nil
  | _, _, 0, .cons _ hs => .cons h hs
  | _, _, n + 1, .cons h' hs => .cons h' (DenL.set h n hs)
theorem DenL.eraseIdx : ∀ {vs : List V} {ds : List D} (n : Nat), DenL K ι H vs ds → DenL K ι H (vs.eraseIdx n) (ds.eraseIdx n)
  | _, _, _, .nil => .nil
  | _, _, 0, .cons _ hs => hs
  | _, _, n + 1, .cons h' hs => .cons h' (DenL.eraseIdx n hs)

/-- the object at a is as the store says -/
def ObR (K : PySem.W.Frag) (ι : List Addr) (H : Hp) (a : Addr) : Ob → Prop
  | .lst ds => ∃ xs, H a = some (.lst xs) ∧ DenL K ι H xs ds
  | .dct gs => ∃ fs, H a = some (.dT fs) ∧ DenK K ι H fs gs
  | .dik gs => ∃ fs, H a = some (.dK fs) ∧ DenI K ι H fs gs
  | .ins C gs => ∃ dx fs, H a = some (.ins C dx fs) ∧ DenF K ι H fs gs
  | .tab p q => a = p ∧ ∃ ps : Array Value, H a = some (.tbl ps) ∧ TriplesOk ps.toList ∧ ∀ (pos : Pos) (cv : Value), codeAmong pos ps.toList = some cv → ∃ c, cv = .ref c ∧ c ∉ ι ∧ H c = some (LamX.CodeO c q)
structure Rel (K : PySem.W.Frag) (ι : List Addr) (H : Hp) (st : S) : Prop where
  len : ι.length = st.length
  nd : ι.Nodup
  obs : ∀ (n : Nat) a ob, ι[n]? = some a → st[n]? = some ob → ObR K ι H a ob
structure EnvR (K : PySem.W.Frag) (ι : List Addr) (H : Hp) (σ : L2.St) (env : Env) : Prop where
  len : σ.length = env.length
  get : ∀ (i : Nat) d, env[i]? = some (some d) → ∃ v, σ[i]? = some (some v) ∧ Den K ι H v d
theorem EnvR.stp {σ : L2.St} {env : Env} (s : Stp ι H ι' H') (e : EnvR K ι H σ env) : EnvR K ι' H' σ env :=
  ⟨e.len, fun i d h => let ⟨v, h1, h2⟩ := e.get i d h; ⟨v, h1, h2.stp s⟩⟩
theorem EnvR.set {σ : L2.St} {env : Env} (e : EnvR K ι H σ env) {v : V} {d : D} (i : Nat) (h : Den K ι H v d) : EnvR K ι H (σ.set i (some v)) (env.set i (some d)) := by
  refine ⟨by rw [List.length_set, List.length_set, e.len], fun j d' h' => ?_⟩
  by_cases hij : i = j
  · subst hij
    have hl : i < env.length := by
      have := (List.getElem?_eq_some_iff.mp h').1
      simpa using this
    rw [List.getElem?_set_self hl] at h'
    cases h'
    exact ⟨v, List.getElem?_set_self (by rw [e.len]; exact hl), h⟩
  · rw [List.getElem?_set_ne hij] at h' ⊢
    exact e.get j d' h'

/-- what is wanted behind a result -/
def Post {α β : Type} (K : PySem.W.Frag) (W : L2.WX) (ρ : List Addr → Hp → β → α → Prop) (σ : L2.St) (ι : List Addr) (H : Hp) (r : R α) (Q : β → Hp → Prop) : Prop := match r with
  | .ok d st' => ∀ ι' H' v, Stp ι H ι' H' → Rel K ι' H' st' → ρ ι' H' v d → Q v H'
  | .ex c f p st' => ∀ ι' H' dd v, Stp ι H ι' H' → Rel K ι' H' st' → dd ∉ ι' → H' dd = some (.xd [(f, v)]) → Den K ι' H' v p → W (.ref c) (some dd) σ H'
  | .stuck => False
theorem Post.step {α β : Type} {W : L2.WX} {ρ : List Addr → Hp → β → α → Prop} {σ : L2.St} {r : R α} {Q : β → Hp → Prop} (s : Stp ι H ι' H') (h : Post K W ρ σ ι H r Q) : Post K W ρ σ ι' H' r Q := by
  cases r with
  | ok d st => exact fun ι2 H2 v s2 => h ι2 H2 v (s.trans s2)
  | ex c f p st => exact fun ι2 H2 dd v s2 => h ι2 H2 dd v (s.trans s2)
  | stuck => exact h
theorem Post.bind {α β γ δ : Type} {W : L2.WX} {ρ : List Addr → Hp → β → α → Prop} {ρ' : List Addr → Hp → δ → γ → Prop} {σ : L2.St} {r : R α} {k : α → S → R γ} {Q : δ → Hp → Prop} (h : Post K W ρ' σ ι H (r.bind k) Q) :
    Post K W ρ σ ι H r fun v H1 => ∃ ι1 d st1, Stp ι H ι1 H1 ∧ Rel K ι1 H1 st1 ∧ ρ ι1 H1 v d ∧ Post K W ρ' σ ι1 H1 (k d st1) Q := by
  cases r with
  | ok d st => exact fun ι1 H1 v s1 r1 e1 => ⟨ι1, d, st, s1, r1, e1, Post.step s1 h⟩
  | ex c f p st => exact h
  | stuck => exact h
/-- readings of functions: an expression, a test, arguments -/
def tM (K : PySem.W.Frag) (W : L2.WX) (m : Env → S → R D) : TE := fun σ H Q => ∃ ι env st, EnvR K ι H σ env ∧ Rel K ι H st ∧ Post K W (Den K) σ ι H (m env st) Q
def tMT (K : PySem.W.Frag) (W : L2.WX) (m : Env → S → R Bool) : TT := fun σ H Q => ∃ ι env st, EnvR K ι H σ env ∧ Rel K ι H st ∧ Post K W (fun _ _ (v : Bool) d => v = d) σ ι H (m env st) Q
def tMA (K : PySem.W.Frag) (W : L2.WX) (m : Env → S → R (List D)) : TA := fun σ H Q => ∃ ι env st, EnvR K ι H σ env ∧ Rel K ι H st ∧ Post K W (DenL K) σ ι H (m env st) Q
/-- a statement's result -/
inductive F where
  | nx (env : Env) | rt (d : D) | bk (env : Env) | ct (env : Env)
def PostS (K : PySem.W.Frag) (W : L2.WX) (ι : List Addr) (H : Hp) (r : R F) (E : Ends) : Prop := match r with
  | .ok (.nx env) st' => ∀ ι' H' σ', Stp ι H ι' H' → Rel K ι' H' st' → EnvR K ι' H' σ' env → E.nx σ' H'
  | .ok (.bk env) st' => ∀ ι' H' σ', Stp ι H ι' H' → Rel K ι' H' st' → EnvR K ι' H' σ' env → E.bk σ' H'
  | .ok (.ct env) st' => ∀ ι' H' σ', Stp ι H ι' H' → Rel K ι' H' st' → EnvR K ι' H' σ' env → E.ct σ' H'
  | .ok (.rt d) st' => ∀ ι' H' v, Stp ι H ι' H' → Rel K ι' H' st' → Den K ι' H' v d → E.rt v H'
  | .ex c f p st' => ∀ ι' H' dd v σ', Stp ι H ι' H' → Rel K ι' H' st' → dd ∉ ι' → H' dd = some (.xd [(f, v)]) → Den K ι' H' v p → W (.ref c) (some dd) σ' H'
  | .stuck => False
theorem PostS.step {W : L2.WX} {r : R F} {E : Ends} (s : Stp ι H ι' H') (h : PostS K W ι H r E) : PostS K W ι' H' r E := by
  cases r with
  | ok d st =>
    cases d with
    | nx env => exact fun ι2 H2 σ2 s2 => h ι2 H2 σ2 (s.trans s2)
    | bk env => exact fun ι2 H2 σ2 s2 => h ι2 H2 σ2 (s.trans s2)
    | ct env => exact fun ι2 H2 σ2 s2 => h ι2 H2 σ2 (s.trans s2)
    | rt d => exact fun ι2 H2 v s2 => h ι2 H2 v (s.trans s2)
  | ex c f p st => exact fun ι2 H2 dd v σ2 s2 => h ι2 H2 dd v σ2 (s.trans s2)
  | stuck => exact h
def tMS (K : PySem.W.Frag) (W : L2.WX) (m : Env → S → R F) : TS := fun E σ H => ∃ ι env st, EnvR K ι H σ env ∧ Rel K ι H st ∧ PostS K W ι H (m env st) E
end MF
end
section
set_option Elab.async false
set_option linter.all false
set_option maxRecDepth 100000
set_option maxHeartbeats 4000000
/-! MF2: new objects, expressions. -/
namespace MF
open PySem PySem.Spec PyProof.Rows L2
theorem _root_.L2.PE.imp {X : Cx} {e : Expr} {t t' : TE} (h : PE X e t) (hi : ∀ σ H Q, t' σ H Q → t σ H Q) : PE X e t' := ⟨fun pins s σ H Q I q => h.run pins s σ H Q I (hi σ H Q q)⟩
theorem _root_.L2.PT.imp {X : Cx} {e : Expr} {t t' : TT} (h : PT X e t) (hi : ∀ σ H Q, t' σ H Q → t σ H Q) : PT X e t' := ⟨fun pins s σ H Q I q => h.run pins s σ H Q I (hi σ H Q q)⟩
theorem _root_.L2.PA.imp {X : Cx} {e : List Expr} {t t' : TA} (h : PA X e t) (hi : ∀ σ H Q, t' σ H Q → t σ H Q) : PA X e t' := ⟨fun pos pins s σ H Q I q => h.run pos pins s σ H Q I (hi σ H Q q)⟩
theorem _root_.L2.PS.imp {X : Cx} {e : Stmt} {t t' : TS} (h : PS X e t) (hi : ∀ E σ H, t' E σ H → t E σ H) : PS X e t' := ⟨fun pins s σ H E I q => h.run pins s σ H E I (hi E σ H q)⟩
theorem _root_.L2.PSs.imp {X : Cx} {e : List Stmt} {t t' : TS} (h : PSs X e t) (hi : ∀ E σ H, t' E σ H → t E σ H) : PSs X e t' := ⟨fun pins s σ H E I q => h.run pins s σ H E I (hi E σ H q)⟩

section
variable {K : PySem.W.Frag} {ι ι' : List Addr} {H H' : Hp} {st : S} {p : Addr} {o : HO}
theorem Rel.at (r : Rel K ι H st) {a : Addr} (h : a ∈ ι) : ∃ (n : Nat) (ob : Ob), ι[n]? = some a ∧ st[n]? = some ob ∧ ObR K ι H a ob := by
  obtain ⟨n, hn⟩ := List.getElem?_of_mem h
  have hl : n < ι.length := (List.getElem?_eq_some_iff.mp hn).1
  have hs : n < st.length := by rw [← r.len]; exact hl
  exact ⟨n, st[n], hn, List.getElem?_eq_getElem hs, r.obs n a _ hn (List.getElem?_eq_getElem hs)⟩
theorem ObR.some {a : Addr} {ob : Ob} (h : ObR K ι H a ob) : ∃ o, H a = some o := by
  cases ob with
  | lst ds => obtain ⟨xs, h, _⟩ := h; exact ⟨_, h⟩
  | dct ds => obtain ⟨xs, h, _⟩ := h; exact ⟨_, h⟩
  | dik ds => obtain ⟨xs, h, _⟩ := h; exact ⟨_, h⟩
  | ins C gs => obtain ⟨dx, fs, h, _⟩ := h; exact ⟨_, h⟩
  | tab p q => obtain ⟨_, ps, h, _⟩ := h; exact ⟨_, h⟩
theorem Rel.fresh (r : Rel K ι H st) (h : H p = none) : p ∉ ι := fun hp => by
  obtain ⟨n, ob, _, _, q⟩ := r.at hp
  obtain ⟨o, e⟩ := q.some
  rw [h] at e; cases e
theorem ObR.stp {a : Addr} {ob : Ob} (s : Stp ι H ι' H') (e : H' a = H a) (h : ObR K ι H a ob) : ObR K ι' H' a ob := by
  cases ob with
  | lst ds => obtain ⟨xs, h, d⟩ := h; exact ⟨xs, e.trans h, d.stp s⟩
  | dct ds => obtain ⟨xs, h, d⟩ := h; exact ⟨xs, e.trans h, d.stp s⟩
  | dik ds => obtain ⟨xs, h, d⟩ := h; exact ⟨xs, e.trans h, d.stp s⟩
  | ins C gs => obtain ⟨dx, fs, h, d⟩ := h; exact ⟨dx, fs, e.trans h, d.stp s⟩
  | tab p q =>
    obtain ⟨ea, ps, h, t, d⟩ := h
    refine ⟨ea, ps, e.trans h, t, fun pos cv hc => ?_⟩
    obtain ⟨c, e1, e2, e3⟩ := d pos cv hc
    exact ⟨c, e1, (s.keep c _ e2 (fun _ => ext_tbl) e3).1, (s.keep c _ e2 (fun _ => ext_tbl) e3).2⟩
/-- a new object that stays -/
theorem new_stp (h : H p = none) : Stp ι H ι (upd H p o) := ⟨List.prefix_refl _, fun a u n _ e => ⟨n, by rw [upd_ne (ne_of_none e h)]; exact e⟩⟩
theorem Rel.new (r : Rel K ι H st) (h : H p = none) : Rel K ι (upd H p o) st :=
  ⟨r.len, r.nd, fun n a ob h1 h2 => by
    have q := r.obs n a ob h1 h2
    obtain ⟨u, e⟩ := q.some
    exact q.stp (new_stp h) (upd_ne (ne_of_none e h))⟩
/-- a new object that may change -/
theorem newl_stp (r : Rel K ι H st) (h : H p = none) : Stp ι H (ι ++ [p]) (upd H p o) := ⟨List.prefix_append _ _, fun a u n _ e => by
  have hne : a ≠ p := ne_of_none e h
  refine ⟨fun hm => ?_, by rw [upd_ne hne]; exact e⟩
  rcases List.mem_append.mp hm with q | q
  · exact n q
  · exact hne (by simpa using q)⟩
theorem Rel.newl (r : Rel K ι H st) (h : H p = none) {ob : Ob} (hob : ObR K (ι ++ [p]) (upd H p o) p ob) : Rel K (ι ++ [p]) (upd H p o) (st ++ [ob]) := by
  refine ⟨by rw [List.length_append, List.length_append, r.len]; rfl, ?_, fun n a ob' h1 h2 => ?_⟩
  · rw [List.nodup_append]
    refine ⟨r.nd, by simp, fun a ha b hb => ?_⟩
    have : b = p := by simpa using hb
    subst this
    exact fun e => r.fresh h (e ▸ ha)
  · by_cases hn : n < ι.length
    · rw [List.getElem?_append_left hn] at h1
      rw [List.getElem?_append_left (by rw [← r.len]; exact hn)] at h2
      have q := r.obs n a ob' h1 h2
      obtain ⟨u, e⟩ := q.some
      exact q.stp (newl_stp r h) (upd_ne (ne_of_none e h))
    · have hl : n < (ι ++ [p]).length := (List.getElem?_eq_some_iff.mp h1).1
      have hn' : n = ι.length := by rw [List.length_append] at hl; simp at hl; omega
      subst hn'
      rw [List.getElem?_append_right (Nat.le_refl _), Nat.sub_self] at h1
      rw [r.len, List.getElem?_append_right (Nat.le_refl _), Nat.sub_self] at h2
      cases h1
      cases h2
      exact hob
/-- an object that may change is changed -/
theorem chg_stp {n : Nat} {a : Addr} (hn : ι[n]? = some a) : Stp ι H ι (upd H a o) := ⟨List.prefix_refl _, fun b u nb _ e => ⟨nb, by rw [upd_ne (fun z => nb (by rw [z]; exact List.mem_of_getElem? hn))]; exact e⟩⟩
theorem Rel.chg (r : Rel K ι H st) {n : Nat} {a : Addr} (hn : ι[n]? = some a) {ob : Ob} (hob : ObR K ι (upd H a o) a ob) : Rel K ι (upd H a o) (st.set n ob) := by
  refine ⟨by rw [List.length_set]; exact r.len, r.nd, fun m b ob' h1 h2 => ?_⟩
  by_cases hm : n = m
  · subst hm
    rw [hn] at h1
    cases h1
    have hl : n < st.length := by
      have := (List.getElem?_eq_some_iff.mp h2).1
      simpa using this
    rw [List.getElem?_set_self hl] at h2
    cases h2
    exact hob
  · rw [List.getElem?_set_ne hm] at h2
    have q := r.obs m b ob' h1 h2
    refine q.stp (chg_stp hn) (upd_ne fun z => hm ?_)
    subst z
    exact (List.getElem?_inj (List.getElem?_eq_some_iff.mp hn).1 r.nd).mp (hn.trans h1.symm)
end

/-! ### expressions -/
section
variable {X : Cx} {W : L2.WX} {e a b : Expr} {es : List Expr} {pos : Pos}
def mVar (i : Nat) : Env → S → R D := fun env st => match env[i]? with
  | some (some d) => .ok d st
  | _ => .stuck
def mC (d : D) : Env → S → R D := fun _ st => .ok d st
theorem Post.ok {α β : Type} {K : PySem.W.Frag} {W : L2.WX} {ρ : List Addr → Hp → β → α → Prop} {σ : L2.St} {ι : List Addr} {H : Hp} {d : α} {st : S} {Q : β → Hp → Prop} {v : β} (r : Rel K ι H st) (e : ρ ι H v d) (h : Post K W ρ σ ι H (.ok d st) Q) : Q v H := h ι H v .refl r e
theorem me_var (i : Nat) {x : Str} {pos : Pos} (hN : X.N[i]? = some x := by rfl) (hv : Vis X.env.scope x := by first | exact Or.inl rfl | exact Or.inr (Or.inl rfl) | exact Or.inr (Or.inr rfl)) (hd : (x == ("__debug__" : Str)) = false := by decide)
    (hcd : (x == ("__classdict__" : Str)) = false := by decide) : PE X (.Name x pos) (tM X.K W (mVar i)) := (pe_var hN hv hd hcd).imp fun σ H Q ⟨ι, env, st, er, r, h⟩ => by
  unfold mVar at h
  cases q : env[i]? with
  | none => rw [q] at h; exact h.elim
  | some u =>
    cases u with
    | none => rw [q] at h; exact h.elim
    | some d =>
      rw [q] at h
      obtain ⟨v, e1, e2⟩ := er.get i d q
      exact ⟨v, e1, h.ok r e2⟩
theorem me_int {i : Int} {j pos} : PE X (.Constant (.int i) j pos) (tM X.K W (mC (.int i))) := pe_int.imp fun σ H Q ⟨ι, env, st, er, r, h⟩ => h.ok r (.int i)
theorem me_bl {b : Bool} {j pos} : PE X (.Constant (.bool b) j pos) (tM X.K W (mC (.bl b))) := pe_bl.imp fun σ H Q ⟨ι, env, st, er, r, h⟩ => h.ok r (.bl b)
theorem me_non {j pos} : PE X (.Constant .none j pos) (tM X.K W (mC .non)) := pe_non.imp fun σ H Q ⟨ι, env, st, er, r, h⟩ => h.ok r .non
theorem me_str {x : Str} {j pos} : PE X (.Constant (.str x) j pos) (tM X.K W (mC (.str x))) := pe_str.imp fun σ H Q ⟨ι, env, st, er, r, h⟩ => h.ok r (.str x)
/-! arguments -/
def mNil : Env → S → R (List D) := fun _ st => .ok [] st
def mCons (m : Env → S → R D) (ms : Env → S → R (List D)) : Env → S → R (List D) := fun env st => (m env st).bind fun d st1 => (ms env st1).bind fun ds st2 => .ok (d :: ds) st2
theorem ma_nil : PA X [] (tMA X.K W mNil) := pa_nil.imp fun σ H Q ⟨ι, env, st, er, r, h⟩ => h.ok r .nil
theorem Post.mono {α β : Type} {K : PySem.W.Frag} {W : L2.WX} {ρ : List Addr → Hp → β → α → Prop} {σ : L2.St} {ι : List Addr} {H : Hp} {r : R α} {Q Q' : β → Hp → Prop} (h : Post K W ρ σ ι H r Q) (i : ∀ v H', Q v H' → Q' v H') : Post K W ρ σ ι H r Q' := by
  cases r with
  | ok d st => exact fun ι' H' v s r e => i _ _ (h ι' H' v s r e)
  | ex c f p st => exact h
  | stuck => exact h
/-- an expression's reading, then what its value leads to -/
theorem seqM {γ δ : Type} {K : PySem.W.Frag} {W : L2.WX} {ρ' : List Addr → Hp → δ → γ → Prop} {σ : L2.St} {ι : List Addr} {H : Hp} {env : Env} {st : S} {m : Env → S → R D} {k : D → S → R γ} {Q : δ → Hp → Prop} {Q1 : V → Hp → Prop} (er : EnvR K ι H σ env) (r : Rel K ι H st)
    (h : Post K W ρ' σ ι H ((m env st).bind k) Q) (hk : ∀ ι1 H1 v d st1, EnvR K ι1 H1 σ env → Stp ι H ι1 H1 → Rel K ι1 H1 st1 → Den K ι1 H1 v d → Post K W ρ' σ ι1 H1 (k d st1) Q → Q1 v H1) : tM K W m σ H Q1 :=
  ⟨ι, env, st, er, r, (Post.bind (ρ := Den K) h).mono fun v H1 ⟨ι1, d, st1, s1, r1, e1, h1⟩ => hk ι1 H1 v d st1 (er.stp s1) s1 r1 e1 h1⟩
theorem seqA {γ δ : Type} {K : PySem.W.Frag} {W : L2.WX} {ρ' : List Addr → Hp → δ → γ → Prop} {σ : L2.St} {ι : List Addr} {H : Hp} {env : Env} {st : S} {m : Env → S → R (List D)} {k : List D → S → R γ} {Q : δ → Hp → Prop} {Q1 : List V → Hp → Prop} (er : EnvR K ι H σ env) (r : Rel K ι H st)
    (h : Post K W ρ' σ ι H ((m env st).bind k) Q) (hk : ∀ ι1 H1 v d st1, EnvR K ι1 H1 σ env → Stp ι H ι1 H1 → Rel K ι1 H1 st1 → DenL K ι1 H1 v d → Post K W ρ' σ ι1 H1 (k d st1) Q → Q1 v H1) : tMA K W m σ H Q1 :=
  ⟨ι, env, st, er, r, (Post.bind (ρ := DenL K) h).mono fun v H1 ⟨ι1, d, st1, s1, r1, e1, h1⟩ => hk ι1 H1 v d st1 (er.stp s1) s1 r1 e1 h1⟩
theorem seqT {γ δ : Type} {K : PySem.W.Frag} {W : L2.WX} {ρ' : List Addr → Hp → δ → γ → Prop} {σ : L2.St} {ι : List Addr} {H : Hp} {env : Env} {st : S} {m : Env → S → R Bool} {k : Bool → S → R γ} {Q : δ → Hp → Prop} {Q1 : Bool → Hp → Prop} (er : EnvR K ι H σ env) (r : Rel K ι H st)
    (h : Post K W ρ' σ ι H ((m env st).bind k) Q) (hk : ∀ ι1 H1 d st1, EnvR K ι1 H1 σ env → Stp ι H ι1 H1 → Rel K ι1 H1 st1 → Post K W ρ' σ ι1 H1 (k d st1) Q → Q1 d H1) : tMT K W m σ H Q1 :=
  ⟨ι, env, st, er, r, (Post.bind (ρ := fun _ _ (v : Bool) d => v = d) h).mono fun v H1 ⟨ι1, d, st1, s1, r1, e1, h1⟩ => by subst e1; exact hk ι1 H1 v st1 (er.stp s1) s1 r1 h1⟩
theorem ma_cons {m : Env → S → R D} {ms : Env → S → R (List D)} (ha : PE X e (tM X.K W m)) (hr : PA X es (tMA X.K W ms)) (hs : starEach (e :: es) X.env = (false, eval e X.env) :: starEach es X.env := by rfl) : PA X (e :: es) (tMA X.K W (mCons m ms)) :=
  (pa_cons ha hr hs).imp fun σ H Q ⟨ι, env, st, er, r, h⟩ => seqM er r h fun ι1 H1 v d st1 er1 s1 r1 e1 h1 => seqA er1 r1 h1 fun ι2 H2 vs ds st2 er2 s2 r2 e2 h2 => h2.ok r2 (.cons (e1.stp s2) e2)
/-! displays -/
def mTup (ms : Env → S → R (List D)) : Env → S → R D := fun env st => (ms env st).bind fun ds st1 => if ds.length ≤ sizeLine then .ok (.tup ds) st1 else .stuck
def mLst (ms : Env → S → R (List D)) : Env → S → R D := fun env st => (ms env st).bind fun ds st1 => if ds.length ≤ sizeLine then .ok (.lst ds) st1 else .stuck
def mLstM (ms : Env → S → R (List D)) : Env → S → R D := fun env st => (ms env st).bind fun ds st1 => if ds.length ≤ sizeLine then .ok (.loc st1.length) (st1 ++ [.lst ds]) else .stuck
theorem Post.ite {α β : Type} {K : PySem.W.Frag} {W : L2.WX} {ρ : List Addr → Hp → β → α → Prop} {σ : L2.St} {ι : List Addr} {H : Hp} {c : Prop} [Decidable c] {r : R α} {Q : β → Hp → Prop} (h : Post K W ρ σ ι H (if c then r else .stuck) Q) : c ∧ Post K W ρ σ ι H r Q := by
  by_cases hc : c
  · rw [if_pos hc] at h; exact ⟨hc, h⟩
  · rw [if_neg hc] at h; exact h.elim
theorem me_tup {k} {ms : Env → S → R (List D)} (ha : PA X es (tMA X.K W ms)) : PE X (.Tuple es k pos) (tM X.K W (mTup ms)) :=
  (pe_tup ha).imp fun σ H Q ⟨ι, env, st, er, r, h⟩ => seqA er r h fun ι1 H1 vs ds st1 er1 s1 r1 e1 h1 => by
    obtain ⟨hc, h1⟩ := h1.ite
    exact ⟨by rw [e1.length]; exact hc, fun p hp => h1 ι1 _ _ (new_stp hp) (r1.new hp) (.tup ⟨r1.fresh hp, upd_same⟩ (e1.stp (new_stp hp)))⟩
theorem me_lst {ms : Env → S → R (List D)} (ha : PA X es (tMA X.K W ms)) : PE X (.List es pos) (tM X.K W (mLst ms)) :=
  (pe_lst ha).imp fun σ H Q ⟨ι, env, st, er, r, h⟩ => seqA er r h fun ι1 H1 vs ds st1 er1 s1 r1 e1 h1 => by
    obtain ⟨hc, h1⟩ := h1.ite
    exact ⟨by rw [e1.length]; exact hc, fun p hp => h1 ι1 _ _ (new_stp hp) (r1.new hp) (.lst (r1.fresh hp) upd_same (e1.stp (new_stp hp)))⟩
theorem me_lstM {ms : Env → S → R (List D)} (ha : PA X es (tMA X.K W ms)) : PE X (.List es pos) (tM X.K W (mLstM ms)) :=
  (pe_lst ha).imp fun σ H Q ⟨ι, env, st, er, r, h⟩ => seqA er r h fun ι1 H1 vs ds st1 er1 s1 r1 e1 h1 => by
    obtain ⟨hc, h1⟩ := h1.ite
    refine ⟨by rw [e1.length]; exact hc, fun p hp => h1 (ι1 ++ [p]) _ _ (newl_stp r1 hp) (r1.newl hp ⟨vs, upd_same, e1.stp (newl_stp r1 hp)⟩) (.loc ?_)⟩
    rw [← r1.len, List.getElem?_append_right (Nat.le_refl _), Nat.sub_self]
    rfl
/-! operators by values -/
/-- the function g on values does what the reading r asks -/
def Op2 (K : PySem.W.Frag) (r : R2) (g : D → D → S → R D) : Prop := ∀ (W : L2.WX) (σ : L2.St) (ι : List Addr) (H : Hp) (st : S) (x y : V) (d e : D) (Q : VK), Rel K ι H st → Den K ι H x d → Den K ι H y e → Post K W (Den K) σ ι H (g d e st) Q → r x y H Q
def mBin (g : D → D → S → R D) (ma mb : Env → S → R D) : Env → S → R D := fun env st => (ma env st).bind fun d st1 => (mb env st1).bind fun e st2 => g d e st2
theorem me_bin {op : Operator} {r : R2} {g : D → D → S → R D} {ma mb : Env → S → R D} (hg : Op2 X.K r g) (ho : OpR X (binaryOp op) r) (ha : PE X a (tM X.K W ma)) (hb : PE X b (tM X.K W mb)) : PE X (.BinOp a op b pos) (tM X.K W (mBin g ma mb)) :=
  (pe_op ho ha hb).imp fun σ H Q ⟨ι, env, st, er, r, h⟩ => seqM er r h fun ι1 H1 v d st1 er1 s1 r1 e1 h1 => seqM er1 r1 h1 fun ι2 H2 w e st2 er2 s2 r2 e2 h2 => hg W σ ι2 H2 st2 v w d e Q r2 (e1.stp s2) e2 h2
theorem opr_or {f : Value → Value → Sem Value} {r r' : R2} (h : OpR X f r) (h' : OpR X f r') : OpR X f fun x y H Q => r x y H Q ∨ r' x y H Q := fun pins s σ H x y v u Q I rx ry q => by
  rcases q with q | q
  · exact h pins s σ H x y v u Q I rx ry q
  · exact h' pins s σ H x y v u Q I rx ry q
end
end MF
end
section
set_option Elab.async false
set_option linter.all false
set_option maxRecDepth 100000
set_option maxHeartbeats 4000000
/-! MF3: operators. -/
namespace MF
open PySem PySem.Spec PyProof.Rows L2
/-- a list's items: one that stays, or one that may change -/
def asL (st : S) : D → Option (List D)
  | .lst xs => some xs
  | .loc n => match st[n]? with | some (.lst xs) => some xs | _ => none
  | _ => none
/-- the items of a list or the script -/
def asR (st : S) : D → Option (List D)
  | .scr xs => some xs
  | d => asL st d
section
variable {K : PySem.W.Frag} {ι ι' : List Addr} {H H' : Hp} {st : S} {v : V} {d : D} {ds : List D}
theorem asL_den (r : Rel K ι H st) (e : Den K ι H v d) (h : asL st d = some ds) : ∃ a xs, v = .ref a ∧ H a = some (.lst xs) ∧ DenL K ι H xs ds := by
  cases e with
  | lst hn ha hs =>
    have : ds = _ := (Option.some.inj h).symm
    subst this
    exact ⟨_, _, rfl, ha, hs⟩
  | @loc a n hn =>
    unfold asL at h
    dsimp only at h
    split at h
    · rename_i xs hst
      cases h
      obtain ⟨ys, h1, h2⟩ := r.obs n a _ hn hst
      exact ⟨a, ys, rfl, h1, h2⟩
    · cases h
  | _ => cases h
theorem asR_den (r : Rel K ι H st) (e : Den K ι H v d) (h : asR st d = some ds) : ∃ a xs, v = .ref a ∧ SqL K H a xs ∧ DenL K ι H xs ds := by
  cases e with
  | scr hq hs =>
    have : ds = _ := (Option.some.inj h).symm
    subst this
    exact ⟨_, _, rfl, hq.sq, hs⟩
  | lst hn ha hs =>
    obtain ⟨a, xs, e1, e2, e3⟩ := asL_den r (Den.lst hn ha hs) h
    exact ⟨a, xs, e1, .of e2, e3⟩
  | loc hn =>
    obtain ⟨a, xs, e1, e2, e3⟩ := asL_den r (Den.loc hn) h
    exact ⟨a, xs, e1, .of e2, e3⟩
  | _ => cases h
theorem tup_den {ds : List D} (e : Den K ι H v (.tup ds)) : ∃ a xs, v = .ref a ∧ SqT K H a xs ∧ DenL K ι H xs ds := by
  cases e with
  | tup hq hs => exact ⟨_, _, rfl, hq.sq, hs⟩
theorem int_den {i : Int} (e : Den K ι H v (.int i)) : v = .int i := by cases e; rfl
theorem bl_den {i : Bool} (e : Den K ι H v (.bl i)) : v = .bl i := by cases e; rfl
theorem str_den {i : Str} (e : Den K ι H v (.str i)) : v = .str i := by cases e; rfl
theorem non_den (e : Den K ι H v .non) : v = .non := by cases e; rfl
end
/-! ### + -/
def gAdd (d e : D) (st : S) : R D := match d, e with
  | .int i, .int j => .ok (.int (i + j)) st
  | .str i, .str j => if i.length + j.length ≤ sizeLine then .ok (.str (i ++ j)) st else .stuck
  | .tup xs, .tup ys => if xs.length + ys.length ≤ sizeLine then .ok (.tup (xs ++ ys)) st else .stuck
  | d, e => match asL st d, asL st e with
    | some xs, some ys => if xs.length + ys.length ≤ sizeLine then .ok (.lst (xs ++ ys)) st else .stuck
    | _, _ => .stuck
def rStrAdd : R2 := fun x y H Q => ∃ i j, x = .str i ∧ y = .str j ∧ i.length + j.length ≤ sizeLine ∧ Q (.str (i ++ j)) H
def rAddD (K : PySem.W.Frag) : R2 := fun x y H Q => ((rI0 fun i j => .int (i + j)) x y H Q ∨ rStrAdd x y H Q) ∨ (rCatA K x y H Q ∨ rCat x y H Q)
theorem op_addD {X : Cx} : OpR X (binaryOp .Add) (rAddD X.K) := opr_or (opr_or op_add op_add_str) (opr_or op_catA op_cat)
theorem Post.ite' {α β : Type} {K : PySem.W.Frag} {W : L2.WX} {ρ : List Addr → Hp → β → α → Prop} {σ : L2.St} {ι : List Addr} {H : Hp} {c : Prop} [Decidable c] {r : R α} {Q : β → Hp → Prop} (h : Post K W ρ σ ι H (if c then r else .stuck) Q) : c ∧ Post K W ρ σ ι H r Q := h.ite
section
variable {K : PySem.W.Frag} {W : L2.WX} {σ : L2.St} {ι : List Addr} {H : Hp} {st : S} {d : List D} {Q : VK}
/-- a result that is a new list, a new tuple -/
theorem post_lst {xs : List V} (r : Rel K ι H st) (e : DenL K ι H xs d) (h : Post K W (Den K) σ ι H (.ok (.lst d) st) Q) : ∀ p, H p = none → Q (.ref p) (upd H p (.lst xs)) := fun p hp =>
  h ι _ _ (new_stp hp) (r.new hp) (.lst (r.fresh hp) upd_same (e.stp (new_stp hp)))
theorem post_tup {xs : List V} (r : Rel K ι H st) (e : DenL K ι H xs d) (h : Post K W (Den K) σ ι H (.ok (.tup d) st) Q) : ∀ p, H p = none → Q (.ref p) (upd H p (.tup xs)) := fun p hp =>
  h ι _ _ (new_stp hp) (r.new hp) (.tup ⟨r.fresh hp, upd_same⟩ (e.stp (new_stp hp)))
end
theorem op2_add {K : PySem.W.Frag} : Op2 K (rAddD K) gAdd := by
  intro W σ ι H st x y d e Q r hx hy h
  have lists : ∀ xs ys, asL st d = some xs → asL st e = some ys → Post K W (Den K) σ ι H (if xs.length + ys.length ≤ sizeLine then .ok (.lst (xs ++ ys)) st else .stuck) Q → rAddD K x y H Q := fun xs ys h1 h2 h3 => by
    obtain ⟨a, us, rfl, e1, e2⟩ := asL_den r hx h1
    obtain ⟨b, ws, rfl, e3, e4⟩ := asL_den r hy h2
    obtain ⟨hc, h3⟩ := h3.ite
    exact .inr (.inr ⟨a, b, us, ws, rfl, rfl, e1, e3, by rw [e2.length, e4.length]; exact hc, post_lst r (e2.append e4) h3⟩)
  unfold gAdd at h
  split at h
  · rename_i i j
    have e1 := int_den hx
    have e2 := int_den hy
    subst e1 e2
    exact .inl (.inl ⟨i, j, rfl, rfl, h.ok r (.int _)⟩)
  · rename_i i j
    have e1 := str_den hx
    have e2 := str_den hy
    subst e1 e2
    obtain ⟨hc, h⟩ := h.ite
    exact .inl (.inr ⟨i, j, rfl, rfl, hc, h.ok r (.str _)⟩)
  · rename_i xs ys
    obtain ⟨a, us, e1, e2, e3⟩ := tup_den hx
    obtain ⟨b, ws, e4, e5, e6⟩ := tup_den hy
    subst e1 e4
    obtain ⟨hc, h⟩ := h.ite
    refine .inr (.inl ⟨a, b, us, ws, rfl, rfl, e2, e5, by rw [e3.length, e6.length]; exact hc, fun z => ?_, fun _ z => ?_, fun _ _ => post_tup r (e3.append e6) h⟩)
    · subst z
      cases e3
      exact h.ok r hy
    · subst z
      cases e6
      rw [List.append_nil] at h
      exact h.ok r hx
  · split at h
    · rename_i xs ys h1 h2
      exact lists xs ys h1 h2 h
    · exact h.elim
/-! ### -, *, %, //, ** -/
def gSub (d e : D) (st : S) : R D := match d, e with
  | .int i, .int j => .ok (.int (i - j)) st
  | _, _ => .stuck
theorem op2_sub {K : PySem.W.Frag} : Op2 K (rI0 fun i j => .int (i - j)) gSub := by
  intro W σ ι H st x y d e Q r hx hy h
  unfold gSub at h
  split at h
  · rename_i i j
    have e1 := int_den hx
    have e2 := int_den hy
    subst e1 e2
    exact ⟨i, j, rfl, rfl, h.ok r (.int _)⟩
  · exact h.elim
instance {i j : Int} : Decidable (CMul i j) := by unfold CMul; infer_instance
def gMul (d e : D) (st : S) : R D := match d, e with
  | .int i, .int j => if CMul i j then .ok (.int (i * j)) st else .stuck
  | .tup xs, .int k => if xs ≠ [] ∧ 2 ≤ k ∧ k ≤ 1000 ∧ xs.length ≤ 1000 then .ok (.tup (List.replicate k.toNat xs).flatten) st else .stuck
  | d, .int k => match asL st d with
    | some xs => if -(2 ^ 63) ≤ k ∧ k < 2 ^ 63 ∧ xs.length * k.toNat ≤ sizeLine then .ok (.lst (List.replicate k.toNat xs).flatten) st else .stuck
    | none => .stuck
  | _, _ => .stuck
theorem DenL.rep {K : PySem.W.Frag} {ι : List Addr} {H : Hp} {xs : List V} {ds : List D} (h : DenL K ι H xs ds) : ∀ n : Nat, DenL K ι H (List.replicate n xs).flatten (List.replicate n ds).flatten
  | 0 => .nil
  | n + 1 => by
    rw [List.replicate_succ, List.replicate_succ, List.flatten_cons, List.flatten_cons]
    exact h.append (DenL.rep h n)
def rMulD (K : PySem.W.Frag) : R2 := fun x y H Q => (rI CMul fun i j => .int (i * j)) x y H Q ∨ (rRepT K x y H Q ∨ rRep x y H Q)
theorem op_mulD {X : Cx} : OpR X (binaryOp .Mult) (rMulD X.K) := opr_or op_mul (opr_or op_repT op_rep)
theorem op2_mul {K : PySem.W.Frag} : Op2 K (rMulD K) gMul := by
  intro W σ ι H st x y d e Q r hx hy h
  unfold gMul at h
  split at h
  · rename_i i j
    have e1 := int_den hx
    have e2 := int_den hy
    subst e1 e2
    obtain ⟨hc, h⟩ := h.ite
    exact .inl ⟨i, j, rfl, rfl, hc, h.ok r (.int _)⟩
  · rename_i xs k
    have e2 := int_den hy
    subst e2
    obtain ⟨a, us, e1, e3, e4⟩ := tup_den hx
    subst e1
    obtain ⟨⟨h0, h1, h2, h3⟩, h⟩ := h.ite
    refine .inr (.inl ⟨a, k, us, rfl, rfl, e3, fun z => ?_, h1, h2, by rw [e4.length]; exact h3, post_tup r (e4.rep _) h⟩)
    subst z
    cases e4
    exact h0 rfl
  · rename_i k _ _
    split at h
    · rename_i xs h1
      have e2 := int_den hy
      subst e2
      obtain ⟨a, us, e1, e3, e4⟩ := asL_den r hx h1
      subst e1
      obtain ⟨⟨h2, h3, h4⟩, h⟩ := h.ite
      exact .inr (.inr ⟨a, k, us, rfl, rfl, e3, h2, h3, by rw [e4.length]; exact h4, post_lst r (e4.rep _) h⟩)
    · exact h.elim
  · exact h.elim
def gMod (d e : D) (st : S) : R D := match d, e with
  | .int i, .int j => if 0 < j then .ok (.int (i % j)) st else .stuck
  | _, _ => .stuck
theorem op2_mod {K : PySem.W.Frag} : Op2 K (rI (fun _ j => 0 < j) fun i j => .int (i % j)) gMod := by
  intro W σ ι H st x y d e Q r hx hy h
  unfold gMod at h
  split at h
  · rename_i i j
    have e1 := int_den hx
    have e2 := int_den hy
    subst e1 e2
    obtain ⟨hc, h⟩ := h.ite
    exact ⟨i, j, rfl, rfl, hc, h.ok r (.int _)⟩
  · exact h.elim
def gFdiv (d e : D) (st : S) : R D := match d, e with
  | .int i, .int j => if 0 < j ∧ j < 1073741824 then .ok (.int (i / j)) st else .stuck
  | _, _ => .stuck
theorem op2_fdiv {K : PySem.W.Frag} : Op2 K (rI CDiv fun i j => .int (i / j)) gFdiv := by
  intro W σ ι H st x y d e Q r hx hy h
  unfold gFdiv at h
  split at h
  · rename_i i j
    have e1 := int_den hx
    have e2 := int_den hy
    subst e1 e2
    obtain ⟨hc, h⟩ := h.ite
    exact ⟨i, j, rfl, rfl, hc, h.ok r (.int _)⟩
  · exact h.elim
def gPow (d e : D) (st : S) : R D := match d, e with
  | .int i, .int j => if 0 ≤ j ∧ j ≤ 1000000 ∧ i.natAbs < 2 ^ 64 then .ok (.int (i ^ j.toNat)) st else .stuck
  | _, _ => .stuck
theorem op2_pow {K : PySem.W.Frag} : Op2 K (rI CPow fun i j => .int (i ^ j.toNat)) gPow := by
  intro W σ ι H st x y d e Q r hx hy h
  unfold gPow at h
  split at h
  · rename_i i j
    have e1 := int_den hx
    have e2 := int_den hy
    subst e1 e2
    obtain ⟨hc, h⟩ := h.ite
    exact ⟨i, j, rfl, rfl, hc, h.ok r (.int _)⟩
  · exact h.elim
/-! ### order of ints -/
def gCmp (p : Int → Int → Bool) (d e : D) (st : S) : R D := match d, e with
  | .int i, .int j => .ok (.bl (p i j)) st
  | _, _ => .stuck
theorem op2_cmp {K : PySem.W.Frag} (p : Int → Int → Bool) : Op2 K (rI0 fun i j => .bl (p i j)) (gCmp p) := by
  intro W σ ι H st x y d e Q r hx hy h
  unfold gCmp at h
  split at h
  · rename_i i j
    have e1 := int_den hx
    have e2 := int_den hy
    subst e1 e2
    exact ⟨i, j, rfl, rfl, h.ok r (.bl _)⟩
  · exact h.elim
/-! ### == and != of data -/
mutual
def D.data : D → Option PyData
  | .non => some .none
  | .bl b => some (.bool b)
  | .int i => some (.int i)
  | .str x => some (.str x)
  | .lst xs => (datas xs).map .list
  | .tup xs => (datas xs).map .tuple
  | _ => none
def datas : List D → Option (List PyData)
  | [] => some []
  | d :: ds => match d.data, datas ds with
    | some x, some xs => some (x :: xs)
    | _, _ => none
end
mutual
theorem Den.dp {K : PySem.W.Frag} {ι : List Addr} {H : Hp} : ∀ {v : V} {d : D} {x : PyData}, Den K ι H v d → d.data = some x → Dp K H v x
  | _, _, _, .non, h => by cases h; exact .non
  | _, _, _, .bl b, h => by cases h; exact .bl b
  | _, _, _, .int i, h => by cases h; exact .int i
  | _, _, _, .str x, h => by cases h; exact .str x
  | _, _, _, .lst hn ha hs, h => by
    unfold D.data at h
    obtain ⟨ys, h1, h2⟩ := Option.map_eq_some_iff.mp h
    subst h2
    exact .lst (.of ha) (DenL.dp hs h1)
  | _, _, _, .tup hq hs, h => by
    unfold D.data at h
    obtain ⟨ys, h1, h2⟩ := Option.map_eq_some_iff.mp h
    subst h2
    exact .tup hq.sq (DenL.dp hs h1)
  | _, _, _, .scr _ _, h => by cases h
  | _, _, _, .ctp _ _, h => by cases h
  | _, _, _, .clo .., h => by cases h
  | _, _, _, .loc _, h => by cases h
  | _, _, _, .ins _ _ _, h => by cases h
  | _, _, _, .dct _ _ _, h => by cases h
  | _, _, _, .dik _ _ _, h => by cases h
  | _, _, _, .exc _ _ _ _ _, h => by cases h
  | _, _, _, .adr _, h => by cases h
theorem DenL.dp {K : PySem.W.Frag} {ι : List Addr} {H : Hp} : ∀ {v : List V} {d : List D} {x : List PyData}, DenL K ι H v d → datas d = some x → DpAll K H v x
  | _, _, _, .nil, h => by cases h; exact .nil
  | _, _, _, .cons hd hs, h => by
    unfold datas at h
    split at h
    · rename_i a b h1 h2
      cases h
      exact .cons (Den.dp hd h1) (DenL.dp hs h2)
    · cases h
end
def gEq (neg : Bool) (d e : D) (st : S) : R D := match d.data, e.data with
  | some x, some y => if SeqAt.shaped x = true ∧ SeqAt.shaped y = true then .ok (.bl (if neg then !PyData.eqv x y else PyData.eqv x y)) st else .stuck
  | _, _ => .stuck
theorem op2_eq {K : PySem.W.Frag} : Op2 K (rEqD K) (gEq false) := by
  intro W σ ι H st x y d e Q r hx hy h
  unfold gEq at h
  split at h
  · rename_i a b h1 h2
    obtain ⟨⟨s1, s2⟩, h⟩ := h.ite
    exact ⟨a, b, hx.dp h1, hy.dp h2, s1, s2, h.ok r (.bl _)⟩
  · exact h.elim
theorem op2_ne {K : PySem.W.Frag} : Op2 K (rNeD K) (gEq true) := by
  intro W σ ι H st x y d e Q r hx hy h
  unfold gEq at h
  split at h
  · rename_i a b h1 h2
    obtain ⟨⟨s1, s2⟩, h⟩ := h.ite
    exact ⟨a, b, hx.dp h1, hy.dp h2, s1, s2, h.ok r (.bl _)⟩
  · exact h.elim
end MF
end
section
set_option Elab.async false
set_option linter.all false
set_option maxRecDepth 100000
set_option maxHeartbeats 4000000
/-! MF4: comparisons, truth, subscripts, slices, calls of built-ins. -/
namespace MF
open PySem PySem.Spec PyProof.Rows L2
section
variable {X : Cx} {W : L2.WX} {e a b c : Expr} {es : List Expr} {pos : Pos}
theorem me_cmp {op : CmpOp} {r : R2} {g : D → D → S → R D} {ma mb : Env → S → R D} (hg : Op2 X.K r g) (ho : OpR X (compareOp op) r) (ha : PE X a (tM X.K W ma)) (hb : PE X b (tM X.K W mb)) (hm : behindInMarks op b = false) : PE X (.Compare a [op] [b] pos) (tM X.K W (mBin g ma mb)) :=
  (pe_cmpR ho ha hb hm).imp fun σ H Q ⟨ι, env, st, er, r, h⟩ => seqM er r h fun ι1 H1 v d st1 er1 s1 r1 e1 h1 => seqM er1 r1 h1 fun ι2 H2 w e st2 er2 s2 r2 e2 h2 => hg W σ ι2 H2 st2 v w d e Q r2 (e1.stp s2) e2 h2
def kTest (d : D) (st : S) : R Bool := match d with
  | .bl k => .ok k st
  | _ => .stuck
def mTest (m : Env → S → R D) : Env → S → R Bool := fun env st => (m env st).bind kTest
theorem Post.test {K : PySem.W.Frag} {σ : L2.St} {ι : List Addr} {H : Hp} {d : D} {st : S} {Q : Bool → Hp → Prop} {v : V} (r : Rel K ι H st) (e : Den K ι H v d) (h : Post K W (fun _ _ (v : Bool) d => v = d) σ ι H (kTest d st) Q) : ∃ k, v = .bl k ∧ Q k H := by
  cases e with
  | bl k => exact ⟨k, rfl, h.ok r rfl⟩
  | _ => exact False.elim h
theorem mt_cmp {op : CmpOp} {r : R2} {g : D → D → S → R D} {ma mb : Env → S → R D} (hg : Op2 X.K r g) (ho : OpR X (compareOp op) r) (ha : PE X a (tM X.K W ma)) (hb : PE X b (tM X.K W mb)) (hm : behindInMarks op b = false) : PT X (.Compare a [op] [b] pos) (tMT X.K W (mTest (mBin g ma mb))) := by
  refine (pt_cmpR ho ha hb hm).imp fun σ H Q ⟨ι, env, st, er, r, h⟩ => ?_
  have h : Post X.K W _ σ ι H ((mBin g ma mb env st).bind _) Q := h
  unfold mBin at h
  rw [show ∀ {α β γ : Type} (x : R α) (f : α → S → R β) (k : β → S → R γ), (x.bind f).bind k = x.bind fun d st => (f d st).bind k from fun x f k => by cases x <;> rfl] at h
  refine seqM er r h fun ι1 H1 v d st1 er1 s1 r1 e1 h1 => ?_
  rw [show ∀ {α β γ : Type} (x : R α) (f : α → S → R β) (k : β → S → R γ), (x.bind f).bind k = x.bind fun d st => (f d st).bind k from fun x f k => by cases x <;> rfl] at h1
  refine seqM er1 r1 h1 fun ι2 H2 w e st2 er2 s2 r2 e2 h2 => hg W σ ι2 H2 st2 v w d e _ r2 (e1.stp s2) e2 ?_
  exact (Post.bind (ρ := Den X.K) h2).mono fun z H3 ⟨ι3, d3, st3, s3, r3, e3, h3⟩ => Post.test r3 e3 h3
/-- an expression's bool as a test -/
theorem mt_val {m : Env → S → R D} (ha : PE X a (tM X.K W m)) (he : ∀ whole, isTrue a X.env whole = (do let v ← whole; standAt a.pos; holding [v] (truthy v)) := by intro _; rfl) : PT X a (tMT X.K W (mTest m)) :=
  (pt_val ha he).imp fun σ H Q ⟨ι, env, st, er, r, h⟩ => seqM er r h fun ι1 H1 v d st1 er1 s1 r1 e1 h1 => Post.test r1 e1 h1
/-- truth -/
def gTru (st : S) (d : D) : Option Bool := match d with
  | .non => some false
  | .bl k => some k
  | .int i => some (i != 0)
  | .str x => if x.length ≤ sizeLine then some ((x.length : Int) != 0) else none
  | .tup xs => some !xs.isEmpty
  | d => (asL st d).map fun xs => !xs.isEmpty
def mTruth (m : Env → S → R D) : Env → S → R Bool := fun env st => (m env st).bind fun d st1 => match gTru st1 d with
  | some k => .ok k st1
  | none => .stuck
theorem DenL.isEmpty {K : PySem.W.Frag} {ι : List Addr} {H : Hp} {vs : List V} {ds : List D} (h : DenL K ι H vs ds) : vs.isEmpty = ds.isEmpty := by cases h <;> rfl
theorem tru_den {K : PySem.W.Frag} {ι : List Addr} {H : Hp} {v : V} {d : D} {st : S} {k : Bool} (r : Rel K ι H st) (e : Den K ι H v d) (h : gTru st d = some k) : TruV K v H k := by
  cases e with
  | non => cases h; rfl
  | bl b => cases h; rfl
  | int i => cases h; rfl
  | str x =>
    unfold gTru at h
    dsimp only at h
    split at h
    · cases h; exact ⟨by assumption, rfl⟩
    · cases h
  | tup hq hs => cases h; exact .inr (.inl ⟨_, hq.sq, by rw [hs.isEmpty]⟩)
  | lst hn ha hs => cases h; exact .inl ⟨_, .of ha, by rw [hs.isEmpty]⟩
  | @loc a n hn =>
    obtain ⟨ds, h1, h2⟩ := Option.map_eq_some_iff.mp (show (asL st (.loc n)).map _ = some k from h)
    obtain ⟨a', xs, e1, e2, e3⟩ := asL_den r (Den.loc hn) h1
    cases e1
    subst h2
    exact .inl ⟨xs, .of e2, by rw [e3.isEmpty]⟩
  | _ => cases h
theorem mt_truth {m : Env → S → R D} (ha : PE X a (tM X.K W m)) (he : ∀ whole, isTrue a X.env whole = (do let v ← whole; standAt a.pos; holding [v] (truthy v)) := by intro _; rfl) : PT X a (tMT X.K W (mTruth m)) :=
  (pt_truth ha he).imp fun σ H Q ⟨ι, env, st, er, r, h⟩ => seqM er r h fun ι1 H1 v d st1 er1 s1 r1 e1 h1 => by
    split at h1
    · rename_i k hk
      exact ⟨k, tru_den r1 e1 hk, h1.ok r1 rfl⟩
    · exact h1.elim
/-! and, or, not -/
def tAnd2 (ma mb : Env → S → R Bool) : Env → S → R Bool := fun env st => (ma env st).bind fun k st1 => match k with
  | true => mb env st1
  | false => .ok false st1
def tOr2 (ma mb : Env → S → R Bool) : Env → S → R Bool := fun env st => (ma env st).bind fun k st1 => match k with
  | true => .ok true st1
  | false => mb env st1
def tNot1 (ma : Env → S → R Bool) : Env → S → R Bool := fun env st => (ma env st).bind fun k st1 => .ok (!k) st1
theorem PW.imp {e : Expr} {t t' : TT} (h : PW X e t) (hi : ∀ σ H Q, t' σ H Q → t σ H Q) : PW X e t' := ⟨fun wh pins s σ H Q I q => h.run wh pins s σ H Q I (hi σ H Q q)⟩
theorem mw_and {rest : List Expr} {ma mb : Env → S → R Bool} (ha : PT X a (tMT X.K W ma)) (hb : PW X (.BoolOp .And (b :: rest) pos) (tMT X.K W mb)) : PW X (.BoolOp .And (a :: b :: rest) pos) (tMT X.K W (tAnd2 ma mb)) :=
  MF.PW.imp (pw_and ha hb) fun σ H Q ⟨ι, env, st, er, r, h⟩ => seqT er r h fun ι1 H1 k st1 er1 s1 r1 h1 => by
    cases k with
    | true => exact iteT ⟨ι1, env, st1, er1, r1, h1⟩
    | false => exact iteF (h1.ok r1 rfl)
theorem mw_or {rest : List Expr} {ma mb : Env → S → R Bool} (ha : PT X a (tMT X.K W ma)) (hb : PW X (.BoolOp .Or (b :: rest) pos) (tMT X.K W mb)) : PW X (.BoolOp .Or (a :: b :: rest) pos) (tMT X.K W (tOr2 ma mb)) :=
  MF.PW.imp (pw_or ha hb) fun σ H Q ⟨ι, env, st, er, r, h⟩ => seqT er r h fun ι1 H1 k st1 er1 s1 r1 h1 => by
    cases k with
    | true => exact iteT (h1.ok r1 rfl)
    | false => exact iteF ⟨ι1, env, st1, er1, r1, h1⟩
theorem mt_not {ma : Env → S → R Bool} (ha : PT X a (tMT X.K W ma)) : PT X (.UnaryOp .Not a pos) (tMT X.K W (tNot1 ma)) :=
  (pt_not ha).imp fun σ H Q ⟨ι, env, st, er, r, h⟩ => seqT er r h fun ι1 H1 k st1 er1 s1 r1 h1 => h1.ok r1 rfl
def mAnd (ma mb : Env → S → R D) : Env → S → R D := fun env st => (ma env st).bind fun d st1 => match d with
  | .bl true => mb env st1
  | .bl false => .ok (.bl false) st1
  | _ => .stuck
def mOr (ma mb : Env → S → R D) : Env → S → R D := fun env st => (ma env st).bind fun d st1 => match d with
  | .bl true => .ok (.bl true) st1
  | .bl false => mb env st1
  | _ => .stuck
def mNot (ma : Env → S → R D) : Env → S → R D := fun env st => (ma env st).bind fun d st1 => match d with
  | .bl k => .ok (.bl (!k)) st1
  | _ => .stuck
theorem me_and {rest : List Expr} {ma mb : Env → S → R D} (ha : PE X a (tM X.K W ma)) (hb : PE X (.BoolOp .And (b :: rest) pos) (tM X.K W mb)) : PE X (.BoolOp .And (a :: b :: rest) pos) (tM X.K W (mAnd ma mb)) :=
  (pe_and ha hb).imp fun σ H Q ⟨ι, env, st, er, r, h⟩ => seqM er r h fun ι1 H1 v d st1 er1 s1 r1 e1 h1 => by
    cases e1 with
    | bl k =>
      cases k with
      | true => exact ⟨true, rfl, iteT ⟨ι1, env, st1, er1, r1, h1⟩⟩
      | false => exact ⟨false, rfl, iteF (h1.ok r1 (.bl _))⟩
    | _ => exact False.elim h1
theorem me_or {rest : List Expr} {ma mb : Env → S → R D} (ha : PE X a (tM X.K W ma)) (hb : PE X (.BoolOp .Or (b :: rest) pos) (tM X.K W mb)) : PE X (.BoolOp .Or (a :: b :: rest) pos) (tM X.K W (mOr ma mb)) :=
  (pe_or ha hb).imp fun σ H Q ⟨ι, env, st, er, r, h⟩ => seqM er r h fun ι1 H1 v d st1 er1 s1 r1 e1 h1 => by
    cases e1 with
    | bl k =>
      cases k with
      | true => exact ⟨true, rfl, iteT (h1.ok r1 (.bl _))⟩
      | false => exact ⟨false, rfl, iteF ⟨ι1, env, st1, er1, r1, h1⟩⟩
    | _ => exact False.elim h1
theorem me_not {ma : Env → S → R D} (ha : PE X a (tM X.K W ma)) : PE X (.UnaryOp .Not a pos) (tM X.K W (mNot ma)) :=
  (pe_not ha).imp fun σ H Q ⟨ι, env, st, er, r, h⟩ => seqM er r h fun ι1 H1 v d st1 er1 s1 r1 e1 h1 => by
    cases e1 with
    | bl k => exact ⟨k, rfl, h1.ok r1 (.bl _)⟩
    | _ => exact False.elim h1
def mIf (t : Env → S → R Bool) (ma mb : Env → S → R D) : Env → S → R D := fun env st => (t env st).bind fun k st1 => match k with
  | true => ma env st1
  | false => mb env st1
theorem me_if {t : Env → S → R Bool} {ma mb : Env → S → R D} (hc : PT X c (tMT X.K W t)) (ha : PE X a (tM X.K W ma)) (hb : PE X b (tM X.K W mb)) : PE X (.IfExp c a b pos) (tM X.K W (mIf t ma mb)) :=
  (pe_ifExp hc ha hb).imp fun σ H Q ⟨ι, env, st, er, r, h⟩ => seqT er r h fun ι1 H1 k st1 er1 s1 r1 h1 => by
    cases k with
    | true => exact iteT ⟨ι1, env, st1, er1, r1, h1⟩
    | false => exact iteF ⟨ι1, env, st1, er1, r1, h1⟩
/-! a op b op' c -/
def mChain (g g' : D → D → S → R D) (ma mb mc : Env → S → R D) : Env → S → R D := fun env st => (ma env st).bind fun d st1 => (mb env st1).bind fun e st2 => (g d e st2).bind fun k st3 => match k with
  | .bl true => (mc env st3).bind fun f st4 => g' e f st4
  | .bl false => .ok (.bl false) st3
  | _ => .stuck
theorem me_chain {op op' : CmpOp} {r r' : R2} {g g' : D → D → S → R D} {ma mb mc : Env → S → R D} (hg : Op2 X.K r g) (hg' : Op2 X.K r' g') (ho : OpR X (compareOp op) r) (ho' : OpR X (compareOp op') r') (ha : PE X a (tM X.K W ma)) (hb : PE X b (tM X.K W mb)) (hc : PE X c (tM X.K W mc))
    (hm : lastMarks [op, op'] [b, c] = false := by with_unfolding_all rfl) : PE X (.Compare a [op, op'] [b, c] pos) (tM X.K W (mChain g g' ma mb mc)) :=
  (pe_chain ho ho' ha hb hc hm).imp fun σ H Q ⟨ι, env, st, er, r, h⟩ => seqM er r h fun ι1 H1 v d st1 er1 s1 r1 e1 h1 => seqM er1 r1 h1 fun ι2 H2 w e st2 er2 s2 r2 e2 h2 => hg W σ ι2 H2 st2 v w d e _ r2 (e1.stp s2) e2 ((Post.bind (ρ := Den X.K) h2).mono fun z H3 ⟨ι3, d3, st3, s3, r3, e3, h3⟩ => by
    cases e3 with
    | bl k =>
      cases k with
      | true => exact ⟨true, rfl, iteT (seqM (er2.stp s3) r3 h3 fun ι4 H4 u f st4 er4 s4 r4 e4 h4 => hg' W σ ι4 H4 st4 w u e f Q r4 ((e2.stp s3).stp s4) e4 h4)⟩
      | false => exact ⟨false, rfl, iteF (h3.ok r3 (.bl _))⟩
    | _ => exact False.elim h3)
theorem mt_chain {op op' : CmpOp} {r r' : R2} {g g' : D → D → S → R D} {ma mb mc : Env → S → R D} (hg : Op2 X.K r g) (hg' : Op2 X.K r' g') (ho : OpR X (compareOp op) r) (ho' : OpR X (compareOp op') r') (ha : PE X a (tM X.K W ma)) (hb : PE X b (tM X.K W mb)) (hc : PE X c (tM X.K W mc))
    (hm : lastMarks [op, op'] [b, c] = false := by with_unfolding_all rfl) : PT X (.Compare a [op, op'] [b, c] pos) (tMT X.K W (mTest (mChain g g' ma mb mc))) :=
  (pt_chain ho ho' ha hb hc hm).imp fun σ H Q ⟨ι, env, st, er, r, h⟩ => by
    have as3 : ∀ {α β γ : Type} (x : R α) (f : α → S → R β) (k : β → S → R γ), (x.bind f).bind k = x.bind fun d st => (f d st).bind k := fun x f k => by cases x <;> rfl
    unfold mTest mChain at h
    rw [as3] at h
    refine seqM er r h fun ι1 H1 v d st1 er1 s1 r1 e1 h1 => ?_
    rw [as3] at h1
    refine seqM er1 r1 h1 fun ι2 H2 w e st2 er2 s2 r2 e2 h2 => ?_
    rw [as3] at h2
    refine hg W σ ι2 H2 st2 v w d e _ r2 (e1.stp s2) e2 ((Post.bind (ρ := Den X.K) h2).mono fun z H3 ⟨ι3, d3, st3, s3, r3, e3, h3⟩ => ?_)
    cases e3 with
    | bl k =>
      cases k with
      | true =>
        dsimp only at h3
        rw [as3] at h3
        refine ⟨true, rfl, iteT (seqM (er2.stp s3) r3 h3 fun ι4 H4 u f st4 er4 s4 r4 e4 h4 => hg' W σ ι4 H4 st4 w u e f _ r4 ((e2.stp s3).stp s4) e4 ((Post.bind (ρ := Den X.K) h4).mono fun z H5 ⟨ι5, d5, st5, s5, r5, e5, h5⟩ => Post.test r5 e5 h5))⟩
      | false => exact ⟨false, rfl, iteF ⟨false, rfl, h3.ok r3 rfl⟩⟩
    | _ => exact False.elim h3
end
/-! ### subscripts -/
theorem DenL.at {K : PySem.W.Frag} {ι : List Addr} {H : Hp} {vs : List V} {ds : List D} {i : Int} {d : D} (h : DenL K ι H vs ds) (e : atI ds i = some d) : ∃ v, atI vs i = some v ∧ Den K ι H v d := by
  unfold atI at e ⊢
  rw [h.length]
  obtain ⟨j, h1, h2⟩ := Option.bind_eq_some_iff.mp e
  obtain ⟨v, h3, h4⟩ := h.get h2
  exact ⟨v, by rw [h1]; exact h3, h4⟩
def gIx (d e : D) (st : S) : R D := match e with
  | .int i => match d with
    | .tup xs => match atI xs i with
      | some x => .ok x st
      | none => .stuck
    | .str z => if z.length ≤ sizeLine then (match atI z.cps.toList i with
      | some c => .ok (.str ⟨#[c]⟩) st
      | none => .stuck) else .stuck
    | d => match asR st d with
      | some xs => (match atI xs i with
        | some x => .ok x st
        | none => .stuck)
      | none => .stuck
  | _ => .stuck
theorem op2_ix {K : PySem.W.Frag} : Op2 K (rIx K) gIx := by
  intro W σ ι H st x y d e Q r hx hy h
  unfold gIx at h
  split at h
  · rename_i i
    have e2 := int_den hy
    subst e2
    split at h
    · rename_i xs
      obtain ⟨a, us, e1, e2, e3⟩ := tup_den hx
      subst e1
      split at h
      · rename_i z hz
        obtain ⟨v, h1, h2⟩ := e3.at hz
        exact .inr (.inl ⟨a, us, i, v, rfl, rfl, e2, h1, h.ok r h2⟩)
      · exact h.elim
    · rename_i z
      have e1 := str_den hx
      subst e1
      obtain ⟨hc, h⟩ := h.ite
      split at h
      · rename_i c hz
        exact .inr (.inr ⟨z, i, c, rfl, rfl, hc, hz, h.ok r (.str _)⟩)
      · exact h.elim
    · split at h
      · rename_i xs hxs
        obtain ⟨a, us, e1, e2, e3⟩ := asR_den r hx hxs
        subst e1
        split at h
        · rename_i z hz
          obtain ⟨v, h1, h2⟩ := e3.at hz
          exact .inl ⟨a, us, i, v, rfl, rfl, e2, h1, h.ok r h2⟩
        · exact h.elim
      · exact h.elim
  · exact h.elim
theorem me_ix {X : Cx} {W : L2.WX} {a b : Expr} {pos : Pos} {ma mb : Env → S → R D} (ha : PE X a (tM X.K W ma)) (hb : PE X b (tM X.K W mb)) (hs : PlainIx b := by exact fun _ _ => rfl) : PE X (.Subscript a b pos) (tM X.K W (mBin gIx ma mb)) :=
  (pe_ix ix_seq ha hb hs).imp fun σ H Q ⟨ι, env, st, er, r, h⟩ => seqM er r h fun ι1 H1 v d st1 er1 s1 r1 e1 h1 => seqM er1 r1 h1 fun ι2 H2 w e st2 er2 s2 r2 e2 h2 => op2_ix W σ ι2 H2 st2 v w d e Q r2 (e1.stp s2) e2 h2
/-! ### slices -/
def cut {α : Type} (xs : List α) (lo hi : Option Int) : List α := (xs.drop (HT.sIx xs.length 0 lo)).take (HT.sIx xs.length xs.length hi - HT.sIx xs.length 0 lo)
theorem DenL.cut {K : PySem.W.Frag} {ι : List Addr} {H : Hp} {vs : List V} {ds : List D} (h : DenL K ι H vs ds) (lo hi : Option Int) : DenL K ι H (cutV vs lo hi) (MF.cut ds lo hi) := by
  unfold cutV MF.cut
  rw [h.length]
  exact (h.drop _).take _
def mNo : Env → S → R (Option Int) := fun _ st => .ok none st
def mPart (m : Env → S → R D) : Env → S → R (Option Int) := fun env st => (m env st).bind fun d st1 => match d with
  | .int i => .ok (some i) st1
  | _ => .stuck
def tMO (K : PySem.W.Frag) (W : L2.WX) (m : Env → S → R (Option Int)) : TO := fun σ H Q => ∃ ι env st, EnvR K ι H σ env ∧ Rel K ι H st ∧ Post K W (fun _ _ (v : Option Int) d => v = d) σ ι H (m env st) Q
section
variable {X : Cx} {W : L2.WX} {e a b c : Expr} {es : List Expr} {pos : Pos}
theorem PO.imp {e : Option Expr} {t t' : TO} (h : PO X e t) (hi : ∀ σ H Q, t' σ H Q → t σ H Q) : PO X e t' := ⟨fun pins s σ H Q I q => h.run pins s σ H Q I (hi σ H Q q)⟩
theorem mo_none : PO X none (tMO X.K W mNo) := MF.PO.imp po_none fun σ H Q ⟨ι, env, st, er, r, h⟩ => h.ok r rfl
theorem mo_some {m : Env → S → R D} (h : PE X e (tM X.K W m)) : PO X (some e) (tMO X.K W (mPart m)) := MF.PO.imp (po_some h) fun σ H Q ⟨ι, env, st, er, r, h⟩ => seqM er r h fun ι1 H1 v d st1 er1 s1 r1 e1 h1 => by
  cases e1 with
  | int i => exact ⟨i, rfl, h1.ok r1 rfl⟩
  | _ => exact False.elim h1
theorem seqO {γ δ : Type} {K : PySem.W.Frag} {W : L2.WX} {ρ' : List Addr → Hp → δ → γ → Prop} {σ : L2.St} {ι : List Addr} {H : Hp} {env : Env} {st : S} {m : Env → S → R (Option Int)} {k : Option Int → S → R γ} {Q : δ → Hp → Prop} {Q1 : Option Int → Hp → Prop} (er : EnvR K ι H σ env) (r : Rel K ι H st)
    (h : Post K W ρ' σ ι H ((m env st).bind k) Q) (hk : ∀ ι1 H1 d st1, EnvR K ι1 H1 σ env → Stp ι H ι1 H1 → Rel K ι1 H1 st1 → Post K W ρ' σ ι1 H1 (k d st1) Q → Q1 d H1) : tMO K W m σ H Q1 :=
  ⟨ι, env, st, er, r, (Post.bind (ρ := fun _ _ (v : Option Int) d => v = d) h).mono fun v H1 ⟨ι1, d, st1, s1, r1, e1, h1⟩ => by subst e1; exact hk ι1 H1 v st1 (er.stp s1) s1 r1 h1⟩
def gSl (d : D) (lo hi : Option Int) (st : S) : R D := match d with
  | .tup xs => .ok (.tup (cut xs lo hi)) st
  | d => match asL st d with
    | some xs => .ok (.lst (cut xs lo hi)) st
    | none => .stuck
def mSl (m : Env → S → R D) (l h : Env → S → R (Option Int)) : Env → S → R D := fun env st => (m env st).bind fun d st1 => (l env st1).bind fun lo st2 => (h env st2).bind fun hi st3 => gSl d lo hi st3
theorem cut_whole {α : Type} {xs : List α} {lo hi : Option Int} (h : HT.sIx xs.length 0 lo = 0 ∧ HT.sIx xs.length xs.length hi = xs.length) : cut xs lo hi = xs := by
  unfold cut
  rw [h.1, h.2, List.drop_zero, Nat.sub_zero, List.take_length]
theorem me_sl {lo hi : Option Expr} {p2 : Pos} {m : Env → S → R D} {l u : Env → S → R (Option Int)} (he : PE X e (tM X.K W m)) (hl : PO X lo (tMO X.K W l)) (hu : PO X hi (tMO X.K W u)) : PE X (.Subscript e (.Slice lo hi none p2) pos) (tM X.K W (mSl m l u)) :=
  (pe_slice (SlR.or sl_tupA sl_list) he hl hu).imp fun σ H Q ⟨ι, env, st, er, r, h⟩ => seqM er r h fun ι1 H1 v d st1 er1 s1 r1 e1 h1 => seqO er1 r1 h1 fun ι2 H2 lo st2 er2 s2 r2 h2 => seqO er2 r2 h2 fun ι3 H3 hi st3 er3 s3 r3 h3 => by
    have e3 := (e1.stp s2).stp s3
    unfold gSl at h3
    split at h3
    · rename_i xs
      obtain ⟨a, us, q1, q2, q3⟩ := tup_den e3
      subst q1
      refine .inl ⟨a, us, rfl, q2, fun hw => ?_, fun _ => post_tup r3 (q3.cut _ _) h3⟩
      rw [q3.length] at hw
      rw [cut_whole hw] at h3
      exact h3.ok r3 e3
    · split at h3
      · rename_i xs hxs
        obtain ⟨a, us, q1, q2, q3⟩ := asL_den r3 e3 hxs
        subst q1
        exact .inr ⟨a, us, rfl, .of q2, post_lst r3 (q3.cut _ _) h3⟩
      · exact h3.elim
/-! ### built-ins by values -/
def Cl (K : PySem.W.Frag) (r : List V → Hp → VK → Prop) (g : List D → S → R D) : Prop := ∀ (W : L2.WX) (σ : L2.St) (ι : List Addr) (H : Hp) (st : S) (vs : List V) (ds : List D) (Q : VK), Rel K ι H st → DenL K ι H vs ds → Post K W (Den K) σ ι H (g ds st) Q → r vs H Q
def mCall (g : List D → S → R D) (ms : Env → S → R (List D)) : Env → S → R D := fun env st => (ms env st).bind fun ds st1 => g ds st1
theorem me_callB {id : String} {x : Str} {p : Pos} {r : List V → Hp → VK → Prop} {g : List D → S → R D} {ms : Env → S → R (List D)} (hg : Cl X.K r g) (hc : CallR X (.builtin id) r) (hgl : Gl X x) (hm : X.mg x = none) (hv : bootBuiltins x = some (.builtin id)) (ha : PA X (e :: es) (tMA X.K W ms)) (hn : x ≠ "__name__" := by decide) (hdb : (x == ("__debug__" : Str)) = false := by decide)
    (he : starEach (e :: es) X.env = (false, eval e X.env) :: starEach es X.env := by rfl) (hpl : (backTo pos (starEach es X.env)).any (·.1) = false := by rfl) : PE X (.Call (.Name x p) (e :: es) [] pos) (tM X.K W (mCall g ms)) :=
  (pe_callB hc hgl hm hv ha hn hdb he hpl).imp fun σ H Q ⟨ι, env, st, er, r, h⟩ => seqA er r h fun ι1 H1 vs ds st1 er1 s1 r1 e1 h1 => hg W σ ι1 H1 st1 vs ds Q r1 e1 h1
theorem me_callTy {T : String} {x : Str} {p : Pos} {r : List V → Hp → VK → Prop} {g : List D → S → R D} {ms : Env → S → R (List D)} (hg : Cl X.K r g) (hc : CallR X (.type T) r) (hgl : Gl X x) (hm : X.mg x = none) (hv : bootBuiltins x = some (.type T)) (ha : PA X (e :: es) (tMA X.K W ms)) (hn : x ≠ "__name__" := by decide) (hdb : (x == ("__debug__" : Str)) = false := by decide)
    (he : starEach (e :: es) X.env = (false, eval e X.env) :: starEach es X.env := by rfl) (hpl : (backTo pos (starEach es X.env)).any (·.1) = false := by rfl) : PE X (.Call (.Name x p) (e :: es) [] pos) (tM X.K W (mCall g ms)) :=
  (pe_callTy hc hgl hm hv ha hn hdb he hpl).imp fun σ H Q ⟨ι, env, st, er, r, h⟩ => seqA er r h fun ι1 H1 vs ds st1 er1 s1 r1 e1 h1 => hg W σ ι1 H1 st1 vs ds Q r1 e1 h1
theorem callr_or {f : Value} {r r' : List V → Hp → VK → Prop} (h : CallR X f r) (h' : CallR X f r') : CallR X f fun vs H Q => r vs H Q ∨ r' vs H Q := fun pins s σ H xs us Q I rv q => by
  rcases q with q | q
  · exact h pins s σ H xs us Q I rv q
  · exact h' pins s σ H xs us Q I rv q
end
theorem denl1 {K : PySem.W.Frag} {ι : List Addr} {H : Hp} {vs : List V} {d : D} (h : DenL K ι H vs [d]) : ∃ v, vs = [v] ∧ Den K ι H v d := by
  cases h with
  | cons h1 h2 => cases h2; exact ⟨_, rfl, h1⟩
theorem denl2 {K : PySem.W.Frag} {ι : List Addr} {H : Hp} {vs : List V} {d e : D} (h : DenL K ι H vs [d, e]) : ∃ v w, vs = [v, w] ∧ Den K ι H v d ∧ Den K ι H w e := by
  cases h with
  | cons h1 h2 =>
    cases h2 with
    | cons h2 h3 => cases h3; exact ⟨_, _, rfl, h1, h2⟩
def gLen (ds : List D) (st : S) : R D := match ds with
  | [.str z] => if z.length ≤ sizeLine then .ok (.int z.length) st else .stuck
  | [.tup xs] => .ok (.int xs.length) st
  | [.ctp xs] => .ok (.int xs.length) st
  | [d] => match asR st d with
    | some xs => .ok (.int xs.length) st
    | none => .stuck
  | _ => .stuck
theorem cl_len {K : PySem.W.Frag} : Cl K (fun xs H Q => ∃ x n, xs = [x] ∧ LenV K x H n ∧ Q (.int n) H) gLen := by
  intro W σ ι H st vs ds Q r e h
  unfold gLen at h
  split at h
  · rename_i z
    obtain ⟨v, e1, e2⟩ := denl1 e
    have e3 := str_den e2
    subst e1 e3
    obtain ⟨hc, h⟩ := h.ite
    exact ⟨_, _, rfl, ⟨hc, rfl⟩, h.ok r (.int _)⟩
  · rename_i xs
    obtain ⟨v, e1, e2⟩ := denl1 e
    obtain ⟨a, us, q1, q2, q3⟩ := tup_den e2
    subst e1 q1
    exact ⟨_, _, rfl, .inr ⟨us, q2, rfl⟩, by rw [q3.length]; exact h.ok r (.int _)⟩
  · rename_i xs
    obtain ⟨v, e1, e2⟩ := denl1 e
    cases e2 with
    | ctp q2 q3 =>
      subst e1
      exact ⟨_, _, rfl, .inr ⟨_, .inr q2, rfl⟩, by rw [q3.length]; exact h.ok r (.int _)⟩
  · split at h
    · rename_i xs hxs
      obtain ⟨v, e1, e2⟩ := denl1 e
      obtain ⟨a, us, q1, q2, q3⟩ := asR_den r e2 hxs
      subst e1 q1
      exact ⟨_, _, rfl, .inl ⟨us, q2, rfl⟩, by rw [q3.length]; exact h.ok r (.int _)⟩
    · exact h.elim
  · exact h.elim
def gInt (ds : List D) (st : S) : R D := match ds with
  | [.int i] => .ok (.int i) st
  | [.bl k] => .ok (.int (if k then 1 else 0)) st
  | _ => .stuck
theorem cl_int {K : PySem.W.Frag} : Cl K (fun xs H Q => (∃ i, xs = [.int i] ∧ Q (.int i) H) ∨ ∃ k, xs = [.bl k] ∧ Q (.int (if k then 1 else 0)) H) gInt := by
  intro W σ ι H st vs ds Q r e h
  unfold gInt at h
  split at h
  · obtain ⟨v, e1, e2⟩ := denl1 e
    have e3 := int_den e2
    subst e1 e3
    exact .inl ⟨_, rfl, h.ok r (.int _)⟩
  · obtain ⟨v, e1, e2⟩ := denl1 e
    have e3 := bl_den e2
    subst e1 e3
    exact .inr ⟨_, rfl, h.ok r (.int _)⟩
  · exact h.elim
def gAbs (ds : List D) (st : S) : R D := match ds with
  | [.int i] => .ok (.int (if i < 0 then -i else i)) st
  | _ => .stuck
theorem cl_abs {K : PySem.W.Frag} : Cl K (fun xs H Q => ∃ i, xs = [.int i] ∧ Q (.int (if i < 0 then -i else i)) H) gAbs := by
  intro W σ ι H st vs ds Q r e h
  unfold gAbs at h
  split at h
  · obtain ⟨v, e1, e2⟩ := denl1 e
    have e3 := int_den e2
    subst e1 e3
    exact ⟨_, rfl, h.ok r (.int _)⟩
  · exact h.elim
/-- list(xs): a list that stays, one that may change -/
def gList (ds : List D) (st : S) : R D := match ds with
  | [.tup xs] => .ok (.lst xs) st
  | [d] => match asR st d with
    | some xs => .ok (.lst xs) st
    | none => .stuck
  | _ => .stuck
def gListM (ds : List D) (st : S) : R D := match ds with
  | [.tup xs] => .ok (.loc st.length) (st ++ [.lst xs])
  | [d] => match asR st d with
    | some xs => .ok (.loc st.length) (st ++ [.lst xs])
    | none => .stuck
  | _ => .stuck
theorem post_loc {K : PySem.W.Frag} {W : L2.WX} {σ : L2.St} {ι : List Addr} {H : Hp} {st : S} {d : List D} {Q : VK} {xs : List V} (r : Rel K ι H st) (e : DenL K ι H xs d) (h : Post K W (Den K) σ ι H (.ok (.loc st.length) (st ++ [.lst d])) Q) : ∀ p, H p = none → Q (.ref p) (upd H p (.lst xs)) := fun p hp => by
  refine h (ι ++ [p]) _ _ (newl_stp r hp) (r.newl hp ⟨xs, upd_same, e.stp (newl_stp r hp)⟩) (.loc ?_)
  rw [← r.len, List.getElem?_append_right (Nat.le_refl _), Nat.sub_self]
  rfl
theorem cl_list {K : PySem.W.Frag} : Cl K (fun xs H Q => ∃ p ys, xs = [.ref p] ∧ (SqL K H p ys ∨ SqT K H p ys) ∧ ∀ l, H l = none → Q (.ref l) (upd H l (.lst ys))) gList := by
  intro W σ ι H st vs ds Q r e h
  unfold gList at h
  split at h
  · obtain ⟨v, e1, e2⟩ := denl1 e
    obtain ⟨a, us, q1, q2, q3⟩ := tup_den e2
    subst e1 q1
    exact ⟨a, us, rfl, .inr q2, post_lst r q3 h⟩
  · split at h
    · rename_i xs hxs
      obtain ⟨v, e1, e2⟩ := denl1 e
      obtain ⟨a, us, q1, q2, q3⟩ := asR_den r e2 hxs
      subst e1 q1
      exact ⟨a, us, rfl, .inl q2, post_lst r q3 h⟩
    · exact h.elim
  · exact h.elim
theorem cl_listM {K : PySem.W.Frag} : Cl K (fun xs H Q => ∃ p ys, xs = [.ref p] ∧ (SqL K H p ys ∨ SqT K H p ys) ∧ ∀ l, H l = none → Q (.ref l) (upd H l (.lst ys))) gListM := by
  intro W σ ι H st vs ds Q r e h
  unfold gListM at h
  split at h
  · obtain ⟨v, e1, e2⟩ := denl1 e
    obtain ⟨a, us, q1, q2, q3⟩ := tup_den e2
    subst e1 q1
    exact ⟨a, us, rfl, .inr q2, post_loc r q3 h⟩
  · split at h
    · rename_i xs hxs
      obtain ⟨v, e1, e2⟩ := denl1 e
      obtain ⟨a, us, q1, q2, q3⟩ := asR_den r e2 hxs
      subst e1 q1
      exact ⟨a, us, rfl, .inl q2, post_loc r q3 h⟩
    · exact h.elim
  · exact h.elim
def gTuple (ds : List D) (st : S) : R D := match ds with
  | [.tup xs] => .ok (.tup xs) st
  | [d] => match asR st d with
    | some xs => .ok (.tup xs) st
    | none => .stuck
  | _ => .stuck
theorem cl_tuple {K : PySem.W.Frag} : Cl K (fun xs H Q => ∃ p ys, xs = [.ref p] ∧ ((SqL K H p ys ∧ ∀ l, H l = none → Q (.ref l) (upd H l (.tup ys))) ∨ (SqT K H p ys ∧ Q (.ref p) H))) gTuple := by
  intro W σ ι H st vs ds Q r e h
  unfold gTuple at h
  split at h
  · obtain ⟨v, e1, e2⟩ := denl1 e
    obtain ⟨a, us, q1, q2, q3⟩ := tup_den e2
    subst e1 q1
    exact ⟨a, us, rfl, .inr ⟨q2, h.ok r e2⟩⟩
  · split at h
    · rename_i xs hxs
      obtain ⟨v, e1, e2⟩ := denl1 e
      obtain ⟨a, us, q1, q2, q3⟩ := asR_den r e2 hxs
      subst e1 q1
      exact ⟨a, us, rfl, .inl ⟨q2, post_tup r q3 h⟩⟩
    · exact h.elim
  · exact h.elim
end MF
end
section
set_option Elab.async false
set_option linter.all false
set_option maxRecDepth 100000
set_option maxHeartbeats 4000000
/-! MF5: statements, targets, loops. -/
namespace MF
open PySem PySem.Spec PyProof.Rows L2
section
variable {X : Cx} {W : L2.WX} {e a b c : Expr} {es : List Expr} {pos : Pos} {st0 : Stmt} {rest : List Stmt}
def sNil : Env → S → R F := fun env st => .ok (.nx env) st
def kSeq (u : Env → S → R F) (f : F) (st : S) : R F := match f with
  | .nx env => u env st
  | f => .ok f st
def sSeq (m u : Env → S → R F) : Env → S → R F := fun env st => (m env st).bind (kSeq u)
theorem ms_nil : PSs X [] (tMS X.K W sNil) := pss_nil.imp fun D σ H ⟨ι, env, st, er, r, h⟩ => h ι H σ .refl r er
theorem postS_seq {K : PySem.W.Frag} {ι : List Addr} {H : Hp} {r : R F} {u : Env → S → R F} {D : Ends} (h : PostS K W ι H (r.bind (kSeq u)) D) : PostS K W ι H r { D with nx := tMS K W u D } := by
  cases r with
  | ok f st =>
    cases f with
    | nx env => exact fun ι' H' σ' s r e => ⟨ι', env, st, e, r, PostS.step s h⟩
    | rt d => exact h
    | bk env => exact h
    | ct env => exact h
  | ex c f p st => exact h
  | stuck => exact h
theorem ms_cons {m u : Env → S → R F} (h1 : PS X st0 (tMS X.K W m)) (h2 : PSs X rest (tMS X.K W u)) : PSs X (st0 :: rest) (tMS X.K W (sSeq m u)) :=
  (pss_cons h1 h2).imp fun D σ H ⟨ι, env, st, er, r, h⟩ => ⟨ι, env, st, er, r, postS_seq h⟩
theorem ms_one {m : Env → S → R F} (h1 : PS X st0 (tMS X.K W m)) : PSs X [st0] (tMS X.K W m) := pss_one h1
/-- an expression's end in a statement -/
theorem seqS {α : Type} {K : PySem.W.Frag} {σ : L2.St} {ι : List Addr} {H : Hp} {r : R α} {β : Type} {ρ : List Addr → Hp → β → α → Prop} {k : α → S → R F} {D : Ends} (h : PostS K W ι H (r.bind k) D) :
    Post K W ρ σ ι H r fun v H1 => ∃ ι1 d st1, Stp ι H ι1 H1 ∧ Rel K ι1 H1 st1 ∧ ρ ι1 H1 v d ∧ PostS K W ι1 H1 (k d st1) D := by
  cases r with
  | ok d st => exact fun ι1 H1 v s1 r1 e1 => ⟨ι1, d, st, s1, r1, e1, PostS.step s1 h⟩
  | ex c f p st => exact fun ι' H' dd v s r n e q => h ι' H' dd v σ s r n e q
  | stuck => exact h
theorem seqSM {K : PySem.W.Frag} {σ : L2.St} {ι : List Addr} {H : Hp} {env : Env} {st : S} {m : Env → S → R D} {k : D → S → R F} {Dd : Ends} {Q1 : V → Hp → Prop} (er : EnvR K ι H σ env) (r : Rel K ι H st)
    (h : PostS K W ι H ((m env st).bind k) Dd) (hk : ∀ ι1 H1 v d st1, EnvR K ι1 H1 σ env → Stp ι H ι1 H1 → Rel K ι1 H1 st1 → Den K ι1 H1 v d → PostS K W ι1 H1 (k d st1) Dd → Q1 v H1) : tM K W m σ H Q1 :=
  ⟨ι, env, st, er, r, (seqS (ρ := Den K) (σ := σ) h).mono fun v H1 ⟨ι1, d, st1, s1, r1, e1, h1⟩ => hk ι1 H1 v d st1 (er.stp s1) s1 r1 e1 h1⟩
theorem seqST {K : PySem.W.Frag} {σ : L2.St} {ι : List Addr} {H : Hp} {env : Env} {st : S} {m : Env → S → R Bool} {k : Bool → S → R F} {Dd : Ends} {Q1 : Bool → Hp → Prop} (er : EnvR K ι H σ env) (r : Rel K ι H st)
    (h : PostS K W ι H ((m env st).bind k) Dd) (hk : ∀ ι1 H1 d st1, EnvR K ι1 H1 σ env → Stp ι H ι1 H1 → Rel K ι1 H1 st1 → PostS K W ι1 H1 (k d st1) Dd → Q1 d H1) : tMT K W m σ H Q1 :=
  ⟨ι, env, st, er, r, (seqS (ρ := fun _ _ (v : Bool) d => v = d) (σ := σ) h).mono fun v H1 ⟨ι1, d, st1, s1, r1, e1, h1⟩ => by subst e1; exact hk ι1 H1 v st1 (er.stp s1) s1 r1 h1⟩
def sPass : Env → S → R F := sNil
theorem ms_pass : PS X (.Pass pos) (tMS X.K W sPass) := ps_pass.imp fun D σ H ⟨ι, env, st, er, r, h⟩ => h ι H σ .refl r er
def sBreak : Env → S → R F := fun env st => .ok (.bk env) st
theorem ms_break : PS X (.Break pos) (tMS X.K W sBreak) := ps_break.imp fun D σ H ⟨ι, env, st, er, r, h⟩ => h ι H σ .refl r er
def sCont : Env → S → R F := fun env st => .ok (.ct env) st
theorem ms_continue : PS X (.Continue pos) (tMS X.K W sCont) := ps_continue.imp fun D σ H ⟨ι, env, st, er, r, h⟩ => h ι H σ .refl r er
def sExpr (m : Env → S → R D) : Env → S → R F := fun env st => (m env st).bind fun _ st1 => .ok (.nx env) st1
theorem ms_expr {m : Env → S → R D} (he : PE X e (tM X.K W m)) (hs : swapsWith e none pos.line X.env = pure false := by rfl) : PS X (.Expr e pos) (tMS X.K W (sExpr m)) :=
  (ps_expr he hs).imp fun D σ H ⟨ι, env, st, er, r, h⟩ => seqSM er r h fun ι1 H1 v d st1 er1 s1 r1 e1 h1 => h1 ι1 H1 σ .refl r1 er1
def sRet (m : Env → S → R D) : Env → S → R F := fun env st => (m env st).bind fun d st1 => .ok (.rt d) st1
theorem ms_ret {m : Env → S → R D} (he : PE X e (tM X.K W m)) : PS X (.Return (some e) pos) (tMS X.K W (sRet m)) :=
  (ps_ret he).imp fun D σ H ⟨ι, env, st, er, r, h⟩ => seqSM er r h fun ι1 H1 v d st1 er1 s1 r1 e1 h1 => h1 ι1 H1 v .refl r1 e1
def sRetN : Env → S → R F := fun _ st => .ok (.rt .non) st
theorem ms_retN : PS X (.Return none pos) (tMS X.K W sRetN) := ps_retN.imp fun D σ H ⟨ι, env, st, er, r, h⟩ => h ι H .non .refl r .non
def sIf (t : Env → S → R Bool) (m u : Env → S → R F) : Env → S → R F := fun env st => (t env st).bind fun k st1 => match k with
  | true => m env st1
  | false => u env st1
theorem ms_if {sa sb : List Stmt} {t : Env → S → R Bool} {m u : Env → S → R F} (hc : PT X c (tMT X.K W t)) (ha : PSs X sa (tMS X.K W m)) (hb : PSs X sb (tMS X.K W u)) : PS X (.If c sa sb pos) (tMS X.K W (sIf t m u)) :=
  (ps_if hc ha hb).imp fun D σ H ⟨ι, env, st, er, r, h⟩ => seqST er r h fun ι1 H1 k st1 er1 s1 r1 h1 => by
    cases k with
    | true => exact iteT ⟨ι1, env, st1, er1, r1, h1⟩
    | false => exact iteF ⟨ι1, env, st1, er1, r1, h1⟩
/-- what is never come to -/
def sNever : Env → S → R F := fun _ _ => .stuck
theorem ms_never {sts : List Stmt} : PSs X sts (tMS X.K W sNever) := pss_never.imp fun D σ H ⟨ι, env, st, er, r, h⟩ => h
/-! targets: the places that are stored, what is stored -/
def tMG (K : PySem.W.Frag) (js : List Nat) (f : D → Env → Option Env) : TG := fun v σ H Q => ∃ ι env d env', EnvR K ι H σ env ∧ Den K ι H v d ∧ f d env = some env' ∧ ∀ σ', EnvR K ι H σ' env' → σ'.length = σ.length → (∀ j, j ∉ js → σ'[j]? = σ[j]?) → Q σ' H
theorem PG.imp {e : Expr} {t t' : TG} (h : PG X e t) (hi : ∀ v σ H Q, t' v σ H Q → t v σ H Q) : PG X e t' := ⟨fun pins s σ H v u Q I rv q => h.run pins s σ H v u Q I rv (hi v σ H Q q)⟩
theorem PG.or {e : Expr} {t t' : TG} (h : PG X e t) (h' : PG X e t') : PG X e fun v σ H Q => t v σ H Q ∨ t' v σ H Q := ⟨fun pins s σ H v u Q I rv q => by
  rcases q with q | q
  · exact h.run pins s σ H v u Q I rv q
  · exact h'.run pins s σ H v u Q I rv q⟩
def gN (i : Nat) (d : D) (env : Env) : Option Env := some (env.set i (some d))
theorem mg_name {i : Nat} {x : Str} (hN : X.N.Nodup) (hi : X.N[i]? = some x := by rfl) (hx : Loc X.env.scope x := by first | exact .inl rfl | exact .inr rfl) (hf : X.fn x = true ∨ X.env.scope.names.lookup x = some .local := by first | exact .inl rfl | exact .inr rfl | assumption) : PG X (.Name x pos) (tMG X.K [i] (gN i)) :=
  MF.PG.imp (pg_name hN hi hx hf) fun v σ H Q ⟨ι, env, d, env', er, e, h, q⟩ => by
    cases h
    exact q _ (er.set i e) List.length_set fun j hj => List.getElem?_set_ne fun z => hj (by rw [z]; exact List.mem_singleton.mpr rfl)
/-- several names, each by its place -/
def tMGs (K : PySem.W.Frag) (js : List Nat) (fs : List D → Env → Option Env) : TGs := fun vs σ H Q => ∃ ι env ds env', EnvR K ι H σ env ∧ DenL K ι H vs ds ∧ fs ds env = some env' ∧ ∀ σ', EnvR K ι H σ' env' → σ'.length = σ.length → (∀ j, j ∉ js → σ'[j]? = σ[j]?) → Q σ' H
def gNs : List Nat → List D → Env → Option Env
  | [], [], env => some env
  | i :: is, d :: ds, env => gNs is ds (env.set i (some d))
  | _, _, _ => none
theorem mgs_nil : PGs X [] (tMGs X.K [] (gNs [])) := ⟨fun pins s σ H vs us Q I rv ⟨ι, env, ds, env', er, e, h, q⟩ => by
  cases e with
  | nil =>
    cases h
    exact pgs_nil.run pins s σ H [] us Q I rv ⟨rfl, q σ er rfl fun _ _ => rfl⟩
  | cons _ _ => cases h⟩
theorem mgs_cons {i : Nat} {x : Str} {is : List Nat} (hN : X.N.Nodup) (hr : PGs X es (tMGs X.K is (gNs is))) (hi : X.N[i]? = some x := by rfl) (hx : Loc X.env.scope x := by first | exact .inl rfl | exact .inr rfl) (hf : X.fn x = true ∨ X.env.scope.names.lookup x = some .local := by first | exact .inl rfl | exact .inr rfl | assumption)
    (hs : (assignEach (.Name x pos :: es) X.env).map (·.2) = assign (.Name x pos) X.env :: (assignEach es X.env).map (·.2) := by rfl) : PGs X (.Name x pos :: es) (tMGs X.K (i :: is) (gNs (i :: is))) := ⟨fun pins s σ H vs us Q I rv ⟨ι, env, ds, env', er, e, h, q⟩ => by
  cases e with
  | nil => cases h
  | cons e1 e2 => exact (pgs_cons (pg_name (pos := pos) hN hi hx hf) hr hs).run pins s σ H _ us Q I rv ⟨_, _, rfl, ι, _, _, env', er.set i e1, e2, h, fun σ' er' hl hj => q σ' er' (hl.trans List.length_set) fun j nj => (hj j fun z => nj (List.mem_cons_of_mem _ z)).trans (List.getElem?_set_ne fun z => nj (by rw [z]; exact List.mem_cons_self))⟩⟩
def gT (is : List Nat) (d : D) (env : Env) : Option Env := match d with
  | .tup ds => gNs is ds env
  | .lst ds => gNs is ds env
  | _ => none
theorem gNs_len : ∀ {is : List Nat} {ds : List D} {env env' : Env}, gNs is ds env = some env' → ds.length = is.length
  | [], [], _, _, _ => rfl
  | i :: is, d :: ds, env, env', h => by
    have := gNs_len (is := is) (ds := ds) (env := env.set i (some d)) h
    rw [List.length_cons, List.length_cons, this]
  | [], _ :: _, _, _, h => by cases h
  | _ :: _, [], _, _, h => by cases h
theorem mg_tup {is : List Nat} {k : Nat} (hc : X.calm = true) (h : PGs X es (tMGs X.K is (gNs is))) (hn : (assignEach es X.env).length = is.length := by rfl) (hst : (assignEach es X.env).findIdx? (·.1) = none := by rfl) : PG X (.Tuple es k pos) (tMG X.K is (gT is)) :=
  MF.PG.imp (MF.PG.or (pg_tup hc h hn hst) (pg_unl hc h hn hst)) fun v σ H Q ⟨ι, env, d, env', er, e, hd, q⟩ => by
    cases e with
    | tup hq hs => exact .inl ⟨_, _, rfl, hq.sq, by rw [hs.length]; exact gNs_len hd, ι, env, _, env', er, hs, hd, q⟩
    | lst hn ha hs => exact .inr ⟨_, _, rfl, .of ha, by rw [hs.length]; exact gNs_len hd, ι, env, _, env', er, hs, hd, q⟩
    | _ => cases hd
/-! assignments -/
def kSet (f : D → Env → Option Env) (env : Env) (d : D) (st : S) : R F := match f d env with
  | some env1 => .ok (.nx env1) st
  | none => .stuck
def sAsg (f : D → Env → Option Env) (m : Env → S → R D) : Env → S → R F := fun env st => (m env st).bind (kSet f env)
theorem set_end {K : PySem.W.Frag} {σ : L2.St} {ι : List Addr} {H : Hp} {env : Env} {st : S} {f : D → Env → Option Env} {d : D} {v : V} {Dd : Ends} (er : EnvR K ι H σ env) (r : Rel K ι H st) (e : Den K ι H v d) (h : PostS K W ι H (kSet f env d st) Dd) {js : List Nat} : tMG K js f v σ H Dd.nx := by
  unfold kSet at h
  split at h
  · rename_i env1 he
    exact ⟨ι, env, d, env1, er, e, he, fun σ' er' _ _ => h ι H σ' .refl r er'⟩
  · exact h.elim
theorem ms_asg {tg : Expr} {js : List Nat} {f : D → Env → Option Env} {m : Env → S → R D} (he : PE X e (tM X.K W m)) (hg : PG X tg (tMG X.K js f)) (hs : swapsWithSole [tg] e pos.line X.env = pure false := by rfl) (hw : swappedStores [tg] e X.env = pure none := by rfl)
    (h1 : (assignEach [tg] X.env).map (·.2) = [assign tg X.env] := by rfl) : PS X (.Assign [tg] e pos) (tMS X.K W (sAsg f m)) :=
  (ps_asg he hg hs hw h1).imp fun D σ H ⟨ι, env, st, er, r, h⟩ => seqSM er r h fun ι1 H1 v d st1 er1 s1 r1 e1 h1 => set_end er1 r1 e1 h1
theorem ms_set {i : Nat} {x : Str} {pos' : Pos} {m : Env → S → R D} (hN : X.N.Nodup) (he : PE X e (tM X.K W m)) (hi : X.N[i]? = some x := by rfl) (hx : Loc X.env.scope x := by first | exact .inl rfl | exact .inr rfl) (hs : swapsWith e (some (.Name x pos')) pos.line X.env = pure false := by rfl) (hf : X.fn x = true ∨ X.env.scope.names.lookup x = some .local := by first | exact .inl rfl | exact .inr rfl | assumption) :
    PS X (.Assign [.Name x pos'] e pos) (tMS X.K W (sAsg (gN i) m)) :=
  (ps_set hN hi hx he hs hf).imp fun D σ H ⟨ι, env, st, er, r, h⟩ => seqSM er r h fun ι1 H1 v d st1 er1 s1 r1 e1 h1 => h1 ι1 H1 _ .refl r1 (er1.set i e1)
/-- o[i] = e, o a list that may change -/
def kPut (d i x : D) (st : S) : Option S := match d, i with
  | .loc n, .int k => match st[n]? with
    | some (.lst xs) => (ixN xs.length k).map fun j => st.set n (.lst (xs.set j x))
    | _ => none
  | _, _ => none
def sPut (mo mi m : Env → S → R D) : Env → S → R F := fun env st => (m env st).bind fun x st1 => (mo env st1).bind fun d st2 => (mi env st2).bind fun i st3 => match kPut d i x st3 with
  | some st4 => .ok (.nx env) st4
  | none => .stuck
theorem ms_put {o i : Expr} {p2 : Pos} {mo mi m : Env → S → R D} (he : PE X e (tM X.K W m)) (ho : PE X o (tM X.K W mo)) (hi : PE X i (tM X.K W mi))
    (ha : ∀ v, assign (.Subscript o i p2) X.env v = (do
      let ov ← holding [v] (eval o X.env)
      let iv ← holding [v, ov] (eval i X.env)
      standAt p2
      holding [v, ov, iv] (setItem ov iv v)
      release [v, ov, iv] []) := by intro _; rfl)
    (hs : swapsWithSole [.Subscript o i p2] e pos.line X.env = pure false := by rfl) (hw : swappedStores [.Subscript o i p2] e X.env = pure none := by rfl)
    (h1 : (assignEach [.Subscript o i p2] X.env).map (·.2) = [assign (.Subscript o i p2) X.env] := by rfl) : PS X (.Assign [.Subscript o i p2] e pos) (tMS X.K W (sPut mo mi m)) :=
  (ps_asg he (pg_sub ho hi set_list ha) hs hw h1).imp fun D σ H ⟨ι, env, st, er, r, h⟩ => seqSM er r h fun ι1 H1 v x st1 er1 s1 r1 e1 h1 => seqSM er1 r1 h1 fun ι2 H2 u d st2 er2 s2 r2 e2 h2 => seqSM er2 r2 h2 fun ι3 H3 w i st3 er3 s3 r3 e3 h3 => by
    have e1' := (e1.stp s2).stp s3
    have e2' := e2.stp s3
    split at h3
    · rename_i st4 hp
      unfold kPut at hp
      split at hp
      · rename_i n k
        split at hp
        · rename_i xs hst
          obtain ⟨j, hj, q⟩ := Option.map_eq_some_iff.mp hp
          subst q
          have ew := int_den e3
          subst ew
          cases e2' with
          | @loc a n hn =>
            obtain ⟨us, hus, hds⟩ := r3.obs n a _ hn hst
            refine ⟨a, us, k, j, rfl, rfl, hus, by rw [hds.length]; exact hj, ?_⟩
            exact h3 ι3 _ σ (chg_stp hn) (r3.chg hn ⟨_, upd_same, (hds.set e1' j).stp (chg_stp hn)⟩) (er3.stp (chg_stp hn))
        · cases hp
      · cases hp
    · exact h3.elim
/-! loops -/
structure WalksD (K : PySem.W.Frag) (ι : List Addr) (H : Hp) (J : It) (ds : List D) : Prop where
  ex : ∃ (G : Hp → Prop) (Y : Nat → Hp → V → Hp → Prop), Walk J ds.length G Y ∧ (∀ ι' H', Stp ι H ι' H' → G H') ∧ ∀ ι1 H1 (i : Nat) x H2 st, Stp ι H ι1 H1 → Rel K ι1 H1 st → i < ds.length → Y i H1 x H2 → Stp ι1 H1 ι1 H2 ∧ Rel K ι1 H2 st ∧ ∃ d, ds[i]? = some d ∧ Den K ι1 H2 x d
def tMI (K : PySem.W.Frag) (W : L2.WX) (m : Env → S → R (List D)) : TI := fun σ H R => ∃ ι env st, EnvR K ι H σ env ∧ Rel K ι H st ∧ Post K W (fun ι' H' (J : It) ds => WalksD K ι' H' J ds) σ ι H (m env st) R
theorem PI.imp {tg e : Expr} {t t' : TI} (h : PI X tg e t) (hi : ∀ σ H Q, t' σ H Q → t σ H Q) : PI X tg e t' := ⟨fun pins s σ H Q I q => h.run pins s σ H Q I (hi σ H Q q)⟩
def loop (f : D → Env → Option Env) (body : Env → S → R F) : List D → Env → S → R F
  | [], env, st => .ok (.nx env) st
  | d :: ds, env, st => match f d env with
    | none => .stuck
    | some env1 => (body env1 st).bind fun g st1 => match g with
      | .nx env2 => loop f body ds env2 st1
      | .ct env2 => loop f body ds env2 st1
      | .bk env2 => .ok (.nx env2) st1
      | .rt d => .ok (.rt d) st1
def sFor (it : Env → S → R (List D)) (f : D → Env → Option Env) (body : Env → S → R F) : Env → S → R F := fun env st => (it env st).bind fun ds st1 => loop f body ds env st1
theorem ms_for {tg iter : Expr} {js : List Nat} {body : List Stmt} {it : Env → S → R (List D)} {f : D → Env → Option Env} {m : Env → S → R F} (hp : PassesOwn (model X.prog X.w) X.A X.env X.xe) (hc : X.calm = true) (hi : PI X tg iter (tMI X.K W it)) (hg : PG X tg (tMG X.K js f)) (hb : PSs X body (tMS X.K W m))
    (hs : ∀ x, foldedSetIterable iter X.env x = pure x := by intro _; rfl) : PS X (.For tg iter body [] pos) (tMS X.K W (sFor it f m)) :=
  (ps_for hp hc hi hg hb hs).imp fun D σ H ⟨ι, env, st, er, r, h⟩ => by
    refine ⟨ι, env, st, er, r, (seqS (ρ := fun ι' H' (J : It) ds => WalksD X.K ι' H' J ds) (σ := σ) h).mono fun J H1 ⟨ι1, ds, st1, s1, r1, w1, h1⟩ => ?_⟩
    obtain ⟨G, Y, w, hG, hY⟩ := w1.ex
    refine for_it w (fun i σ2 H2 => ∃ ι2 env2 st2, Stp ι1 H1 ι2 H2 ∧ EnvR X.K ι2 H2 σ2 env2 ∧ Rel X.K ι2 H2 st2 ∧ PostS X.K W ι2 H2 (loop f m (ds.drop i) env2 st2) D) ⟨ι1, env, st1, .refl, er.stp s1, r1, by rw [List.drop_zero]; exact h1⟩
      (fun i σ2 H2 hi ⟨ι2, env2, st2, s2, _⟩ => hG ι2 H2 s2) ?_ ?_
    · rintro i x σ2 H2 H3 hi ⟨ι2, env2, st2, s2, er2, r2, h2⟩ y
      obtain ⟨s3, r3, d, hd, ed⟩ := hY ι2 H2 i x H3 st2 s2 r2 hi y
      have hdrop : ds.drop i = d :: ds.drop (i + 1) := by
        rw [List.drop_eq_getElem_cons hi]
        congr 1
        rw [List.getElem?_eq_getElem hi] at hd
        exact Option.some.inj hd
      rw [hdrop] at h2
      unfold loop at h2
      split at h2
      · exact h2.elim
      · rename_i env3 he
        refine ⟨ι2, env2, d, env3, er2.stp s3, ed, he, fun σ' er3 _ _ => ⟨ι2, env3, st2, er3, r3, ?_⟩⟩
        have h3 := PostS.step s3 h2
        revert h3
        cases hm : m env3 st2 with
        | ok g st4 =>
          cases g with
          | nx env4 => exact fun h3 ι5 H5 σ5 s5 r5 e5 => ⟨ι5, env4, st4, (s2.trans s3).trans s5, e5, r5, PostS.step s5 h3⟩
          | ct env4 => exact fun h3 ι5 H5 σ5 s5 r5 e5 => ⟨ι5, env4, st4, (s2.trans s3).trans s5, e5, r5, PostS.step s5 h3⟩
          | bk env4 => exact fun h3 => h3
          | rt d => exact fun h3 => h3
        | ex c f p st => exact fun h3 => h3
        | stuck => exact fun h3 => h3
    · rintro σ2 H2 ⟨ι2, env2, st2, s2, er2, r2, h2⟩
      rw [List.drop_length] at h2
      exact h2 ι2 H2 σ2 .refl r2 er2
/-! what is walked -/
def itL (m : Env → S → R D) : Env → S → R (List D) := fun env st => (m env st).bind fun d st1 => match d with
  | .lst ds => .ok ds st1
  | .scr ds => .ok ds st1
  | _ => .stuck
def itT (m : Env → S → R D) : Env → S → R (List D) := fun env st => (m env st).bind fun d st1 => match d with
  | .tup ds => .ok ds st1
  | _ => .stuck
theorem walks_list {K : PySem.W.Frag} {ι : List Addr} {H : Hp} {a : Addr} {xs : List V} {ds : List D} (hG : ∀ ι' H', Stp ι H ι' H' → SqL K H' a xs) (hs : DenL K ι H xs ds) : WalksD K ι H (Itl K a) ds := by
  refine ⟨_, _, by rw [← hs.length]; exact walk_list (xs := xs), hG, fun ι1 H1 i x H2 st s r hi y => ?_⟩
  obtain ⟨e, y⟩ := y
  subst e
  obtain ⟨d, h1, h2⟩ := (hs.stp s).getV y
  exact ⟨.refl, r, d, h1, h2⟩
theorem walks_tup {K : PySem.W.Frag} {ι : List Addr} {H : Hp} {a : Addr} {xs : List V} {ds : List D} (hq : FzT K ι H a xs) (hs : DenL K ι H xs ds) : WalksD K ι H (Itt K a) ds := by
  refine ⟨_, _, by rw [← hs.length]; exact walk_tup (xs := xs), fun ι' H' s => (s.fzt hq).sq, fun ι1 H1 i x H2 st s r hi y => ?_⟩
  obtain ⟨e, y⟩ := y
  subst e
  obtain ⟨d, h1, h2⟩ := (hs.stp s).getV y
  exact ⟨.refl, r, d, h1, h2⟩
theorem walks_ctp {K : PySem.W.Frag} {ι : List Addr} {H : Hp} {a : Addr} {xs : List V} {ds : List D} (hq : KTup K a xs) (hs : DenL K ι H xs ds) : WalksD K ι H (Itt K a) ds := by
  have hl := hs.length
  refine ⟨fun H => SqT K H a xs, _, hl ▸ walk_tup, fun ι' H' s => .inr hq, fun ι1 H1 i v H2 st s r hi y => ?_⟩
  obtain ⟨rfl, hv⟩ := y
  obtain ⟨d, hd, ed⟩ := hs.getV hv
  exact ⟨.refl, r, d, hd, ed.stp s⟩
theorem mi_list {tg l : Expr} {m : Env → S → R D} (hl : PE X l (tM X.K W m)) : PI X tg l (tMI X.K W (itL m)) :=
  MF.PI.imp (pi_list hl) fun σ H Q ⟨ι, env, st, er, r, h⟩ => seqM er r h fun ι1 H1 v d st1 er1 s1 r1 e1 h1 => by
    cases e1 with
    | lst hn ha hs => exact ⟨_, rfl, ⟨_, .of ha⟩, h1.ok r1 (walks_list (fun ι' H' s => .of (s.keep _ _ hn (by intro _ z; cases z) ha).2) hs)⟩
    | scr hq hs => exact ⟨_, rfl, ⟨_, hq.sq⟩, h1.ok r1 (walks_list (fun ι' H' s => (s.fzl hq).sq) hs)⟩
    | _ => exact False.elim h1
theorem mi_tup {tg l : Expr} {m : Env → S → R D} (hl : PE X l (tM X.K W m)) : PI X tg l (tMI X.K W (itT m)) :=
  MF.PI.imp (pi_tup hl) fun σ H Q ⟨ι, env, st, er, r, h⟩ => seqM er r h fun ι1 H1 v d st1 er1 s1 r1 e1 h1 => by
    cases e1 with
    | tup hq hs => exact ⟨_, rfl, ⟨_, hq.sq⟩, h1.ok r1 (walks_tup hq hs)⟩
    | _ => exact False.elim h1
/-- lists and tuples alike -/
def itS (m : Env → S → R D) : Env → S → R (List D) := fun env st => (m env st).bind fun d st1 => match d with
  | .lst ds => .ok ds st1
  | .scr ds => .ok ds st1
  | .tup ds => .ok ds st1
  | .ctp ds => .ok ds st1
  | _ => .stuck
theorem PI.or {tg e : Expr} {t t' : TI} (h : PI X tg e t) (h' : PI X tg e t') : PI X tg e fun σ H Q => t σ H Q ∨ t' σ H Q := ⟨fun pins s σ H R I q => by
  rcases q with q | q
  · exact h.run pins s σ H R I q
  · exact h'.run pins s σ H R I q⟩
theorem pi_seq {tg l : Expr} {tl : TE} (hl : PE X l tl) : PI X tg l (fun σ H R => tl σ H fun x H1 => ∃ a, x = .ref a ∧ (((∃ xs, SqL X.K H1 a xs) ∧ R (Itl X.K a) H1) ∨ ((∃ xs, SqT X.K H1 a xs) ∧ R (Itt X.K a) H1))) := by
  refine ⟨fun pins s σ H R I h => ?_⟩
  refine thn (hl.run pins s σ H _ I h) fun v s1 ⟨x, H1, I1, r1, q1⟩ => ?_
  obtain ⟨a, e, q⟩ := q1
  subst e
  cases r1
  have fin : ∀ b ∈ [s1.heap.objs.size], FpOk X pins H1 b := fun b hb => by
    have e : b = s1.heap.objs.size := by simpa using hb
    subst e
    exact I1.fpOk (Nat.le_refl _) (I1.hok.fresh (Nat.le_refl _))
  rcases q with ⟨⟨xs, hq⟩, q⟩ | ⟨⟨xs, hq⟩, q⟩
  · obtain ⟨its, rv, p, hz⟩ := I1.list hq
    refine wpAny_pyIter_list p.isList ?_
    exact ⟨s1.heap.objs.size, [s1.heap.objs.size], _, _, H1, rfl, I1.kept (t' := s1.toks) fun b o e => Heap.get?_push_of_some _ e, turn_list a _, ⟨_, Heap.get?_push_size _ rfl, rfl, rfl⟩, fin, q⟩
  · obtain ⟨its, rv, p, hz⟩ := I1.tuple hq
    refine wpAny_pyIter_tuple (show s1.heap.IsTuple a its.toArray from p) ?_
    exact ⟨s1.heap.objs.size, [s1.heap.objs.size], _, _, H1, rfl, I1.kept (t' := s1.toks) fun b o e => Heap.get?_push_of_some _ e, turn_tuple a _, ⟨_, Heap.get?_push_size _ rfl, rfl, rfl⟩, fin, q⟩
theorem mi_seq {tg l : Expr} {m : Env → S → R D} (hl : PE X l (tM X.K W m)) : PI X tg l (tMI X.K W (itS m)) :=
  MF.PI.imp (pi_seq hl) fun σ H Q ⟨ι, env, st, er, r, h⟩ => seqM er r h fun ι1 H1 v d st1 er1 s1 r1 e1 h1 => by
    cases e1 with
    | lst hn ha hs => exact ⟨_, rfl, .inl ⟨⟨_, .of ha⟩, h1.ok r1 (walks_list (fun ι' H' s => .of (s.keep _ _ hn (by intro _ z; cases z) ha).2) hs)⟩⟩
    | scr hq hs => exact ⟨_, rfl, .inl ⟨⟨_, hq.sq⟩, h1.ok r1 (walks_list (fun ι' H' s => (s.fzl hq).sq) hs)⟩⟩
    | tup hq hs => exact ⟨_, rfl, .inr ⟨⟨_, hq.sq⟩, h1.ok r1 (walks_tup hq hs)⟩⟩
    | ctp hq hs => exact ⟨_, rfl, .inr ⟨⟨_, .inr hq⟩, h1.ok r1 (walks_ctp hq hs)⟩⟩
    | _ => exact False.elim h1
def itRange (ms : Env → S → R (List D)) : Env → S → R (List D) := fun env st => (ms env st).bind fun ds st1 => match ds with
  | [.int j] => if -(2 ^ 62) ≤ j ∧ j < 2 ^ 62 then .ok ((List.range j.toNat).map fun (i : Nat) => .int i) st1 else .stuck
  | _ => .stuck
theorem mi_range {tg a : Expr} {p : Pos} {ms : Env → S → R (List D)} (hg : Gl X "range") (hm : X.mg "range" = none) (ha : PA X [a] (tMA X.K W ms)) (hs : starEach [a] X.env = [(false, eval a X.env)] := by rfl) : PI X tg (.Call (.Name "range" p) [a] [] pos) (tMI X.K W (itRange ms)) :=
  MF.PI.imp (pi_range1 hg hm ha hs) fun σ H Q ⟨ι, env, st, er, r, h⟩ => seqA er r h fun ι1 H1 vs ds st1 er1 s1 r1 e1 h1 => by
    split at h1
    · rename_i j
      obtain ⟨v, q1, q2⟩ := denl1 e1
      have q3 := int_den q2
      subst q1 q3
      obtain ⟨⟨c1, c2⟩, h1⟩ := h1.ite
      refine ⟨j, rfl, c1, c2, h1.ok r1 ⟨_, _, by rw [List.length_map, List.length_range]; exact walk_range, fun _ _ _ => trivial, fun ι2 H2 i x H3 st2 s2 r2 hi y => ?_⟩⟩
      obtain ⟨y1, y2⟩ := y
      subst y1
      rw [List.length_map, List.length_range] at hi
      refine ⟨.refl, r2, .int i, by simp [hi], ?_⟩
      rw [y2]
      show Den X.K ι2 H3 (V.int (0 + (i : Nat))) (D.int (i : Nat))
      rw [Int.zero_add]
      exact .int _
    · exact h1.elim
end
end MF
end
section
set_option Elab.async false
set_option linter.all false
set_option maxRecDepth 100000
set_option maxHeartbeats 4000000
/-! MF6: objects that a call leaves behind, defs. -/
namespace MF
open PySem PySem.Spec PyProof.Rows L2
/-! ### no object from n on -/
mutual
def D.low (n : Nat) : D → Bool
  | .loc m => decide (m < n)
  | .lst xs => belows n xs
  | .tup xs => belows n xs
  | .scr xs => belows n xs
  | .ctp xs => belows n xs
  | .ins _ fs => belowF n fs
  | .dct fs => belowK n fs
  | .dik fs => belowI n fs
  | .exc _ _ d => d.low n
  | .clo _ _ d => d.low n
  | _ => true
def belows (n : Nat) : List D → Bool
  | [] => true
  | d :: ds => d.low n && belows n ds
def belowF (n : Nat) : List (Str × D) → Bool
  | [] => true
  | (_, d) :: ds => d.low n && belowF n ds
def belowK (n : Nat) : List (List Key × D) → Bool
  | [] => true
  | (_, d) :: ds => d.low n && belowK n ds
def belowI (n : Nat) : List (Key × D) → Bool
  | [] => true
  | (_, d) :: ds => d.low n && belowI n ds
end
def Ob.low (n : Nat) : Ob → Bool
  | .lst ds => belows n ds
  | .dct ds => belowK n ds
  | .dik ds => belowI n ds
  | .ins _ ds => belowF n ds
  | .tab _ _ => true
section
variable {K : PySem.W.Frag} {ι : List Addr} {H : Hp} {st : S}
theorem FzL.cut {a : Addr} {xs : List V} (n : Nat) (h : FzL K ι H a xs) : FzL K (ι.take n) H a xs := by
  rcases h with ⟨h, q⟩ | h
  · exact .inl ⟨fun z => h (List.mem_of_mem_take z), q⟩
  · exact .inr h
theorem FzT.cut {a : Addr} {xs : List V} (n : Nat) (h : FzT K ι H a xs) : FzT K (ι.take n) H a xs := ⟨fun z => h.1 (List.mem_of_mem_take z), h.2⟩
mutual
theorem Den.cut {n : Nat} : ∀ {v : V} {d : D}, Den K ι H v d → d.low n = true → Den K (ι.take n) H v d
  | _, _, .non, _ => .non
  | _, _, .bl b, _ => .bl b
  | _, _, .int i, _ => .int i
  | _, _, .str x, _ => .str x
  | _, _, .lst hn h hs, b => .lst (fun z => hn (List.mem_of_mem_take z)) h (DenL.cut' hs (by simpa only [D.low] using b))
  | _, _, .scr h hs, b => .scr (h.cut n) (DenL.cut' hs (by simpa only [D.low] using b))
  | _, _, .ctp h hs, b => .ctp h (DenL.cut' hs (by simpa only [D.low] using b))
  | _, _, .tup h hs, b => .tup (h.cut n) (DenL.cut' hs (by simpa only [D.low] using b))
  | _, _, .loc (n := m) h, b => .loc (by
    have : m < n := by simpa only [D.low, decide_eq_true_eq] using b
    rw [List.getElem?_take_of_lt this]
    exact h)
  | _, _, .ins hn h hs, b => .ins (fun z => hn (List.mem_of_mem_take z)) h (DenF.cut hs (by simpa only [D.low] using b))
  | _, _, .dct hn h hs, b => .dct (fun z => hn (List.mem_of_mem_take z)) h (DenK.cut hs (by simpa only [D.low] using b))
  | _, _, .dik hn h hs, b => .dik (fun z => hn (List.mem_of_mem_take z)) h (DenI.cut hs (by simpa only [D.low] using b))
  | _, _, .exc hn h hx h2 hd, b => .exc (fun z => hn (List.mem_of_mem_take z)) h (fun z => hx (List.mem_of_mem_take z)) h2 (Den.cut hd (by simpa only [D.low] using b))
  | _, _, .clo hn h hn1 h1 hn2 h2 hd, b => .clo (fun z => hn (List.mem_of_mem_take z)) h (fun z => hn1 (List.mem_of_mem_take z)) h1 (fun z => hn2 (List.mem_of_mem_take z)) h2 (Den.cut hd (by simpa only [D.low] using b))
  | _, _, .adr a, _ => .adr a
theorem DenL.cut' {n : Nat} : ∀ {v : List V} {d : List D}, DenL K ι H v d → belows n d = true → DenL K (ι.take n) H v d
  | _, _, .nil, _ => .nil
  | _, _, .cons h hs, b => by
    simp only [belows, Bool.and_eq_true] at b
    exact .cons (Den.cut h b.1) (DenL.cut' hs b.2)
theorem DenF.cut {n : Nat} : ∀ {v : List (Str × V)} {d : List (Str × D)}, DenF K ι H v d → belowF n d = true → DenF K (ι.take n) H v d
  | _, _, .nil, _ => .nil
  | _, _, .cons h hs, b => by
    simp only [belowF, Bool.and_eq_true] at b
    exact .cons (Den.cut h b.1) (DenF.cut hs b.2)
theorem DenK.cut {n : Nat} : ∀ {v : List (List Key × V)} {d : List (List Key × D)}, DenK K ι H v d → belowK n d = true → DenK K (ι.take n) H v d
  | _, _, .nil, _ => .nil
  | _, _, .cons h hs, b => by
    simp only [belowK, Bool.and_eq_true] at b
    exact .cons (Den.cut h b.1) (DenK.cut hs b.2)
theorem DenI.cut {n : Nat} : ∀ {v : List (Key × V)} {d : List (Key × D)}, DenI K ι H v d → belowI n d = true → DenI K (ι.take n) H v d
  | _, _, .nil, _ => .nil
  | _, _, .cons h hs, b => by
    simp only [belowI, Bool.and_eq_true] at b
    exact .cons (Den.cut h b.1) (DenI.cut hs b.2)
end
/-- what objects from n on hold now, they being dropped -/
def frz (st : S) (n : Nat) : Nat → D → D
  | 0, d => d
  | k + 1, d => match d with
    | .loc m => if m < n then .loc m else match st[m]? with
      | some (.lst ds) => .lst (ds.map (frz st n k))
      | some (.dct ds) => .dct (ds.map fun p => (p.1, frz st n k p.2))
      | some (.dik ds) => .dik (ds.map fun p => (p.1, frz st n k p.2))
      | some (.ins C ds) => .ins C (ds.map fun p => (p.1, frz st n k p.2))
      | some (.tab _ _) => .loc m
      | none => .loc m
    | .lst ds => .lst (ds.map (frz st n k))
    | .tup ds => .tup (ds.map (frz st n k))
    | .ins C ds => .ins C (ds.map fun p => (p.1, frz st n k p.2))
    | .dct ds => .dct (ds.map fun p => (p.1, frz st n k p.2))
    | .dik ds => .dik (ds.map fun p => (p.1, frz st n k p.2))
    | .exc C f d => .exc C f (frz st n k d)
    | .clo i x d => .clo i x (frz st n k d)
    | d => d
theorem frz_lst {n : Nat} {f : D → D} (ih : ∀ v d, Den K ι H v d → (f d).low n = true → Den K (ι.take n) H v (f d)) : ∀ {vs : List V} {ds : List D}, DenL K ι H vs ds → belows n (ds.map f) = true → DenL K (ι.take n) H vs (ds.map f)
  | _, _, .nil, _ => .nil
  | _, _, .cons h hs, b => by
    simp only [List.map_cons, belows, Bool.and_eq_true] at b
    exact .cons (ih _ _ h b.1) (frz_lst ih hs b.2)
theorem frz_f {n : Nat} {f : D → D} (ih : ∀ v d, Den K ι H v d → (f d).low n = true → Den K (ι.take n) H v (f d)) : ∀ {vs : List (Str × V)} {ds : List (Str × D)}, DenF K ι H vs ds → belowF n (ds.map fun p => (p.1, f p.2)) = true → DenF K (ι.take n) H vs (ds.map fun p => (p.1, f p.2))
  | _, _, .nil, _ => .nil
  | _, _, .cons h hs, b => by
    simp only [List.map_cons, belowF, Bool.and_eq_true] at b
    exact .cons (ih _ _ h b.1) (frz_f ih hs b.2)
theorem frz_k {n : Nat} {f : D → D} (ih : ∀ v d, Den K ι H v d → (f d).low n = true → Den K (ι.take n) H v (f d)) : ∀ {vs : List (List Key × V)} {ds : List (List Key × D)}, DenK K ι H vs ds → belowK n (ds.map fun p => (p.1, f p.2)) = true → DenK K (ι.take n) H vs (ds.map fun p => (p.1, f p.2))
  | _, _, .nil, _ => .nil
  | _, _, .cons h hs, b => by
    simp only [List.map_cons, belowK, Bool.and_eq_true] at b
    exact .cons (ih _ _ h b.1) (frz_k ih hs b.2)
theorem frz_i {n : Nat} {f : D → D} (ih : ∀ v d, Den K ι H v d → (f d).low n = true → Den K (ι.take n) H v (f d)) : ∀ {vs : List (Key × V)} {ds : List (Key × D)}, DenI K ι H vs ds → belowI n (ds.map fun p => (p.1, f p.2)) = true → DenI K (ι.take n) H vs (ds.map fun p => (p.1, f p.2))
  | _, _, .nil, _ => .nil
  | _, _, .cons h hs, b => by
    simp only [List.map_cons, belowI, Bool.and_eq_true] at b
    exact .cons (ih _ _ h b.1) (frz_i ih hs b.2)
theorem frz_den (r : Rel K ι H st) {n : Nat} : ∀ (k : Nat) (v : V) (d : D), Den K ι H v d → (frz st n k d).low n = true → Den K (ι.take n) H v (frz st n k d)
  | 0, v, d, e, b => e.cut b
  | k + 1, v, d, e, b => by
    have ih := frz_den r (n := n) k
    cases e with
    | non => exact .non
    | bl _ => exact .bl _
    | int _ => exact .int _
    | str _ => exact .str _
    | lst hn h hs =>
      simp only [frz, D.low] at b ⊢
      exact .lst (fun z => hn (List.mem_of_mem_take z)) h (frz_lst ih hs b)
    | tup h hs =>
      simp only [frz, D.low] at b ⊢
      exact .tup (h.cut n) (frz_lst ih hs b)
    | scr h hs =>
      simp only [frz] at b ⊢
      exact Den.cut (.scr h hs) b
    | ctp h hs =>
      simp only [frz] at b ⊢
      exact Den.cut (.ctp h hs) b
    | ins hn h hs =>
      simp only [frz, D.low] at b ⊢
      exact .ins (fun z => hn (List.mem_of_mem_take z)) h (frz_f ih hs b)
    | dct hn h hs =>
      simp only [frz, D.low] at b ⊢
      exact .dct (fun z => hn (List.mem_of_mem_take z)) h (frz_k ih hs b)
    | dik hn h hs =>
      simp only [frz, D.low] at b ⊢
      exact .dik (fun z => hn (List.mem_of_mem_take z)) h (frz_i ih hs b)
    | exc hn h hx h2 hd =>
      simp only [frz, D.low] at b ⊢
      exact .exc (fun z => hn (List.mem_of_mem_take z)) h (fun z => hx (List.mem_of_mem_take z)) h2 (ih _ _ hd b)
    | clo hn h hn1 h1 hn2 h2 hd =>
      simp only [frz, D.low] at b ⊢
      exact .clo (fun z => hn (List.mem_of_mem_take z)) h (fun z => hn1 (List.mem_of_mem_take z)) h1 (fun z => hn2 (List.mem_of_mem_take z)) h2 (ih _ _ hd b)
    | adr a => exact .adr a
    | @loc a m hm =>
      simp only [frz] at b ⊢
      by_cases hmn : m < n
      · rw [if_pos hmn] at b ⊢
        exact Den.cut (.loc hm) b
      · rw [if_neg hmn] at b ⊢
        have nin : a ∉ ι.take n := fun z => by
          obtain ⟨j, hj⟩ := List.getElem?_of_mem z
          have hj1 : j < n := by
            have := (List.getElem?_eq_some_iff.mp hj).1
            rw [List.length_take] at this
            omega
          rw [List.getElem?_take_of_lt hj1] at hj
          have := (List.getElem?_inj (List.getElem?_eq_some_iff.mp hj).1 r.nd).mp (hj.trans hm.symm)
          omega
        cases hst : st[m]? with
        | none =>
          rw [hst] at b
          simp only [D.low, decide_eq_true_eq] at b
          exact absurd b hmn
        | some ob =>
          rw [hst] at b
          have q := r.obs m a ob hm hst
          cases ob with
          | lst ds =>
            obtain ⟨xs, h1, h2⟩ := q
            simp only [D.low] at b ⊢
            exact .lst nin h1 (frz_lst ih h2 b)
          | dct ds =>
            obtain ⟨xs, h1, h2⟩ := q
            simp only [D.low] at b ⊢
            exact .dct nin h1 (frz_k ih h2 b)
          | dik ds =>
            obtain ⟨xs, h1, h2⟩ := q
            simp only [D.low] at b ⊢
            exact .dik nin h1 (frz_i ih h2 b)
          | ins C ds =>
            obtain ⟨dx, xs, h1, h2⟩ := q
            simp only [D.low] at b ⊢
            exact .ins nin h1 (frz_f ih h2 b)
          | tab p q =>
            simp only [D.low, decide_eq_true_eq] at b
            exact absurd b hmn
/-- an end: objects from n on are dropped, where nothing else names them -/
def pick (n : Nat) (d : D) (st : S) : D := if d.low n then d else frz st n 6 d
def clear (n : Nat) (d : D) (st : S) : Prop := n < st.length ∧ (pick n d st).low n = true ∧ (st.take n).all (·.low n) = true
instance {n : Nat} {d : D} {st : S} : Decidable (clear n d st) := by unfold clear; infer_instance
def fin (n : Nat) (d : D) (st : S) : R D := if clear n d st then .ok (pick n d st) (st.take n) else .ok d st
def finX (n : Nat) (c : Addr) (f : Str) (d : D) (st : S) : R D := if clear n d st then .ex c f (pick n d st) (st.take n) else .ex c f d st
theorem pick_den (r : Rel K ι H st) {n : Nat} {v : V} {d : D} (e : Den K ι H v d) (h : (pick n d st).low n = true) : Den K (ι.take n) H v (pick n d st) := by
  unfold pick at h ⊢
  split
  · rename_i hb
    exact e.cut hb
  · rename_i hb
    rw [if_neg hb] at h
    exact frz_den r 6 v d e h
theorem ObR.cut {n : Nat} {a : Addr} {ob : Ob} (h : ObR K ι H a ob) (b : ob.low n = true) : ObR K (ι.take n) H a ob := by
  cases ob with
  | lst ds => obtain ⟨xs, h1, h2⟩ := h; exact ⟨xs, h1, h2.cut' b⟩
  | dct ds => obtain ⟨xs, h1, h2⟩ := h; exact ⟨xs, h1, h2.cut b⟩
  | dik ds => obtain ⟨xs, h1, h2⟩ := h; exact ⟨xs, h1, h2.cut b⟩
  | ins C ds => obtain ⟨dx, xs, h1, h2⟩ := h; exact ⟨dx, xs, h1, h2.cut b⟩
  | tab p q =>
    obtain ⟨ea, ps, h1, t, d⟩ := h
    refine ⟨ea, ps, h1, t, fun pos cv hc => ?_⟩
    obtain ⟨c, e1, e2, e3⟩ := d pos cv hc
    exact ⟨c, e1, fun z => e2 (List.mem_of_mem_take z), e3⟩
theorem Rel.cut (r : Rel K ι H st) {n : Nat} (h : (st.take n).all (·.low n) = true) : Rel K (ι.take n) H (st.take n) := by
  refine ⟨by rw [List.length_take, List.length_take, r.len], r.nd.sublist (List.take_sublist _ _), fun m a ob h1 h2 => ?_⟩
  have hm : m < n := by
    have := (List.getElem?_eq_some_iff.mp h1).1
    rw [List.length_take] at this
    omega
  have hb : ob.low n = true := (List.all_eq_true.mp h) ob (List.mem_of_getElem? h2)
  rw [List.getElem?_take_of_lt hm] at h1 h2
  exact (r.obs m a ob h1 h2).cut hb
theorem Stp.cut {ι0 : List Addr} {H0 : Hp} (s : Stp ι0 H0 ι H) : Stp ι0 H0 (ι.take ι0.length) H := by
  obtain ⟨t, e⟩ := id s.pre
  have : ι.take ι0.length = ι0 := by rw [← e, List.take_left']; rfl
  rw [this]
  exact ⟨List.prefix_refl _, fun a o n t h => ⟨n, (s.keep a o n t h).2⟩⟩
theorem post_fin {K : PySem.W.Frag} {W : L2.WX} {σ : L2.St} {ι0 ι1 : List Addr} {H0 H1 : Hp} {d : D} {st1 : S} {v : V} {Q : VK} (s : Stp ι0 H0 ι1 H1) (r : Rel K ι1 H1 st1) (e : Den K ι1 H1 v d) (h : Post K W (Den K) σ ι0 H0 (fin ι0.length d st1) Q) : Q v H1 := by
  unfold fin at h
  split at h
  · rename_i hc
    exact h _ H1 v s.cut (r.cut hc.2.2) (pick_den r e hc.2.1)
  · exact h ι1 H1 v s r e
theorem post_finX {K : PySem.W.Frag} {W : L2.WX} {σ : L2.St} {ι0 ι1 : List Addr} {H0 H1 : Hp} {c : Addr} {f : Str} {d : D} {st1 : S} {dd : Addr} {v : V} {Q : VK} (s : Stp ι0 H0 ι1 H1) (r : Rel K ι1 H1 st1) (hd : dd ∉ ι1) (hx : H1 dd = some (.xd [(f, v)])) (e : Den K ι1 H1 v d)
    (h : Post K W (Den K) σ ι0 H0 (finX ι0.length c f d st1) Q) : W (.ref c) (some dd) σ H1 := by
  unfold finX at h
  split at h
  · rename_i hc
    exact h _ H1 dd v s.cut (r.cut hc.2.2) (fun z => hd (List.mem_of_mem_take z)) hx (pick_den r e hc.2.1)
  · exact h ι1 H1 dd v s r hd hx e
end
/-! ### defs -/
def fnD (nl : Nat) (body : Env → S → R F) (ds : List D) (st : S) : R D := match body (ds.map some ++ List.replicate (nl - ds.length) none) st with
  | .ok (.rt d) st' => fin st.length d st'
  | .ok (.nx _) st' => fin st.length .non st'
  | .ok _ _ => .stuck
  | .ex c f p st' => finX st.length c f p st'
  | .stuck => .stuck
/-- the promise of a function -/
def spD (K : PySem.W.Frag) (np : Nat) (g : List D → S → R D) : Sp := fun vs H Q E => vs.length = np ∧ ∃ ι ds st, DenL K ι H vs ds ∧ Rel K ι H st ∧ Post K (fun c d _ H' => E c d H') (Den K) [] ι H (g ds st) Q
theorem EnvR.start {K : PySem.W.Frag} {ι : List Addr} {H : Hp} {N : List Str} {vs : List V} {ds : List D} (h : DenL K ι H vs ds) : EnvR K ι H (L2.start N vs) (ds.map some ++ List.replicate (N.length - ds.length) none) := by
  unfold L2.start
  refine ⟨by simp [h.length], fun i d hi => ?_⟩
  by_cases hl : i < ds.length
  · rw [List.getElem?_append_left (by simpa using hl), List.getElem?_map] at hi
    obtain ⟨d', h1, h2⟩ := Option.map_eq_some_iff.mp hi
    cases h2
    obtain ⟨v, h3, h4⟩ := h.get h1
    refine ⟨v, ?_, h4⟩
    rw [List.getElem?_append_left (by rw [List.length_map, h.length]; exact hl), List.getElem?_map, h3]
    rfl
  · rw [List.getElem?_append_right (by simpa using hl)] at hi
    rw [List.getElem?_replicate] at hi
    split at hi <;> cases hi
/-- the body's reading from the function's end -/
theorem body_reads {K : PySem.W.Frag} {N : List Str} {np : Nat} {m : Env → S → R F} {vs : List V} {H : Hp} {Q : VK} {E : XK} (h : spD K np (fnD N.length m) vs H Q E) : tMS K (fun c d _ H' => E c d H') m { nx := fun _ H' => Q .non H', rt := Q } (L2.start N vs) H := by
  obtain ⟨_, ι, ds, st, e, r, p⟩ := h
  refine ⟨ι, _, st, EnvR.start e, r, ?_⟩
  have el : st.length = ι.length := r.len.symm
  unfold fnD at p
  revert p
  cases m (ds.map some ++ List.replicate (N.length - ds.length) none) st with
  | ok f st' =>
    cases f with
    | nx env => exact fun p ι' H' σ' s r' e' => by dsimp only at p; rw [el] at p; exact post_fin s r' .non p
    | rt d => exact fun p ι' H' v s r' e' => by dsimp only at p; rw [el] at p; exact post_fin s r' e' p
    | bk env => exact fun p => p.elim
    | ct env => exact fun p => p.elim
  | ex c f p st' => exact fun p ι' H' dd v σ' s r' hd hx e' => by dsimp only at p; rw [el] at p; exact post_finX (Q := Q) s r' hd hx e' p
  | stuck => exact fun p => p
end MF
end
section
set_option Elab.async false
set_option linter.all false
set_option maxRecDepth 100000
set_option maxHeartbeats 4000000
/-! MF7: defs that keep their function, calls, repr. -/
namespace MF
open PySem PySem.Spec PyProof.Rows L2
structure FnG (P : Program) (w : World) (K : PySem.W.Frag) (mg : Str → Option Value) (base : Heap) (k : Nat) (f : Addr) (fd : FuncData) (ps : List Str) (g : List D → S → R D) : Prop where
  go : ∀ (A : Around) (outer : List PySem.Env) (s : Shared) (H : Hp) (args : Args) (us : List Value) (vs : List V) (Q : VK) (E : XK), Room k A → A.guards = some [] → Env0 P w K mg base A outer s H →
    BindsTo s fd args (ps.zip us) → Vals vs us → spD K ps.length g vs H Q E → codeAny (model P w) A (.call (.ref f) args) (CR (L2N.CX P w) outer P w H s Q E) s
theorem FnG.mono {P : Program} {w : World} {K : PySem.W.Frag} {mg : Str → Option Value} {base : Heap} {j k : Nat} {f : Addr} {fd : FuncData} {ps : List Str} {g : List D → S → R D} (F : FnG P w K mg base j f fd ps g) (h : j ≤ k) : FnG P w K mg base k f fd ps g :=
  ⟨fun A outer s H args us vs Q E hr => F.go A outer s H args us vs Q E (hr.mono h)⟩
theorem FnG.eq {P : Program} {w : World} {K : PySem.W.Frag} {mg : Str → Option Value} {base : Heap} {k : Nat} {f : Addr} {fd : FuncData} {ps : List Str} {g g' : List D → S → R D} (F : FnG P w K mg base k f fd ps g) (h : ∀ ds st, g' ds st ≠ .stuck → g ds st = g' ds st) : FnG P w K mg base k f fd ps g' :=
  ⟨fun A outer s H args us vs Q E hr hg e0 hb rv hsp => F.go A outer s H args us vs Q E hr hg e0 hb rv (by
    obtain ⟨hl, ι, ds, st, e, r, p⟩ := hsp
    refine ⟨hl, ι, ds, st, e, r, ?_⟩
    by_cases hs : g' ds st = .stuck
    · rw [hs] at p
      exact p.elim
    · rw [h ds st hs]
      exact p)⟩
/-- the rule of a def, by its body's function -/
theorem fnG_of {P : Program} {w : World} {K : PySem.W.Frag} {mg : Str → Option Value} {base : Heap} {k : Nat} {x qual : Str} {st0 : Stmt} {f : Addr} {fd : FuncData} {N ps : List Str} {m : Env → S → R F} (Fn : Fun K x qual st0 f fd) (Sc : FnScope N ps (defScope st0))
    (body : ∀ (cdv : Value) (A : Around) (outer : List PySem.Env) (s : Shared) (H : Hp) (E : XK), Room k (A.deeper (envOfC qual (defScope st0) s.heap.objs.size f cdv)) → (A.deeper (envOfC qual (defScope st0) s.heap.objs.size f cdv)).guards = some [] →
      PSs (cxOf (L2N.CX P w) P w K mg base N qual (defScope st0) f cdv A outer s H E) (defBody st0) (tMS K (fun c d _ H' => E c d H') m)) : FnG P w K mg base (k + 1) f fd ps (fnD N.length m) := by
  obtain ⟨oc, od, kV, doc, pm, an, cdv, ct, osl, rfl, lk, hcd⟩ := Fn.ex
  constructor
  intro A outer s H args us vs Q E room hgd e0 hbind rv hsp
  have nv : vs.length = ps.length := hsp.1
  have inK : K.In s.heap := e0.mod.kin.keeps fun b o hbo => (e0.bs b o hbo).1
  have nolim : s.heap.NoLimit := e0.mod.nolimit.keeps fun b o hbo => (e0.bs b o hbo).1
  have cells : ∀ y ∈ ps.zip us, (defScope st0).names.lookup y.1 = some .local ∨ ((defScope st0).names.lookup y.1 = some .cell ∧ ((cellsFrom (s.heap.objs.size + 1) (defScope st0).names []).lookup y.1).isSome = true) := by
    rintro ⟨n, v⟩ hy
    have hp := Sc.par n (List.of_mem_zip hy).1
    exact hp.elim .inl fun q => .inr ⟨q, PySem.W.cellsFrom_some _ _ _ (.inl q)⟩
  apply codeAny_call_function room.depth (inK _ _ lk) rfl Sc.co Sc.gen rfl (PySem.W.codeRec_of inK hcd)
  apply hbind
  apply wpAny_newFunctionEnv_cells Sc.kind cells
  intro env henv s1 hx
  subst henv
  refine ⟨nolim.keeps hx.toInCall.keep, codeAny_func ?_⟩
  have hI := inv_start (CX := L2N.CX P w) (P := P) (w := w) (mg := mg) (E := E) Sc room.hd e0 nv rv hx
  have run := (body cdv A outer s H E (room.deeper _) hgd).run [] s1 _ H _ hI (body_reads hsp)
  refine wpAny_mono run ?_ fun e s' hs => hs
  intro fl s' hs
  have ends : ∀ {σ' : L2.St} {H' : Hp} {v : V} {u : Value}, Inv (cxOf (L2N.CX P w) P w K mg base N qual (defScope st0) f cdv A outer s H E) [] σ' H' s' → RelV v u → Q v H' → CE outer P w H s Q u s' :=
    fun {_ _ v _} J r q => ⟨v, _, J.os, J.bare, J.base, J.hok, r, q⟩
  cases fl with
  | next =>
    obtain ⟨_, _, J, q⟩ := hs
    exact ends (v := V.non) (u := Value.none) J rfl q
  | ret u =>
    obtain ⟨_, _, _, J, r, q⟩ := hs
    exact ends J r q
  | brk => exact hs.elim fun _ z => z.elim fun _ z => z.2.elim
  | cont => exact hs.elim fun _ z => z.elim fun _ z => z.2.elim
section
variable {X : Cx} {W : L2.WX} {k : Nat} {f : Addr} {fd : FuncData} {ps : List Str} {g : List D → S → R D} {x : Str} {p pos : Pos} {e : Expr} {es : List Expr}
/-- a call by values -/
theorem run_G {pins : List (Addr × Obj)} {σ : L2.St} {H : Hp} {s : Shared} {Q : VK} {args : Args} {us : List Value} {vs : List V} (Fn : FnG X.prog X.w X.K X.mg X.base k f fd ps g) (hr : Room k X.A) (hgd : X.A.guards = some []) (tk : L2N.Takes X W) (I : Inv X pins σ H s)
    (hb : BindsTo s fd args (ps.zip us)) (rv : Vals vs us) (h : spD X.K ps.length g vs H Q (WE W σ)) : codeAny (model X.prog X.w) X.A (.call (.ref f) args) (fun r s' => match r with | .ok (.ret u) => EP X pins σ Q u s' | .ok _ => False | .error e => X.xe e s') s := by
  refine codeAny_mono (Fn.go X.A X.stack s H args us vs Q (WE W σ) hr hgd I.env0 hb rv h) ?_
  intro r s' hq
  cases r with
  | error e => exact L2N.passAt tk σ pins H s e s' I hq
  | ok fl =>
    cases fl with
    | ret u => exact I.after hq
    | next => exact False.elim hq
    | brk => exact False.elim hq
    | cont => exact False.elim hq
theorem Post.wish {α β : Type} {K : PySem.W.Frag} {W W' : L2.WX} {ρ : List Addr → Hp → β → α → Prop} {σ σ' : L2.St} {ι : List Addr} {H : Hp} {r : R α} {Q : β → Hp → Prop} (h : Post K W ρ σ ι H r Q) (i : ∀ c d H, W c d σ H → W' c d σ' H) : Post K W' ρ σ' ι H r Q := by
  cases r with
  | ok d st => exact h
  | ex c f p st => exact fun ι' H' dd v s r n q e => i _ _ _ (h ι' H' dd v s r n q e)
  | stuck => exact h
/-- f(e, ..) -/
def kCall (np : Nat) (g : List D → S → R D) (ds : List D) (st : S) : R D := if ds.length = np then g ds st else .stuck
theorem kCall_sp {K : PySem.W.Frag} {W : L2.WX} {σ : L2.St} {ι : List Addr} {H : Hp} {st : S} {vs : List V} {ds : List D} {np : Nat} {g : List D → S → R D} {Q : VK} (r : Rel K ι H st) (e : DenL K ι H vs ds) (h : Post K W (Den K) σ ι H (kCall np g ds st) Q) : spD K np g vs H Q (WE W σ) := by
  obtain ⟨hn, h⟩ := h.ite
  exact ⟨e.length.trans hn, ι, ds, st, e, r, h.wish fun c d H q => q⟩
theorem call_G {pins : List (Addr × Obj)} {σ : L2.St} {H : Hp} {s : Shared} {Q : VK} {us : List Value} {vs : List V} (Fn : FnG X.prog X.w X.K X.mg X.base k f fd ps g) (hr : Room k X.A) (hgd : X.A.guards = some []) (tk : L2N.Takes X W) (hb : Binds X.K fd ps []) (I : Inv X pins σ H s) (rv : Vals vs us)
    (q : spD X.K ps.length g vs H Q (WE W σ)) : wpAny (model X.prog X.w) X.A (call (.ref f) us) (EP X pins σ Q) X.xe s := by
  have hl : (us ++ []).length = ps.length := by
    rw [List.append_nil, ← rv.length]
    exact q.1
  have b := hb s us I.kIn hl
  rw [List.append_nil] at b
  refine wpAny_call (codeAny_mono (run_G Fn hr hgd tk I b rv q) ?_)
  intro r s' hq
  cases r with
  | error e => exact hq
  | ok fl =>
    cases fl with
    | ret u => exact hq
    | next => exact hq.elim
    | brk => exact hq.elim
    | cont => exact hq.elim
theorem me_call {ms : Env → S → R (List D)} (Fn : FnG X.prog X.w X.K X.mg X.base k f fd ps g) (hr : Room k X.A) (hgd : X.A.guards = some []) (tk : L2N.Takes X W) (hg : Gl X x) (hm : X.mg x = some (.ref f)) (hk : PySem.W.keepIn X.K (.ref f) = true) (hb : Binds X.K fd ps [])
    (ha : PA X (e :: es) (tMA X.K W ms)) (hdb : (x == ("__debug__" : Str)) = false := by decide) (he : starEach (e :: es) X.env = (false, eval e X.env) :: starEach es X.env := by rfl) (hpl : (backTo pos (starEach es X.env)).any (·.1) = false := by rfl) :
    PE X (.Call (.Name x p) (e :: es) [] pos) (tM X.K W (mCall (kCall ps.length g) ms)) := by
  constructor
  intro pins s σ H Q I ⟨ι, env, st, er, r, h⟩
  refine wpAny_Call_Name_kw (ld_glob I hg hm ?_ hdb)
  refine PySem.W.callWith_K (h₀ := X.base) I.ok.mod.kin hk (thn (ha.run pos pins s σ H (fun vs H1 => spD X.K ps.length g vs H1 Q (WE W σ)) I ?_) ?_) he hpl
  · exact seqA er r h fun ι1 H1 vs ds st1 er1 s1 r1 e1 h1 => kCall_sp r1 e1 h1
  · rintro us s1 ⟨vs, H1, I1, rv, q⟩
    exact ⟨I1.kIn, call_G Fn hr hgd tk hb I1 rv q⟩
end
end MF
end
section
set_option Elab.async false
set_option linter.all false
set_option maxRecDepth 100000
set_option maxHeartbeats 4000000
/-! MF8: isinstance of built-in classes, repr. -/
namespace MF
open PySem PySem.Spec PyProof.Rows L2
/-- the built-in class of a value -/
def cOf (st : S) : D → Option String
  | .non => some "NoneType"
  | .bl _ => some "bool"
  | .int _ => some "int"
  | .str _ => some "str"
  | .lst _ => some "list"
  | .scr _ => some "list"
  | .tup _ => some "tuple"
  | .ctp _ => some "tuple"
  | .dct _ => some "dict"
  | .loc n => match st[n]? with
    | some (.lst _) => some "list"
    | some (.dct _) => some "dict"
    | _ => none
  | .ins _ _ => none
  | .dik _ => some "dict"
  | .exc _ _ _ => none
  | .clo _ _ _ => none
  | .adr _ => none
theorem cOf_ty {K : PySem.W.Frag} {ι : List Addr} {H : Hp} {st : S} {v : V} {d : D} {c : String} (r : Rel K ι H st) (e : Den K ι H v d) (h : cOf st d = some c) : TyX K H v (.type c) := by
  cases e with
  | non => cases h; exact .base .non
  | bl b => cases h; exact .base (.bl b)
  | int i => cases h; exact .base (.int i)
  | str x => cases h; exact .base (.str x)
  | lst hn ha hs => cases h; exact .base (.lst ha)
  | dct hn ha hs => cases h; exact .base (.dT ha)
  | ctp hq hs =>
    cases h
    obtain ⟨o, its, n, h1, h2, _⟩ := hq
    exact .kTuple h1 h2
  | ins hn ha hs => cases h
  | dik hn ha hs => cases h; exact .base (.dK ha)
  | clo _ _ _ _ _ _ _ => cases h
  | exc hn ha hx h2 hd => cases h
  | adr a => cases h
  | scr hq hs =>
    cases h
    rcases hq with ⟨_, hq | ⟨o, hq⟩⟩ | ⟨o, its, n, h1, h2, _⟩
    · exact .base (.lst hq)
    · exact .base (.frz hq)
    · exact .kList h1 h2
  | tup hq hs =>
    cases h
    exact .base (.tup hq.2)
  | @loc a n hn =>
    unfold cOf at h
    dsimp only at h
    split at h
    · rename_i ds hst
      cases h
      obtain ⟨xs, h1, _⟩ := r.obs n a _ hn hst
      exact .base (.lst h1)
    · rename_i ds hst
      cases h
      obtain ⟨xs, h1, _⟩ := r.obs n a _ hn hst
      exact .base (.dT h1)
    · cases h
def isiB (c T : String) : Bool := c == T || (c == "bool" && T == "int")
def isCl (c : String) : Bool := c == "NoneType" || c == "bool" || c == "int" || c == "str" || c == "list" || c == "tuple" || c == "dict"
theorem isCl_cases {c : String} (h : isCl c = true) : c = "NoneType" ∨ c = "bool" ∨ c = "int" ∨ c = "str" ∨ c = "list" ∨ c = "tuple" ∨ c = "dict" := by
  simp only [isCl, Bool.or_eq_true, beq_iff_eq, or_assoc] at h
  exact h
theorem cOf_cl {st : S} {d : D} {c : String} (h : cOf st d = some c) : isCl c = true := by
  cases d with
  | loc n =>
    unfold cOf at h
    dsimp only at h
    split at h
    · cases h; rfl
    · cases h; rfl
    · cases h
  | ins C fs => cases h
  | exc C f d => cases h
  | clo n x d => cases h
  | adr a => cases h
  | _ => cases h; rfl
theorem kit_int {c : String} (h : isCl c = true) : kitB c "int" = some (isiB c "int") := by
  rcases isCl_cases h with e | e | e | e | e | e | e <;> subst e <;> decide +kernel
theorem kit_bool {c : String} (h : isCl c = true) : kitB c "bool" = some (isiB c "bool") := by
  rcases isCl_cases h with e | e | e | e | e | e | e <;> subst e <;> decide +kernel
theorem kit_list {c : String} (h : isCl c = true) : kitB c "list" = some (isiB c "list") := by
  rcases isCl_cases h with e | e | e | e | e | e | e <;> subst e <;> decide +kernel
theorem kit_tuple {c : String} (h : isCl c = true) : kitB c "tuple" = some (isiB c "tuple") := by
  rcases isCl_cases h with e | e | e | e | e | e | e <;> subst e <;> decide +kernel
theorem kit_str {c : String} (h : isCl c = true) : kitB c "str" = some (isiB c "str") := by
  rcases isCl_cases h with e | e | e | e | e | e | e <;> subst e <;> decide +kernel
def mIsi (f : String → Bool) (m : Env → S → R D) : Env → S → R D := fun env st => (m env st).bind fun d st1 => match cOf st1 d with
  | some c => .ok (.bl (f c)) st1
  | none => .stuck
section
variable {X : Cx} {W : L2.WX} {e : Expr} {p p2 pos : Pos}
theorem me_isi {x : Str} {T : String} {m : Env → S → R D} (kit : ∀ {c : String}, isCl c = true → kitB c T = some (isiB c T)) (hg : Gl X "isinstance") (hm : X.mg "isinstance" = none) (hg2 : Gl X x) (hm2 : X.mg x = none) (hv : bootBuiltins x = some (.type T)) (he : PE X e (tM X.K W m))
    (hn : x ≠ "__name__" := by decide) (hd : (x == ("__debug__" : Str)) = false := by decide)
    (hs : starEach [e, .Name x p2] X.env = (false, eval e X.env) :: starEach [.Name x p2] X.env := by rfl) (hs2 : starEach [.Name x p2] X.env = (false, eval (.Name x p2) X.env) :: starEach [] X.env := by rfl) :
    PE X (.Call (.Name "isinstance" p) [e, .Name x p2] [] pos) (tM X.K W (mIsi (fun c => isiB c T) m)) := by
  refine (pe_callB call_isi hg hm boot_isinstance (pa_cons he (pa_cons (pe_bltn hg2 hm2 hv (v := .ty T) rfl hn hd) pa_nil hs2) hs) (he := hs) (hpl := by rw [hs2]; rfl)).imp fun σ H Q ⟨ι, env, st, er, r, h⟩ => seqM er r h fun ι1 H1 v d st1 er1 s1 r1 e1 h1 => ?_
  split at h1
  · rename_i c hc
    exact ⟨v, .ty T, .type c, .type T, _, rfl, .ty T, cOf_ty r1 e1 hc, kit_ty (kit (cOf_cl hc)), h1.ok r1 (.bl _)⟩
  · exact h1.elim
theorem me_isi2 {x y : Str} {T U : String} {k : Nat} {p3 p4 : Pos} {m : Env → S → R D} (kitT : ∀ {c : String}, isCl c = true → kitB c T = some (isiB c T)) (kitU : ∀ {c : String}, isCl c = true → kitB c U = some (isiB c U)) (hg : Gl X "isinstance") (hm : X.mg "isinstance" = none)
    (hg2 : Gl X x) (hm2 : X.mg x = none) (hv : bootBuiltins x = some (.type T)) (hg3 : Gl X y) (hm3 : X.mg y = none) (hv3 : bootBuiltins y = some (.type U)) (he : PE X e (tM X.K W m))
    (hn : x ≠ "__name__" := by decide) (hd : (x == ("__debug__" : Str)) = false := by decide) (hn3 : y ≠ "__name__" := by decide) (hd3 : (y == ("__debug__" : Str)) = false := by decide)
    (hs : starEach [e, .Tuple [.Name x p2, .Name y p3] k p4] X.env = (false, eval e X.env) :: starEach [.Tuple [.Name x p2, .Name y p3] k p4] X.env := by rfl) (hs2 : starEach [.Tuple [.Name x p2, .Name y p3] k p4] X.env = (false, eval (.Tuple [.Name x p2, .Name y p3] k p4) X.env) :: starEach [] X.env := by rfl)
    (hs3 : starEach [.Name x p2, .Name y p3] X.env = (false, eval (.Name x p2) X.env) :: starEach [.Name y p3] X.env := by rfl) (hs4 : starEach [.Name y p3] X.env = (false, eval (.Name y p3) X.env) :: starEach [] X.env := by rfl) :
    PE X (.Call (.Name "isinstance" p) [e, .Tuple [.Name x p2, .Name y p3] k p4] [] pos) (tM X.K W (mIsi (fun c => isiB c T || isiB c U) m)) := by
  refine (pe_callB call_isiT hg hm boot_isinstance (pa_cons he (pa_cons (pe_tup (pa_cons (pe_bltn hg2 hm2 hv (v := .ty T) rfl hn hd) (pa_cons (pe_bltn hg3 hm3 hv3 (v := .ty U) rfl hn3 hd3) pa_nil hs4) hs3)) pa_nil hs2) hs) (he := hs) (hpl := by rw [hs2]; rfl)).imp fun σ H Q ⟨ι, env, st, er, r, h⟩ => seqM er r h fun ι1 H1 v d st1 er1 s1 r1 e1 h1 => ?_
  split at h1
  · rename_i c hc
    refine ⟨by show 2 ≤ sizeLine; rw [sizeLine_eq]; decide, fun q hq => ?_⟩
    have s2 : Stp ι1 H1 ι1 (upd H1 q (.tup [V.ty T, V.ty U])) := new_stp hq
    refine ⟨v, q, [.ty T, .ty U], .type c, [.type T, .type U], _, rfl, upd_same, .cons (.ty T) (.cons (.ty U) .nil), cOf_ty (r1.new hq) (e1.stp s2) hc, ?_, h1 ι1 _ _ s2 (r1.new hq) (.bl _)⟩
    have k1 : PySem.W.kitOne X.K (.type c) (.type T) = some (isiB c T) := kit_ty (kitT (cOf_cl hc))
    have k2 : PySem.W.kitOne X.K (.type c) (.type U) = some (isiB c U) := kit_ty (kitU (cOf_cl hc))
    refine kitAny_cons k1 (fun hb => ?_) fun hb => by show (isiB c T || isiB c U) = true; rw [hb]; rfl
    show PySem.W.kitAny X.K (.type c) [.type U] = some (isiB c T || isiB c U)
    rw [hb, Bool.false_or]
    refine kitAny_cons k2 (fun hb2 => ?_) fun hb2 => hb2
    rw [hb2]
    exact kitAny_nil
  · exact h1.elim
/-- repr(x) of data -/
def rRepr (K : PySem.W.Frag) : List V → Hp → VK → Prop := fun vs H Q => ∃ v d, vs = [v] ∧ Dp K H v d ∧ d.showable = true ∧ d.hasDict = false ∧ d.depth ≤ 64 ∧ d.shown.length ≤ sizeLine ∧ Q (.str d.shown) H
theorem callr_repr (hg : X.A.guards = some []) (hu : X.A.units + 66 < cLine) : CallR X (.builtin "repr") (rRepr X.K) := by
  rintro pins s σ H vs us Q I rv ⟨v, d, rfl, dp, hs, hd, hz, hl, q⟩
  obtain ⟨u, rfl, ru⟩ := vals1 rv
  cases dp with
  | non =>
    cases ru
    exact PySem.P.repr_of_none ⟨.str _, H, I.tok _, ⟨_, rfl⟩, q⟩
  | bl b =>
    cases ru
    exact PySem.P.repr_of_bool ⟨.str _, H, I.tok _, ⟨_, rfl⟩, q⟩
  | int i =>
    obtain ⟨t, rfl⟩ := ru
    exact PySem.P.repr_of_int (by simpa [PyData.showable] using hs) ⟨.str _, H, I.tok _, ⟨_, rfl⟩, q⟩
  | str x =>
    obtain ⟨t, rfl⟩ := ru
    exact PySem.P.repr_of_str ⟨.str _, H, I.tok _, ⟨_, rfl⟩, q⟩ (by simpa [PyData.shown] using hl)
  | lst h1 h2 =>
    cases ru
    obtain ⟨as, rd⟩ := Dp.reads I _ _ _ (Dp.lst h1 h2) rfl
    exact repr_of_reads' rd hs (fun z => by rw [hd] at z; cases z) hg (by omega) (fun _ _ z => z) (fun h' t tk k => ⟨.str _, H, I.kept k, ⟨_, rfl⟩, q⟩) hl
  | tup h1 h2 =>
    cases ru
    obtain ⟨as, rd⟩ := Dp.reads I _ _ _ (Dp.tup h1 h2) rfl
    exact repr_of_reads' rd hs (fun z => by rw [hd] at z; cases z) hg (by omega) (fun _ _ z => z) (fun h' t tk k => ⟨.str _, H, I.kept k, ⟨_, rfl⟩, q⟩) hl
def gRepr (ds : List D) (st : S) : R D := match ds with
  | [d] => match d.data with
    | some x => if x.showable = true ∧ x.hasDict = false ∧ x.depth ≤ 64 ∧ x.shown.length ≤ sizeLine then .ok (.str x.shown) st else .stuck
    | none => .stuck
  | _ => .stuck
theorem cl_repr {K : PySem.W.Frag} : Cl K (rRepr K) gRepr := by
  intro W σ ι H st vs ds Q r e h
  unfold gRepr at h
  split at h
  · split at h
    · rename_i x hx
      obtain ⟨⟨h1, h2, h3, h4⟩, h⟩ := h.ite
      obtain ⟨v, e1, e2⟩ := denl1 e
      exact ⟨v, x, e1, e2.dp hx, h1, h2, h3, h4, h.ok r (.str _)⟩
    · exact h.elim
  · exact h.elim
end
end MF
end
section
set_option Elab.async false
set_option linter.all false
set_option maxRecDepth 100000
set_option maxHeartbeats 4000000
/-! MF9: comprehensions. -/
namespace MF
open PySem PySem.Spec PyProof.Rows L2
def wipeE (env : Env) : List Nat → Env
  | [] => env
  | v :: vs => (wipeE env vs).set v none
theorem wipeE_length (env : Env) : ∀ vs : List Nat, (wipeE env vs).length = env.length
  | [] => rfl
  | v :: vs => by unfold wipeE; rw [List.length_set, wipeE_length env vs]
theorem wipe_get (σ : L2.St) : ∀ (vs : List Nat) (j : Nat), (wipe σ vs)[j]? = if j ∈ vs then (if j < σ.length then some none else none) else σ[j]?
  | [], j => by simp [wipe]
  | v :: vs, j => by
    unfold wipe
    by_cases h : v = j
    · subst h
      rw [List.getElem?_set]
      simp [wipe_length]
    · rw [List.getElem?_set_ne h, wipe_get σ vs j]
      have : j ≠ v := fun z => h z.symm
      simp [this]
theorem wipeE_get (env : Env) : ∀ (vs : List Nat) (j : Nat), (wipeE env vs)[j]? = if j ∈ vs then (if j < env.length then some none else none) else env[j]?
  | [], j => by simp [wipeE]
  | v :: vs, j => by
    unfold wipeE
    by_cases h : v = j
    · subst h
      rw [List.getElem?_set]
      simp [wipeE_length]
    · rw [List.getElem?_set_ne h, wipeE_get env vs j]
      have : j ≠ v := fun z => h z.symm
      simp [this]
theorem EnvR.wipe {K : PySem.W.Frag} {ι : List Addr} {H : Hp} {σ : L2.St} {env : Env} (e : EnvR K ι H σ env) (vs : List Nat) : EnvR K ι H (L2.wipe σ vs) (wipeE env vs) := by
  refine ⟨by rw [wipe_length, wipeE_length, e.len], fun i d h => ?_⟩
  rw [wipeE_get] at h
  rw [wipe_get]
  split at h
  · split at h <;> cases h
  · rename_i hn
    rw [if_neg hn]
    exact e.get i d h
theorem wipe_back {σ σ2 : L2.St} {vs js : List Nat} (hs : ∀ j, j ∈ js → j ∈ vs) (hl : σ2.length = (wipe σ vs).length) (hj : ∀ j, j ∉ js → σ2[j]? = (wipe σ vs)[j]?) : wipe σ2 vs = wipe σ vs := by
  apply List.ext_getElem?
  intro j
  rw [wipe_get, wipe_get]
  rw [wipe_length] at hl
  by_cases h : j ∈ vs
  · rw [if_pos h, if_pos h, hl]
  · rw [if_neg h, if_neg h, hj j fun z => h (hs j z), wipe_get, if_neg h]
def W0 : L2.WX := fun _ _ _ _ => False
def cLoop (n0 : Nat) (env : Env) (f : D → Env → Option Env) (t : Env → S → R Bool) (e : Env → S → R D) : List D → S → R Unit
  | [], st => .ok () st
  | d :: ds, st => match f d env with
    | none => .stuck
    | some env1 => match t env1 st with
      | .ok false st1 => cLoop n0 env f t e ds st1
      | .ok true st1 => match e env1 st1 with
        | .ok y st2 => match st2[n0]? with
          | some (.lst acc) => if acc.length < sizeLine then cLoop n0 env f t e ds (st2.set n0 (.lst (acc ++ [y]))) else .stuck
          | _ => .stuck
        | _ => .stuck
      | _ => .stuck
def mComp (vs : List Nat) (it : Env → S → R (List D)) (f : D → Env → Option Env) (t : Env → S → R Bool) (e : Env → S → R D) : Env → S → R D := fun env st => (it env st).bind fun ds st1 => match cLoop st1.length (wipeE env vs) f t e ds (st1 ++ [.lst []]) with
  | .ok () st2 => fin st1.length (.loc st1.length) st2
  | _ => .stuck
def mCompM (vs : List Nat) (it : Env → S → R (List D)) (f : D → Env → Option Env) (t : Env → S → R Bool) (e : Env → S → R D) : Env → S → R D := fun env st => (it env st).bind fun ds st1 => match cLoop st1.length (wipeE env vs) f t e ds (st1 ++ [.lst []]) with
  | .ok () st2 => .ok (.loc st1.length) st2
  | _ => .stuck
def tTrue : Env → S → R Bool := fun _ st => .ok true st
section
variable {X : Cx} {W : L2.WX} {pos : Pos}
theorem PTs.imp {e : List Expr} {t t' : TT} (h : PTs X e t) (hi : ∀ σ H Q, t' σ H Q → t σ H Q) : PTs X e t' := ⟨fun pins s σ H Q I q => h.run pins s σ H Q I (hi σ H Q q)⟩
theorem mts_nil : PTs X [] (tMT X.K W tTrue) := MF.PTs.imp pts_nil fun σ H Q ⟨ι, env, st, er, r, h⟩ => h.ok r rfl
theorem mts_one {c : Expr} {t : Env → S → R Bool} (h : PT X c (tMT X.K W t)) : PTs X [c] (tMT X.K W t) := pts_one h
theorem cLoop_reads {K : PySem.W.Frag} {σ : L2.St} {ι1 : List Addr} {H1 : Hp} {st1 : S} {env : Env} {vs js : List Nat} {J : It} {ds : List D} {f : D → Env → Option Env} {t : Env → S → R Bool} {e : Env → S → R D} {Q : Addr → Hp → Prop} {st9 : S} (hjs : ∀ j, j ∈ js → j ∈ vs) (er : EnvR K ι1 H1 σ env) (r1 : Rel K ι1 H1 st1) (w : WalksD K ι1 H1 J ds)
    (hl : cLoop st1.length (wipeE env vs) f t e ds (st1 ++ [.lst []]) = .ok () st9) (q : ∀ ι H L, ι[st1.length]? = some L → Stp ι1 H1 ι H → Rel K ι H st9 → Q L H) : ∀ L, H1 L = none → ∃ W : Nat → Nat → Hp → Prop, (∃ m, W 0 m (upd H1 L (.lst []))) ∧ ∀ i m H, W i m H →
      (J.stop i H ∧ Q L H) ∨ (J.go i H ∧ ∃ Nx : Hp → Prop, (∀ H', Nx H' → ∃ m', m' < m ∧ W (i + 1) m' H') ∧ ∀ x H', J.yld i H x H' → tMG K js f x (wipe σ vs) H' fun σ2 H2 => wipe σ2 vs = wipe σ vs ∧ tMT K W0 t σ2 H2 fun b H3 =>
        if b = true then tM K W0 e σ2 H3 fun y H4 => ∃ acc, H4 L = some (.lst acc) ∧ acc.length < sizeLine ∧ Nx (upd H4 L (.lst (acc ++ [y]))) else Nx H3) := by
  intro L hL
  obtain ⟨G, Y, wk, hG, hY⟩ := w.ex
  have n0 : ι1.length = st1.length := r1.len
  have s0 : Stp ι1 H1 (ι1 ++ [L]) (upd H1 L (.lst [])) := newl_stp r1 hL
  have atL : (ι1 ++ [L])[st1.length]? = some L := by
    rw [← n0, List.getElem?_append_right (Nat.le_refl _), Nat.sub_self]
    rfl
  refine lc_it wk (fun i H => ∃ ι st, Stp (ι1 ++ [L]) (upd H1 L (.lst [])) ι H ∧ Rel K ι H st ∧ cLoop st1.length (wipeE env vs) f t e (ds.drop i) st = .ok () st9)
    ⟨ι1 ++ [L], st1 ++ [.lst []], .refl, r1.newl hL (ob := .lst []) ⟨[], upd_same, .nil⟩, by rw [List.drop_zero]; exact hl⟩ (fun i H _ ⟨ι, st, s, _⟩ => hG ι H (s0.trans s)) ?_ ?_
  · rintro i x H H' hi ⟨ι, st, s, r, hc⟩ y
    have s01 := s0.trans s
    obtain ⟨s2, r2, d, hd, ed⟩ := hY ι H i x H' st s01 r hi y
    have hdrop : ds.drop i = d :: ds.drop (i + 1) := by
      rw [List.drop_eq_getElem_cons hi]
      congr 1
      rw [List.getElem?_eq_getElem hi] at hd
      exact Option.some.inj hd
    rw [hdrop] at hc
    unfold cLoop at hc
    split at hc
    · cases hc
    · rename_i env1 he
      refine ⟨ι, wipeE env vs, d, env1, ((er.stp s01).stp s2).wipe vs, ed, he, fun σ2 er2 hlen hkeep => ⟨wipe_back hjs hlen hkeep, ι, env1, st, er2, r2, ?_⟩⟩
      split at hc
      · rename_i st3 ht
        rw [ht]
        intro ι3 H3 b s3 r3 eb
        subst eb
        rw [if_neg (by decide)]
        exact ⟨ι3, st3, (s.trans s2).trans s3, r3, hc⟩
      · rename_i st3 ht
        rw [ht]
        intro ι3 H3 b s3 r3 eb
        subst eb
        rw [if_pos rfl]
        refine ⟨ι3, env1, st3, er2.stp s3, r3, ?_⟩
        split at hc
        · rename_i y st4 hy
          rw [hy]
          intro ι4 H4 v s4 r4 ev
          have s5 := ((s.trans s2).trans s3).trans s4
          have atL4 : ι4[st1.length]? = some L := s5.get atL
          split at hc
          · rename_i acc hacc
            split at hc
            · rename_i hz
              obtain ⟨xs, h1, h2⟩ := r4.obs _ L _ atL4 hacc
              refine ⟨xs, h1, by rw [h2.length]; exact hz, ι4, _, s5.trans (chg_stp atL4), r4.chg atL4 (ob := .lst (acc ++ [y])) ⟨_, upd_same, (h2.append (.cons ev .nil)).stp (chg_stp atL4)⟩, hc⟩
            · cases hc
          · cases hc
        · cases hc
      · cases hc
  · rintro H ⟨ι, st, s, r, hc⟩
    rw [List.drop_length] at hc
    cases hc
    exact q ι H L (s.get atL) (s0.trans s) r
variable {elt tg iter : Expr} {ifs : List Expr} {scope : Scope} {own : List (Str × Nat)} {it : Env → S → R (List D)} {js : List Nat} {f : D → Env → Option Env} {t : Env → S → R Bool} {e : Env → S → R D}
theorem me_lc (hc : X.calm = true) (hN : X.N.Nodup) (hi : PI X tg iter (tMI X.K W it)) (ok : BlkOk X.N X.env.scope scope own) (hjs : ∀ j, j ∈ js → j ∈ own.map (·.2))
    (hg : ∀ (s : Shared) (H : Hp) (C : Addr) (cl : List (Str × Addr)) (fp : List Addr), PG (X.blk s H scope (compEnvC scope cl C X.env) fp) tg (tMG X.K js f)) (ht : ∀ (s : Shared) (H : Hp) (C : Addr) (cl : List (Str × Addr)) (fp : List Addr), PTs (X.blk s H scope (compEnvC scope cl C X.env) fp) ifs (tMT X.K W0 t))
    (he : ∀ (s : Shared) (H : Hp) (C : Addr) (cl : List (Str × Addr)) (fp : List Addr), PE (X.blk s H scope (compEnvC scope cl C X.env) fp) elt (tM X.K W0 e)) (hs : ∀ x, foldedSetIterable iter X.env x = pure x := by intro _; rfl) :
    PE X (.ListComp elt [⟨tg, iter, ifs, 0⟩] scope pos) (tM X.K W (mComp (own.map (·.2)) it f t e)) :=
  (pe_lc hc hN hi ok hg ht he hs).imp fun σ H Q ⟨ι, env, st, er, r, h⟩ => ⟨ι, env, st, er, r, (Post.bind (ρ := fun ι' H' (J : It) ds => WalksD X.K ι' H' J ds) h).mono fun J H1 ⟨ι1, ds, st1, s1, r1, w1, h1⟩ => by
    split at h1
    · rename_i st9 h9
      refine cLoop_reads (Q := fun L H => Q (.ref L) H) hjs (er.stp s1) r1 w1 h9 fun ι2 H2 L hL s2 r2 => ?_
      rw [← r1.len] at h1 hL
      exact post_fin s2 r2 (.loc hL) h1
    · exact h1.elim⟩
theorem me_lcM (hc : X.calm = true) (hN : X.N.Nodup) (hi : PI X tg iter (tMI X.K W it)) (ok : BlkOk X.N X.env.scope scope own) (hjs : ∀ j, j ∈ js → j ∈ own.map (·.2))
    (hg : ∀ (s : Shared) (H : Hp) (C : Addr) (cl : List (Str × Addr)) (fp : List Addr), PG (X.blk s H scope (compEnvC scope cl C X.env) fp) tg (tMG X.K js f)) (ht : ∀ (s : Shared) (H : Hp) (C : Addr) (cl : List (Str × Addr)) (fp : List Addr), PTs (X.blk s H scope (compEnvC scope cl C X.env) fp) ifs (tMT X.K W0 t))
    (he : ∀ (s : Shared) (H : Hp) (C : Addr) (cl : List (Str × Addr)) (fp : List Addr), PE (X.blk s H scope (compEnvC scope cl C X.env) fp) elt (tM X.K W0 e)) (hs : ∀ x, foldedSetIterable iter X.env x = pure x := by intro _; rfl) :
    PE X (.ListComp elt [⟨tg, iter, ifs, 0⟩] scope pos) (tM X.K W (mCompM (own.map (·.2)) it f t e)) :=
  (pe_lc hc hN hi ok hg ht he hs).imp fun σ H Q ⟨ι, env, st, er, r, h⟩ => ⟨ι, env, st, er, r, (Post.bind (ρ := fun ι' H' (J : It) ds => WalksD X.K ι' H' J ds) h).mono fun J H1 ⟨ι1, ds, st1, s1, r1, w1, h1⟩ => by
    split at h1
    · rename_i st9 h9
      refine cLoop_reads (Q := fun L H => Q (.ref L) H) hjs (er.stp s1) r1 w1 h9 fun ι2 H2 L hL s2 r2 => ?_
      exact h1 ι2 H2 _ s2 r2 (.loc hL)
    · exact h1.elim⟩
/-- name = [..] -/
theorem ms_setLc {i : Nat} {y : Str} {py spos : Pos} (hc : X.calm = true) (hN : X.N.Nodup) (hy : X.N[i]? = some y) (hyl : X.env.scope.names.lookup y = some .local)
    (hsw : swapsWith (.ListComp elt [⟨tg, iter, ifs, 0⟩] scope pos) (some (.Name y py)) spos.line X.env = pure true) (hi : PI X tg iter (tMI X.K W it)) (ok : BlkOk X.N X.env.scope scope own) (hjs : ∀ j, j ∈ js → j ∈ own.map (·.2))
    (hg : ∀ (s : Shared) (H : Hp) (C : Addr) (cl : List (Str × Addr)) (fp : List Addr), PG (X.blk s H scope (compEnvC scope cl C X.env) fp) tg (tMG X.K js f)) (ht : ∀ (s : Shared) (H : Hp) (C : Addr) (cl : List (Str × Addr)) (fp : List Addr), PTs (X.blk s H scope (compEnvC scope cl C X.env) fp) ifs (tMT X.K W0 t))
    (he : ∀ (s : Shared) (H : Hp) (C : Addr) (cl : List (Str × Addr)) (fp : List Addr), PE (X.blk s H scope (compEnvC scope cl C X.env) fp) elt (tM X.K W0 e)) (hs : ∀ x, foldedSetIterable iter X.env x = pure x := by intro _; rfl) :
    PS X (.Assign [.Name y py] (.ListComp elt [⟨tg, iter, ifs, 0⟩] scope pos) spos) (tMS X.K W (sAsg (gN i) (mComp (own.map (·.2)) it f t e))) :=
  (ps_setLc hc hN hy hyl hsw hi ok hg ht he hs).imp fun Dd σ H ⟨ι, env, st, er, r, h⟩ => ⟨ι, env, st, er, r, by
    have as3 : ∀ {α β γ : Type} (x : R α) (f : α → S → R β) (k : β → S → R γ), (x.bind f).bind k = x.bind fun d st => (f d st).bind k := fun x f k => by cases x <;> rfl
    unfold sAsg mComp at h
    rw [as3] at h
    refine (seqS (ρ := fun ι' H' (J : It) ds => WalksD X.K ι' H' J ds) (σ := σ) h).mono fun J H1 ⟨ι1, ds, st1, s1, r1, w1, h1⟩ => ?_
    split at h1
    · rename_i st9 h9
      refine cLoop_reads (Q := fun L H => gName i (.ref L) σ H Dd.nx) hjs (er.stp s1) r1 w1 h9 fun ι2 H2 L hL s2 r2 => ?_
      rw [← r1.len] at h1 hL
      have er2 := (er.stp s1).stp s2
      unfold fin at h1
      split at h1
      · rename_i hcl
        have s3 : Stp ι1 H1 (ι2.take ι1.length) H2 := s2.cut
        exact h1 _ H2 _ s3 (r2.cut hcl.2.2) (((er.stp s1).stp s3).set i (pick_den r2 (.loc hL) hcl.2.1))
      · exact h1 ι2 H2 _ s2 r2 (er2.set i (.loc hL))
    · exact h1.elim⟩
end
end MF
end
section
set_option Elab.async false
set_option linter.all false
set_option maxRecDepth 100000
set_option maxHeartbeats 4000000
/-! MF10: zip of two and three, enumerate, over lists and tuples in any mix. -/
namespace MF
open PySem PySem.Spec PyProof.Rows L2
inductive Kd where
  | l | t
def SqK (K : PySem.W.Frag) (H : Hp) (k : Kd) (a : Addr) (xs : List V) : Prop := match k with
  | .l => SqL K H a xs
  | .t => SqT K H a xs
def IterK (h : Heap) (k : Kd) (i a : Addr) (n : Nat) : Prop := match k with
  | .l => h.IsListIter i a n
  | .t => h.IsTupleIter i a n
def HoldK (h : Heap) (k : Kd) (a : Addr) (items : Array Value) : Prop := match k with
  | .l => h.IsList a items
  | .t => h.IsTuple a items
def itObj (k : Kd) (a : Addr) : Obj := match k with
  | .l => { cls := .type "list_iterator", data := .fields #[.ref a, .int 0 0] }
  | .t => { cls := .type "tuple_iterator", data := .fields #[.ref a, .int 0 0] }
theorem begK (k : Kd) (a : Addr) (items : Array Value) : Begins (.ref a) (itObj k a) fun h => HoldK h k a items := by
  cases k with
  | l => exact begins_list a items
  | t => exact begins_tuple a items
theorem drawK {P : Program} {w : World} {A : Around} (hh : A.handled = none) (k : Kd) (i a : Addr) (hne : a ≠ i) (items : Array Value) : Draws P w A i [i, a] items.size (fun n v => items[n]? = some v) fun n h => IterK h k i a n ∧ HoldK h k a items := by
  cases k with
  | l => exact Draws.list hh i a hne items
  | t => exact Draws.tuple hh i a hne items
theorem IterK.obj {h : Heap} {k : Kd} {i a : Addr} {n : Nat} (x : IterK h k i a n) : ∃ o, h.get? i = some o ∧ ∀ v, o.data ≠ .cell v := by
  cases k with
  | l => obtain ⟨o, e, _, d⟩ := x; exact ⟨o, e, fun v z => by rw [d] at z; cases z⟩
  | t => obtain ⟨o, e, _, d⟩ := x; exact ⟨o, e, fun v z => by rw [d] at z; cases z⟩
theorem IterK.keep {h h' : Heap} {k : Kd} {i a : Addr} {n : Nat} (x : IterK h k i a n) (q : ∀ o, h.get? i = some o → h'.get? i = some o) : IterK h' k i a n := by
  cases k with
  | l => exact PySem.Heap.IsListIter.at x q
  | t => exact PySem.Heap.IsTupleIter.at x q
theorem IterK.new {h : Heap} {k : Kd} {i a : Addr} (e : h.get? i = some (itObj k a)) : IterK h k i a 0 := by
  cases k with
  | l => exact ⟨_, e, rfl, rfl⟩
  | t => exact ⟨_, e, rfl, rfl⟩
section
variable {X : Cx} {pins : List (Addr × Obj)} {σ : L2.St} {H : Hp} {s : Shared}
theorem seqK (I : Inv X pins σ H s) {k : Kd} {a : Addr} {xs : List V} (h : SqK X.K H k a xs) : ∃ its : List Value, Vals xs its ∧ HoldK s.heap k a its.toArray := by
  cases k with
  | l => obtain ⟨its, r, p, _⟩ := I.list h; exact ⟨its, r, p.isList⟩
  | t => obtain ⟨its, r, p, _⟩ := I.tuple h; exact ⟨its, r, p⟩
theorem injK (I : Inv X pins σ H s) {k : Kd} {a : Addr} {xs ys : List V} (h : SqK X.K H k a xs) (h' : SqK X.K H k a ys) : xs = ys := by
  cases k with
  | l => exact I.list_inj h h'
  | t => exact I.tuple_inj h h'
theorem HoldK.lt {h : Heap} {k : Kd} {a : Addr} {items : Array Value} (x : HoldK h k a items) : a < h.objs.size := by
  cases k with
  | l => obtain ⟨o, e, _⟩ := x; exact Heap.lt_size e
  | t => obtain ⟨o, e, _⟩ := x; exact Heap.lt_size e
end
/-- an iterator of new tuples, from the library's one -/
theorem turnN {P : Program} {w : World} {K : PySem.W.Frag} {tg : Expr} {J : It} {fpo : List Addr} {it : Addr} {tn : Nat → Heap → Prop} (mem : it ∈ fpo) (obj : ∀ i h, tn i h → ∀ b ∈ fpo, ∃ o, h.get? b = some o ∧ ∀ v, o.data ≠ .cell v)
    (keep : ∀ i h h', tn i h → (∀ b ∈ fpo, ∀ o, h.get? b = some o → h'.get? b = some o) → tn i h')
    (self : ∀ (A : Around) (i : Nat) (s : Shared) (Q : Value → Shared → Prop) (E : Value → Shared → Prop), tn i s.heap → Q (.ref it) s → wpAny (model P w) A (pyIter (.ref it)) Q E s)
    (go : ∀ (X : Cx), X.prog = P → X.w = w → X.K = K → X.A.handled = none → ∀ (i : Nat) (pins : List (Addr × Obj)) (s : Shared) (σ : L2.St) (H : Hp), Inv X pins σ H s → tn i s.heap → J.go i H →
      ∃ (fp wr : List Addr) (n : Nat) (Y : Nat → Heap → Value → Heap → Prop) (Sx : Nat → Heap → Prop), GoesN P w X.A tg it fp wr n Y Sx ∧ i < n ∧ Sx i s.heap ∧ (∀ b ∈ wr, b ∈ fpo) ∧
        ∀ v h', Y i s.heap v h' → Sx (i + 1) h' → tn (i + 1) h' ∧ ∃ (T : Addr) (xs : List V) (us : List Value), v = .ref T ∧ s.heap.objs.size ≤ T ∧ Vals xs us ∧ xs.length ≤ 8 ∧ h'.IsTuple T us.toArray ∧ J.yld i H (.ref T) (upd H T (.tup xs)))
    (stop : ∀ (X : Cx), X.prog = P → X.w = w → X.K = K → X.A.handled = none → ∀ (i : Nat) (pins : List (Addr × Obj)) (s : Shared) (σ : L2.St) (H : Hp), Inv X pins σ H s → tn i s.heap → J.stop i H →
      ∃ (fp wr : List Addr) (n : Nat) (Y : Nat → Heap → Value → Heap → Prop) (Sx : Nat → Heap → Prop), GoesN P w X.A tg it fp wr n Y Sx ∧ i = n ∧ Sx i s.heap ∧ ∀ b ∈ wr, b ∈ fpo) : Turn P w K tg J fpo it tn where
  mem := mem
  obj := obj
  keep := keep
  self := fun A i s Q E st h => self A i s Q E st h
  item := by
    intro X hP hw hK hc i pins s σ H E I hf st hg
    obtain ⟨fp, wr, n, Y, Sx, G, hi, hs, hwr, hy⟩ := go X hP hw hK (I.ok.hd hc) i pins s σ H I st hg
    refine G.goes i s (fun u s2 => ∃ x H', Inv X pins σ H' s2 ∧ RelV x u ∧ J.yld i H x H' ∧ tn (i + 1) s2.heap ∧ ∀ b ∈ fpo, H' b = none) E hi hs fun v h' tk hY hS hk _ => ?_
    obtain ⟨ht, T, xs, us, ev, hT, rv, hl, isT, yld⟩ := hy v h' hY hS
    subst hP hw
    have new : ObjOk X.prog X.w (upd H T (.tup xs)) h' T (.tup xs) := ⟨Nat.le_of_lt (small1000 (Nat.le_trans hl (by decide))), us, rv, isT⟩
    refine ⟨.ref T, _, I.turnedNew (t' := tk) (ch := fpo) (fun b o hb q => hk b o (fun z => hb (hwr b z)) q) hf hT new, ev, yld, ht, fun b hb => ?_⟩
    obtain ⟨o, ho, _⟩ := obj i s.heap st b hb
    have : b ≠ T := Nat.ne_of_lt (Nat.lt_of_lt_of_le (Heap.lt_size ho) hT)
    rw [upd_ne this]
    exact (hf b hb).1
  done := by
    intro X hP hw hK hc i pins s σ H E I hf st hg
    obtain ⟨fp, wr, n, Y, Sx, G, hi, hs, hwr⟩ := stop X hP hw hK (I.ok.hd hc) i pins s σ H I st hg
    subst hi
    exact G.stops s (fun s1 => Inv X pins σ H s1) E hs fun h' tk hk _ => I.turnedL (t' := tk) (ch := fpo) (fun b o hb q => hk b o (fun z => hb (hwr b z)) q) hf
/-! ### zip of two -/
def ItzK (K : PySem.W.Frag) (k1 k2 : Kd) (a b : Addr) : It :=
  ⟨fun i H => ∃ xs ys : List V, SqK K H k1 a xs ∧ SqK K H k2 b ys ∧ i < min xs.length ys.length,
    fun i H v H' => ∃ T x y, v = .ref T ∧ H T = none ∧ H' = upd H T (.tup [x, y]) ∧ (∀ xs, SqK K H k1 a xs → xs[i]? = some x) ∧ ∀ ys, SqK K H k2 b ys → ys[i]? = some y,
    fun i H => ∃ xs ys : List V, SqK K H k1 a xs ∧ SqK K H k2 b ys ∧ i = min xs.length ys.length⟩
theorem turn_zipK {P : Program} {w : World} {K : PySem.W.Frag} {elts : List Expr} {kk : Nat} {tpos : Pos} {k1 k2 : Kd} {a b z TI TO i1 i2 : Addr} (D : ZipSep2 z TI TO i1 i2 [i1, a] [i2, b]) (h1 : a ≠ i1) (h2 : b ≠ i2) :
    Turn P w K (.Tuple elts kk tpos) (ItzK K k1 k2 a b) [z, TI, TO, i1, i2] z (fun i h => IsZip h z TI TO .none ∧ IsTupOf2 h TI (.ref i1) (.ref i2) ∧ (∃ x y, IsTupOf2 h TO x y) ∧ IterK h k1 i1 a i ∧ IterK h k2 i2 b i) := by
  refine turnN (by simp) ?_ ?_ (fun A i s Q E st h => wpAny_pyIter_zip st.1 h) ?_ ?_
  · rintro i h ⟨hz, hTI, ⟨x, y, hTO⟩, q1, q2⟩ c hc
    rcases (by simpa using hc : c = z ∨ c = TI ∨ c = TO ∨ c = i1 ∨ c = i2) with q | q | q | q | q <;> subst q
    · exact ⟨_, hz, fun v q => nomatch q⟩
    · exact ⟨_, hTI, fun v q => nomatch q⟩
    · exact ⟨_, hTO, fun v q => nomatch q⟩
    · exact q1.obj
    · exact q2.obj
  · rintro i h h' ⟨hz, hTI, ⟨x, y, hTO⟩, q1, q2⟩ k
    exact ⟨k z (by simp) _ hz, k TI (by simp) _ hTI, ⟨x, y, k TO (by simp) _ hTO⟩, q1.keep fun o q => k i1 (by simp) o q, q2.keep fun o q => k i2 (by simp) o q⟩
  · rintro X hP hw hK hh i pins s σ H I ⟨hz, hTI, hTO, q1, q2⟩ ⟨xs, ys, s1, s2, hi⟩
    subst hK
    obtain ⟨us, r1, p1⟩ := seqK I s1
    obtain ⟨ws, r2, p2⟩ := seqK I s2
    have l1 := r1.length
    have l2 := r2.length
    refine ⟨_, _, _, _, _, GoesN.zip2 D (drawK (A := X.A.in1) hh k1 i1 a h1 us.toArray) (drawK (A := X.A.in1) hh k2 i2 b h2 ws.toArray), by simp only [List.size_toArray]; omega, ⟨hz, hTI, hTO, ⟨q1, p1⟩, ⟨q2, p2⟩⟩, fun c hc => by
      have : c = z ∨ c = TO ∨ c = i1 ∨ c = i2 := by simpa using hc
      simp only [List.mem_cons, List.not_mem_nil, or_false]
      rcases this with q | q | q | q <;> simp [q], ?_⟩
    rintro v h' ⟨T, u, u2, ev, hT, hu, hu2, isT⟩ ⟨hz', hTI', hTO', ⟨q1', _⟩, ⟨q2', _⟩⟩
    obtain ⟨x, hx⟩ : ∃ x, xs[i]? = some x := ⟨xs[i]'(by omega), List.getElem?_eq_getElem _⟩
    obtain ⟨y, hy⟩ : ∃ y, ys[i]? = some y := ⟨ys[i]'(by omega), List.getElem?_eq_getElem _⟩
    obtain ⟨u', e1, rx⟩ := r1.get hx
    obtain ⟨u2', e2, ry⟩ := r2.get hy
    have e1' : us[i]? = some u := by simpa using hu
    have e2' : ws[i]? = some u2 := by simpa using hu2
    rw [e1'] at e1; cases e1
    rw [e2'] at e2; cases e2
    exact ⟨⟨hz', hTI', hTO', q1', q2'⟩, T, [x, y], [u, u2], ev, hT, .cons rx (.cons ry .nil), (by show 2 ≤ 8; decide), isT, T, x, y, rfl, I.hok.fresh hT, rfl, fun zs hzs => by rw [injK I hzs s1]; exact hx, fun zs hzs => by rw [injK I hzs s2]; exact hy⟩
  · rintro X hP hw hK hh i pins s σ H I ⟨hz, hTI, hTO, q1, q2⟩ ⟨xs, ys, s1, s2, hi⟩
    subst hK
    obtain ⟨us, r1, p1⟩ := seqK I s1
    obtain ⟨ws, r2, p2⟩ := seqK I s2
    have l1 := r1.length
    have l2 := r2.length
    exact ⟨_, _, _, _, _, GoesN.zip2 D (drawK (A := X.A.in1) hh k1 i1 a h1 us.toArray) (drawK (A := X.A.in1) hh k2 i2 b h2 ws.toArray), by simp only [List.size_toArray]; omega, ⟨hz, hTI, hTO, ⟨q1, p1⟩, ⟨q2, p2⟩⟩, fun c hc => by
      have : c = z ∨ c = TO ∨ c = i1 ∨ c = i2 := by simpa using hc
      rcases this with q | q | q | q <;> simp [q]⟩
/-! ### zip of three -/
def ItyK (K : PySem.W.Frag) (k1 k2 k3 : Kd) (a b c : Addr) : It :=
  ⟨fun i H => ∃ xs ys zs : List V, SqK K H k1 a xs ∧ SqK K H k2 b ys ∧ SqK K H k3 c zs ∧ i < min (min xs.length ys.length) zs.length,
    fun i H v H' => ∃ T x y z, v = .ref T ∧ H T = none ∧ H' = upd H T (.tup [x, y, z]) ∧ (∀ xs, SqK K H k1 a xs → xs[i]? = some x) ∧ (∀ ys, SqK K H k2 b ys → ys[i]? = some y) ∧ ∀ zs, SqK K H k3 c zs → zs[i]? = some z,
    fun i H => ∃ xs ys zs : List V, SqK K H k1 a xs ∧ SqK K H k2 b ys ∧ SqK K H k3 c zs ∧ i = min (min xs.length ys.length) zs.length⟩
theorem turn_zip3K {P : Program} {w : World} {K : PySem.W.Frag} {elts : List Expr} {kk : Nat} {tpos : Pos} {k1 k2 k3 : Kd} {a b c z TI TO i1 i2 i3 : Addr} (D : ZipSep3 z TI TO i1 i2 i3 [i1, a] [i2, b] [i3, c]) (h1 : a ≠ i1) (h2 : b ≠ i2) (h3 : c ≠ i3) :
    Turn P w K (.Tuple elts kk tpos) (ItyK K k1 k2 k3 a b c) [z, TI, TO, i1, i2, i3] z (fun i h => IsZip h z TI TO .none ∧ IsTupOf3 h TI (.ref i1) (.ref i2) (.ref i3) ∧ (∃ x y u, IsTupOf3 h TO x y u) ∧ IterK h k1 i1 a i ∧ IterK h k2 i2 b i ∧ IterK h k3 i3 c i) := by
  refine turnN (by simp) ?_ ?_ (fun A i s Q E st h => wpAny_pyIter_zip st.1 h) ?_ ?_
  · rintro i h ⟨hz, hTI, ⟨x, y, u, hTO⟩, q1, q2, q3⟩ e he
    rcases (by simpa using he : e = z ∨ e = TI ∨ e = TO ∨ e = i1 ∨ e = i2 ∨ e = i3) with q | q | q | q | q | q <;> subst q
    · exact ⟨_, hz, fun v q => nomatch q⟩
    · exact ⟨_, hTI, fun v q => nomatch q⟩
    · exact ⟨_, hTO, fun v q => nomatch q⟩
    · exact q1.obj
    · exact q2.obj
    · exact q3.obj
  · rintro i h h' ⟨hz, hTI, ⟨x, y, u, hTO⟩, q1, q2, q3⟩ k
    exact ⟨k z (by simp) _ hz, k TI (by simp) _ hTI, ⟨x, y, u, k TO (by simp) _ hTO⟩, q1.keep fun o q => k i1 (by simp) o q, q2.keep fun o q => k i2 (by simp) o q, q3.keep fun o q => k i3 (by simp) o q⟩
  · rintro X hP hw hK hh i pins s σ H I ⟨hz, hTI, hTO, q1, q2, q3⟩ ⟨xs, ys, zs, s1, s2, s3, hi⟩
    subst hK
    obtain ⟨us, r1, p1⟩ := seqK I s1
    obtain ⟨ws, r2, p2⟩ := seqK I s2
    obtain ⟨vs, r3, p3⟩ := seqK I s3
    have l1 := r1.length
    have l2 := r2.length
    have l3 := r3.length
    refine ⟨_, _, _, _, _, GoesN.zip3 D (drawK (A := X.A.in1) hh k1 i1 a h1 us.toArray) (drawK (A := X.A.in1) hh k2 i2 b h2 ws.toArray) (drawK (A := X.A.in1) hh k3 i3 c h3 vs.toArray), by simp only [List.size_toArray]; omega, ⟨hz, hTI, hTO, ⟨q1, p1⟩, ⟨q2, p2⟩, ⟨q3, p3⟩⟩, fun e he => by
      have : e = z ∨ e = TO ∨ e = i1 ∨ e = i2 ∨ e = i3 := by simpa using he
      rcases this with q | q | q | q | q <;> simp [q], ?_⟩
    rintro v h' ⟨T, u, u2, u3, ev, hT, hu, hu2, hu3, isT⟩ ⟨hz', hTI', hTO', ⟨q1', _⟩, ⟨q2', _⟩, ⟨q3', _⟩⟩
    obtain ⟨x, hx⟩ : ∃ x, xs[i]? = some x := ⟨xs[i]'(by omega), List.getElem?_eq_getElem _⟩
    obtain ⟨y, hy⟩ : ∃ y, ys[i]? = some y := ⟨ys[i]'(by omega), List.getElem?_eq_getElem _⟩
    obtain ⟨z', hz3⟩ : ∃ z', zs[i]? = some z' := ⟨zs[i]'(by omega), List.getElem?_eq_getElem _⟩
    obtain ⟨u', e1, rx⟩ := r1.get hx
    obtain ⟨u2', e2, ry⟩ := r2.get hy
    obtain ⟨u3', e3, rz⟩ := r3.get hz3
    have e1' : us[i]? = some u := by simpa using hu
    have e2' : ws[i]? = some u2 := by simpa using hu2
    have e3' : vs[i]? = some u3 := by simpa using hu3
    rw [e1'] at e1; cases e1
    rw [e2'] at e2; cases e2
    rw [e3'] at e3; cases e3
    exact ⟨⟨hz', hTI', hTO', q1', q2', q3'⟩, T, [x, y, z'], [u, u2, u3], ev, hT, .cons rx (.cons ry (.cons rz .nil)), (by show 3 ≤ 8; decide), isT, T, x, y, z', rfl, I.hok.fresh hT, rfl, fun l hl => by rw [injK I hl s1]; exact hx, fun l hl => by rw [injK I hl s2]; exact hy, fun l hl => by rw [injK I hl s3]; exact hz3⟩
  · rintro X hP hw hK hh i pins s σ H I ⟨hz, hTI, hTO, q1, q2, q3⟩ ⟨xs, ys, zs, s1, s2, s3, hi⟩
    subst hK
    obtain ⟨us, r1, p1⟩ := seqK I s1
    obtain ⟨ws, r2, p2⟩ := seqK I s2
    obtain ⟨vs, r3, p3⟩ := seqK I s3
    have l1 := r1.length
    have l2 := r2.length
    have l3 := r3.length
    exact ⟨_, _, _, _, _, GoesN.zip3 D (drawK (A := X.A.in1) hh k1 i1 a h1 us.toArray) (drawK (A := X.A.in1) hh k2 i2 b h2 ws.toArray) (drawK (A := X.A.in1) hh k3 i3 c h3 vs.toArray), by simp only [List.size_toArray]; omega, ⟨hz, hTI, hTO, ⟨q1, p1⟩, ⟨q2, p2⟩, ⟨q3, p3⟩⟩, fun e he => by
      have : e = z ∨ e = TO ∨ e = i1 ∨ e = i2 ∨ e = i3 := by simpa using he
      rcases this with q | q | q | q | q <;> simp [q]⟩
/-! ### enumerate -/
def IteK (K : PySem.W.Frag) (k : Kd) (a : Addr) : It :=
  ⟨fun i H => ∃ xs : List V, SqK K H k a xs ∧ i < xs.length,
    fun i H v H' => ∃ T x, v = .ref T ∧ H T = none ∧ H' = upd H T (.tup [.int (i : Nat), x]) ∧ ∀ xs, SqK K H k a xs → xs[i]? = some x,
    fun i H => ∃ xs : List V, SqK K H k a xs ∧ i = xs.length⟩
theorem turn_enumK {P : Program} {w : World} {K : PySem.W.Frag} {elts : List Expr} {kk : Nat} {tpos : Pos} {k : Kd} {a e i1 : Addr} (h1 : a ≠ i1) (hei : e ≠ i1) (hea : e ≠ a) :
    Turn P w K (.Tuple elts kk tpos) (IteK K k a) [e, i1] e (fun i h => (∃ old, IsEnum h e i1 ((0 : Int) + (i : Nat)) old) ∧ IterK h k i1 a i) := by
  have hef : e ∉ [i1, a] := by simp [hei, hea]
  refine turnN (by simp) ?_ ?_ (fun A i s Q E st h => let ⟨⟨_, he⟩, _⟩ := st; wpAny_pyIter_enum he h) ?_ ?_
  · rintro i h ⟨⟨old, he⟩, q1⟩ c hc
    rcases (by simpa using hc : c = e ∨ c = i1) with q | q <;> subst q
    · exact ⟨_, he, fun v q => nomatch q⟩
    · exact q1.obj
  · rintro i h h' ⟨⟨old, he⟩, q1⟩ k
    exact ⟨⟨old, k e (by simp) _ he⟩, q1.keep fun o q => k i1 (by simp) o q⟩
  · rintro X hP hw hK hh i pins s σ H I ⟨he, q1⟩ ⟨xs, s1, hi⟩
    subst hK
    obtain ⟨us, r1, p1⟩ := seqK I s1
    have l1 := r1.length
    refine ⟨_, _, _, _, _, GoesN.enumFrom 0 (drawK (A := X.A.in1) hh k i1 a h1 us.toArray) e hei hef (by simp), by simp only [List.size_toArray]; omega, ⟨he, q1, p1⟩, fun c hc => hc, ?_⟩
    rintro v h' ⟨T, t, u, ev, hT, hu, isT⟩ ⟨he', q1', _⟩
    obtain ⟨x, hx⟩ : ∃ x, xs[i]? = some x := ⟨xs[i], List.getElem?_eq_getElem hi⟩
    obtain ⟨u', e1, rx⟩ := r1.get hx
    have e1' : us[i]? = some u := by simpa using hu
    rw [e1'] at e1; cases e1
    rw [Int.zero_add] at isT
    exact ⟨⟨he', q1'⟩, T, [.int (i : Nat), x], [.int (i : Nat) t, u], ev, hT, .cons ⟨t, rfl⟩ (.cons rx .nil), (by show 2 ≤ 8; decide), isT, T, x, rfl, I.hok.fresh hT, rfl, fun l hl => by rw [injK I hl s1]; exact hx⟩
  · rintro X hP hw hK hh i pins s σ H I ⟨he, q1⟩ ⟨xs, s1, hi⟩
    subst hK
    obtain ⟨us, r1, p1⟩ := seqK I s1
    have l1 := r1.length
    exact ⟨_, _, _, _, _, GoesN.enumFrom 0 (drawK (A := X.A.in1) hh k i1 a h1 us.toArray) e hei hef (by simp), by simp only [List.size_toArray]; omega, ⟨he, q1, p1⟩, fun c hc => hc⟩
end MF
end
section
set_option Elab.async false
set_option linter.all false
set_option maxRecDepth 100000
set_option maxHeartbeats 4000000
/-! MF11: what zip and enumerate walk. -/
namespace MF
open PySem PySem.Spec PyProof.Rows L2
set_option maxHeartbeats 8000000 in
theorem meets_enum1 {v : Value} {o : Obj} {H : Heap → Prop} (B : Begins v o H) :
    Meets (Builtin.«enumerate.__new__» ⟨[.type "enumerate", v], []⟩) (fun _ Z s => H s.heap ∧
      Z (.ok (.ret (.ref (s.heap.push o).objs.size))) { s with heap := (s.heap.push o).push { cls := .type "enumerate", data := .fields #[.none, .bool false, .ref s.heap.objs.size, rawInt 0, .none, .none] } }) :=
  .of_wp fun prog w A Z s h => by
    obtain ⟨hp, g, d, tk, os⟩ := s
    obtain ⟨hH, hZ⟩ := h
    have sub0 := sub_enumerate
    have itv : ∀ {A' : Around} {E : Value → Shared → Prop} {Q : Value → Shared → Prop}, Q (.ref hp.objs.size) ⟨hp.push o, g, d, tk, os⟩ → wpAny (model prog w) A' (pyIter v) Q E ⟨hp, g, d, tk, os⟩ :=
      fun q => B.iter prog w _ _ ⟨hp, g, d, tk, os⟩ _ hH q
    wp_walk using itv
    refine wpAny_stack_any fun st => wpAny_pure ?_
    split
    · rename_i c _ _ _ _ _
      cases (c == Value.type "enumerate")
      · wp_walk using itv
        exact ⟨_, rfl, hZ⟩
      · wp_walk using itv
        exact ⟨_, rfl, hZ⟩
    · wp_walk using itv
      exact ⟨_, rfl, hZ⟩
theorem call_enum1 {prog : Program} {w : World} {A : Around} {E : Value → Shared → Prop} {s : Shared} {v : Value} {o : Obj} {H : Heap → Prop} {Q : Value → Shared → Prop} (B : Begins v o H) (h1 : H s.heap)
    (h : ∀ h', IsEnum h' (s.heap.objs.size + 1) s.heap.objs.size 0 .none → h'.get? s.heap.objs.size = some o → (∀ b o, s.heap.get? b = some o → h'.get? b = some o) → Q (.ref (s.heap.objs.size + 1)) { s with heap := h' }) :
    wpAny (model prog w) A (call (.type "enumerate") [v]) Q E s := by
  refine callType_new F.called_enumerate (by decide) (F.typeCall_enumerate_1 _) (F.newCall_enumerate_1 _) (fun obj => F.args_object_init_2 obj _) F.entry_enumerate_new (meets_enum1 B) ⟨h1, ?_⟩
  have sz : (s.heap.push o).objs.size = s.heap.objs.size + 1 := Heap.size_push ..
  show _ ∧ _
  rw [sz]
  have en : IsEnum ((s.heap.push o).push { cls := .type "enumerate", data := .fields #[.none, .bool false, .ref s.heap.objs.size, rawInt 0, .none, .none] }) (s.heap.objs.size + 1) s.heap.objs.size 0 .none := by
    have q := Heap.get?_push_size (s.heap.push o) (o := { cls := .type "enumerate", data := .fields #[.none, .bool false, .ref s.heap.objs.size, rawInt 0, .none, .none] }) rfl
    rw [sz] at q
    exact q
  exact ⟨⟨_, en, rfl⟩, h _ en (Heap.get?_push_of_some _ (Heap.get?_push_size _ B.free)) fun b o x => Heap.get?_push_of_some _ (Heap.get?_push_of_some _ x)⟩
section
variable {X : Cx} {W : L2.WX} {e e2 e3 : Expr} {p pos tpos : Pos} {elts : List Expr} {kk : Nat}
def iEnumK (K : PySem.W.Frag) (ta : TA) : TI := fun σ H R => ta σ H fun vs H1 => ∃ k a xs, vs = [.ref a] ∧ SqK K H1 k a xs ∧ R (IteK K k a) H1
theorem pi_enumK {ta : TA} (hg : Gl X "enumerate") (hm : X.mg "enumerate" = none) (ha : PA X [e] ta) (hs : starEach [e] X.env = [(false, eval e X.env)] := by rfl) : PI X (.Tuple elts kk tpos) (.Call (.Name "enumerate" p) [e] [] pos) (iEnumK X.K ta) := by
  constructor
  intro pins s σ H Z I h
  refine Call_ (ld_blt I hg hm boot_enumerate (PyProof.Rows.callWith_type1 (thn (ha.run pos pins s σ H _ I h) ?_) hs rfl))
  rintro us s1 ⟨vs, H1, I1, rv, k, a, xs, rfl, sq, q⟩
  obtain ⟨u, rfl, ru⟩ := vals1 rv
  cases ru
  obtain ⟨its, r1, p1⟩ := seqK I1 sq
  have la := HoldK.lt p1
  refine call_enum1 (begK k a its.toArray) p1 fun h' he hit hk => wpAny_pyIter_enum he ?_
  refine ⟨s1.heap.objs.size + 1, [s1.heap.objs.size + 1, s1.heap.objs.size], _, _, H1, rfl, I1.kept (t' := s1.toks) hk, turn_enumK (Nat.ne_of_lt la) (Nat.succ_ne_self _) (Nat.ne_of_gt (Nat.lt_succ_of_lt la)), ⟨⟨_, he⟩, .new hit⟩, fun b hb => ?_, q⟩
  have hle : s1.heap.objs.size ≤ b := by
    rcases (by simpa using hb : b = s1.heap.objs.size + 1 ∨ b = s1.heap.objs.size) with z | z <;> rw [z]
    · exact Nat.le_succ _
    · exact Nat.le_refl _
  exact I1.fpOk hle (I1.hok.fresh hle)
def iZipK (K : PySem.W.Frag) (ta : TA) : TI := fun σ H R => ta σ H fun vs H1 => ∃ k1 k2 a b xs ys, vs = [.ref a, .ref b] ∧ SqK K H1 k1 a xs ∧ SqK K H1 k2 b ys ∧ R (ItzK K k1 k2 a b) H1
theorem pi_zipK {ta : TA} (hg : Gl X "zip") (hm : X.mg "zip" = none) (ha : PA X [e, e2] ta) (hs : starEach [e, e2] X.env = (false, eval e X.env) :: starEach [e2] X.env := by rfl) (hpl : (backTo pos (starEach [e2] X.env)).any (·.1) = false := by rfl) :
    PI X (.Tuple elts kk tpos) (.Call (.Name "zip" p) [e, e2] [] pos) (iZipK X.K ta) := by
  constructor
  intro pins s σ H Z I h
  refine Call_ (ld_blt I hg hm PyProof.Rows.boot_zip (PyProof.Rows.callWith_type1 (thn (ha.run pos pins s σ H _ I h) ?_) hs hpl))
  rintro us s1 ⟨vs, H1, I1, rv, k1, k2, a, b, xs, ys, rfl, sq1, sq2, q⟩
  obtain ⟨u, u2, rfl, ru, ru2⟩ := vals2 rv
  cases ru
  cases ru2
  obtain ⟨its, r1, p1⟩ := seqK I1 sq1
  obtain ⟨its2, r2, p2⟩ := seqK I1 sq2
  have la := HoldK.lt p1
  have lb := HoldK.lt p2
  refine zip_begins2 (begK k1 a its.toArray) (begK k2 b its2.toArray) p1 p2 fun h' hz hTI hTO hi1 hi2 _ hk => wpAny_pyIter_zip hz ?_
  refine ⟨_, [s1.heap.objs.size + 4, s1.heap.objs.size + 2, s1.heap.objs.size + 3, s1.heap.objs.size, s1.heap.objs.size + 1], _, _, H1, rfl, I1.kept (t' := s1.toks) hk,
    turn_zipK (zip_sep2 (fp1 := [a]) (fp2 := [b]) (by simpa using la) (by simpa using lb)) (Nat.ne_of_lt la) (Nat.ne_of_lt (Nat.lt_succ_of_lt lb)), ⟨hz, hTI, ⟨_, _, hTO⟩, .new hi1, .new hi2⟩, fun c hc => ?_, q⟩
  have hle : s1.heap.objs.size ≤ c := by
    rcases (by simpa using hc : c = s1.heap.objs.size + 4 ∨ c = s1.heap.objs.size + 2 ∨ c = s1.heap.objs.size + 3 ∨ c = s1.heap.objs.size ∨ c = s1.heap.objs.size + 1) with z | z | z | z | z <;> rw [z] <;> first | exact Nat.le_refl _ | exact Nat.le_add_right _ _
  exact I1.fpOk hle (I1.hok.fresh hle)
theorem vals3 {x y z : V} {us : List Value} (r : Vals [x, y, z] us) : ∃ a b c, us = [a, b, c] ∧ RelV x a ∧ RelV y b ∧ RelV z c := by
  cases r with
  | cons r1 r2 =>
    obtain ⟨b, c, e, rb, rc⟩ := vals2 r2
    exact ⟨_, b, c, by rw [e], r1, rb, rc⟩
def iZip3K (K : PySem.W.Frag) (ta : TA) : TI := fun σ H R => ta σ H fun vs H1 => ∃ k1 k2 k3 a b c xs ys zs, vs = [.ref a, .ref b, .ref c] ∧ SqK K H1 k1 a xs ∧ SqK K H1 k2 b ys ∧ SqK K H1 k3 c zs ∧ R (ItyK K k1 k2 k3 a b c) H1
theorem pi_zip3K {ta : TA} (hg : Gl X "zip") (hm : X.mg "zip" = none) (ha : PA X [e, e2, e3] ta) (hs : starEach [e, e2, e3] X.env = (false, eval e X.env) :: starEach [e2, e3] X.env := by rfl) (hpl : (backTo pos (starEach [e2, e3] X.env)).any (·.1) = false := by rfl) :
    PI X (.Tuple elts kk tpos) (.Call (.Name "zip" p) [e, e2, e3] [] pos) (iZip3K X.K ta) := by
  constructor
  intro pins s σ H Z I h
  refine Call_ (ld_blt I hg hm PyProof.Rows.boot_zip (PyProof.Rows.callWith_type1 (thn (ha.run pos pins s σ H _ I h) ?_) hs hpl))
  rintro us s1 ⟨vs, H1, I1, rv, k1, k2, k3, a, b, c, xs, ys, zs, rfl, sq1, sq2, sq3, q⟩
  obtain ⟨u, u2, u3, rfl, ru, ru2, ru3⟩ := vals3 rv
  cases ru
  cases ru2
  cases ru3
  obtain ⟨its, r1, p1⟩ := seqK I1 sq1
  obtain ⟨its2, r2, p2⟩ := seqK I1 sq2
  obtain ⟨its3, r3, p3⟩ := seqK I1 sq3
  have la := HoldK.lt p1
  have lb := HoldK.lt p2
  have lc := HoldK.lt p3
  refine zip_begins3 (begK k1 a its.toArray) (begK k2 b its2.toArray) (begK k3 c its3.toArray) p1 p2 p3 fun h' hz hTI hTO hi1 hi2 hi3 _ hk => wpAny_pyIter_zip hz ?_
  refine ⟨_, [s1.heap.objs.size + 5, s1.heap.objs.size + 3, s1.heap.objs.size + 4, s1.heap.objs.size, s1.heap.objs.size + 1, s1.heap.objs.size + 2], _, _, H1, rfl, I1.kept (t' := s1.toks) hk,
    turn_zip3K (zip_sep3 (fp1 := [a]) (fp2 := [b]) (fp3 := [c]) (by simpa using la) (by simpa using lb) (by simpa using lc)) (Nat.ne_of_lt la) (Nat.ne_of_lt (Nat.lt_succ_of_lt lb)) (Nat.ne_of_lt (Nat.lt_succ_of_lt (Nat.lt_succ_of_lt lc))), ⟨hz, hTI, ⟨_, _, _, hTO⟩, .new hi1, .new hi2, .new hi3⟩, fun d hd => ?_, q⟩
  have hle : s1.heap.objs.size ≤ d := by
    rcases (by simpa using hd : d = s1.heap.objs.size + 5 ∨ d = s1.heap.objs.size + 3 ∨ d = s1.heap.objs.size + 4 ∨ d = s1.heap.objs.size ∨ d = s1.heap.objs.size + 1 ∨ d = s1.heap.objs.size + 2) with z | z | z | z | z | z <;> rw [z] <;> first | exact Nat.le_refl _ | exact Nat.le_add_right _ _
  exact I1.fpOk hle (I1.hok.fresh hle)
/-- a sequence by its kind -/
def asQ : D → Option (List D)
  | .lst xs => some xs
  | .scr xs => some xs
  | .tup xs => some xs
  | .ctp xs => some xs
  | _ => none
theorem asQ_den {K : PySem.W.Frag} {ι : List Addr} {H : Hp} {v : V} {d : D} {ds : List D} (e : Den K ι H v d) (h : asQ d = some ds) : ∃ k a xs, v = .ref a ∧ (∀ ι' H', Stp ι H ι' H' → SqK K H' k a xs) ∧ DenL K ι H xs ds := by
  cases e with
  | lst hn ha hs => cases h; exact ⟨.l, _, _, rfl, fun ι' H' s => SqL.of (s.keep _ _ hn (by intro _ z; cases z) ha).2, hs⟩
  | scr hq hs => cases h; exact ⟨.l, _, _, rfl, fun ι' H' s => (s.fzl hq).sq, hs⟩
  | tup hq hs => cases h; exact ⟨.t, _, _, rfl, fun ι' H' s => (s.fzt hq).sq, hs⟩
  | ctp hq hs => cases h; exact ⟨.t, _, _, rfl, fun ι' H' s => .inr hq, hs⟩
  | _ => cases h
def enumL (n : Nat) : List D → List D
  | [] => []
  | d :: ds => .tup [.int (n : Int), d] :: enumL (n + 1) ds
theorem enumL_length : ∀ (ds : List D) (n : Nat), (enumL n ds).length = ds.length
  | [], _ => rfl
  | d :: ds, n => by rw [enumL, List.length_cons, List.length_cons, enumL_length ds]
theorem enumL_get : ∀ (ds : List D) (n i : Nat) (d : D), ds[i]? = some d → (enumL n ds)[i]? = some (.tup [.int ((n + i : Nat) : Int), d])
  | [], _, _, _, h => by simp at h
  | x :: ds, n, 0, d, h => by
    simp at h
    subst h
    rfl
  | x :: ds, n, i + 1, d, h => by
    have := enumL_get ds (n + 1) i d (by simpa using h)
    rw [enumL, List.getElem?_cons_succ, this]
    congr 4
    omega
def itEnum (ms : Env → S → R (List D)) : Env → S → R (List D) := fun env st => (ms env st).bind fun ds st1 => match ds with
  | [d] => match asQ d with
    | some xs => .ok (enumL 0 xs) st1
    | none => .stuck
  | _ => .stuck
theorem mi_enum {ms : Env → S → R (List D)} (hg : Gl X "enumerate") (hm : X.mg "enumerate" = none) (ha : PA X [e] (tMA X.K W ms)) (hs : starEach [e] X.env = [(false, eval e X.env)] := by rfl) : PI X (.Tuple elts kk tpos) (.Call (.Name "enumerate" p) [e] [] pos) (tMI X.K W (itEnum ms)) :=
  MF.PI.imp (pi_enumK hg hm ha hs) fun σ H Q ⟨ι, env, st, er, r, h⟩ => seqA er r h fun ι1 H1 vs ds st1 er1 s1 r1 e1 h1 => by
    split at h1
    · split at h1
      · rename_i xs hxs
        obtain ⟨v, q1, q2⟩ := denl1 e1
        obtain ⟨k, a, us, q3, q4, q5⟩ := asQ_den q2 hxs
        subst q1 q3
        refine ⟨k, a, us, rfl, q4 _ _ .refl, h1.ok r1 ⟨fun H' => SqK X.K H' k a us, fun i H2 x H3 => ∃ T y, x = .ref T ∧ H2 T = none ∧ H3 = upd H2 T (.tup [.int (i : Nat), y]) ∧ us[i]? = some y, ?_, q4, ?_⟩⟩
        · rw [enumL_length, ← q5.length]
          exact ⟨fun i H hi q => ⟨us, q, hi⟩, fun H q => ⟨us, q, rfl⟩, fun i H x H' hi q ⟨T, y, y1, y2, y3, y4⟩ => ⟨T, y, y1, y2, y3, y4 us q⟩⟩
        · rintro ι2 H2 i x H3 st2 s2 r2 hi ⟨T, y, rfl, hT, rfl, hy⟩
          obtain ⟨d, hd, ed⟩ := (q5.stp s2).getV hy
          refine ⟨new_stp hT, r2.new hT, _, enumL_get xs 0 i d hd, .tup ⟨r2.fresh hT, upd_same⟩ (.cons ?_ (.cons (ed.stp (new_stp hT)) .nil))⟩
          rw [Nat.zero_add]
          exact .int _
      · exact h1.elim
    · exact h1.elim
def zipL : List D → List D → List D
  | x :: xs, y :: ys => .tup [x, y] :: zipL xs ys
  | _, _ => []
theorem zipL_length : ∀ xs ys : List D, (zipL xs ys).length = min xs.length ys.length
  | [], ys => by simp [zipL]
  | x :: xs, [] => by simp [zipL]
  | x :: xs, y :: ys => by rw [zipL, List.length_cons, List.length_cons, List.length_cons, zipL_length xs ys]; omega
theorem zipL_get : ∀ (xs ys : List D) (i : Nat) (x y : D), xs[i]? = some x → ys[i]? = some y → (zipL xs ys)[i]? = some (.tup [x, y])
  | [], _, _, _, _, h, _ => by simp at h
  | _ :: _, [], _, _, _, _, h => by simp at h
  | a :: xs, b :: ys, 0, x, y, h, h' => by
    simp at h h'
    subst h h'
    rfl
  | a :: xs, b :: ys, i + 1, x, y, h, h' => by
    rw [zipL, List.getElem?_cons_succ]
    exact zipL_get xs ys i x y (by simpa using h) (by simpa using h')
def itZip (ms : Env → S → R (List D)) : Env → S → R (List D) := fun env st => (ms env st).bind fun ds st1 => match ds with
  | [d, e] => match asQ d, asQ e with
    | some xs, some ys => .ok (zipL xs ys) st1
    | _, _ => .stuck
  | _ => .stuck
theorem mi_zip {ms : Env → S → R (List D)} (hg : Gl X "zip") (hm : X.mg "zip" = none) (ha : PA X [e, e2] (tMA X.K W ms)) (hs : starEach [e, e2] X.env = (false, eval e X.env) :: starEach [e2] X.env := by rfl) (hpl : (backTo pos (starEach [e2] X.env)).any (·.1) = false := by rfl) :
    PI X (.Tuple elts kk tpos) (.Call (.Name "zip" p) [e, e2] [] pos) (tMI X.K W (itZip ms)) :=
  MF.PI.imp (pi_zipK hg hm ha hs hpl) fun σ H Q ⟨ι, env, st, er, r, h⟩ => seqA er r h fun ι1 H1 vs ds st1 er1 s1 r1 e1 h1 => by
    split at h1
    · split at h1
      · rename_i xs ys hxs hys
        obtain ⟨v, w, q1, q2, q2'⟩ := denl2 e1
        obtain ⟨k, a, us, q3, q4, q5⟩ := asQ_den q2 hxs
        obtain ⟨k', b, ws, q3', q4', q5'⟩ := asQ_den q2' hys
        subst q1 q3 q3'
        refine ⟨k, k', a, b, us, ws, rfl, q4 _ _ .refl, q4' _ _ .refl, h1.ok r1 ⟨fun H' => SqK X.K H' k a us ∧ SqK X.K H' k' b ws, fun i H2 x H3 => ∃ T y z, x = .ref T ∧ H2 T = none ∧ H3 = upd H2 T (.tup [y, z]) ∧ us[i]? = some y ∧ ws[i]? = some z, ?_, fun ι' H' s => ⟨q4 _ _ s, q4' _ _ s⟩, ?_⟩⟩
        · rw [zipL_length, ← q5.length, ← q5'.length]
          exact ⟨fun i H hi q => ⟨us, ws, q.1, q.2, hi⟩, fun H q => ⟨us, ws, q.1, q.2, rfl⟩, fun i H x H' hi q ⟨T, y, z, y1, y2, y3, y4, y5⟩ => ⟨T, y, z, y1, y2, y3, y4 us q.1, y5 ws q.2⟩⟩
        · rintro ι2 H2 i x H3 st2 s2 r2 hi ⟨T, y, z, rfl, hT, rfl, hy, hz⟩
          obtain ⟨d, hd, ed⟩ := (q5.stp s2).getV hy
          obtain ⟨d', hd', ed'⟩ := (q5'.stp s2).getV hz
          exact ⟨new_stp hT, r2.new hT, _, zipL_get xs ys i d d' hd hd', .tup ⟨r2.fresh hT, upd_same⟩ (.cons (ed.stp (new_stp hT)) (.cons (ed'.stp (new_stp hT)) .nil))⟩
      · exact h1.elim
    · exact h1.elim
def zip3L : List D → List D → List D → List D
  | x :: xs, y :: ys, z :: zs => .tup [x, y, z] :: zip3L xs ys zs
  | _, _, _ => []
theorem zip3L_length : ∀ xs ys zs : List D, (zip3L xs ys zs).length = min (min xs.length ys.length) zs.length
  | [], ys, zs => by simp [zip3L]
  | x :: xs, [], zs => by simp [zip3L]
  | x :: xs, y :: ys, [] => by simp [zip3L]
  | x :: xs, y :: ys, z :: zs => by rw [zip3L, List.length_cons, List.length_cons, List.length_cons, List.length_cons, zip3L_length xs ys zs]; omega
theorem zip3L_get : ∀ (xs ys zs : List D) (i : Nat) (x y z : D), xs[i]? = some x → ys[i]? = some y → zs[i]? = some z → (zip3L xs ys zs)[i]? = some (.tup [x, y, z])
  | [], _, _, _, _, _, _, h, _, _ => by simp at h
  | _ :: _, [], _, _, _, _, _, _, h, _ => by simp at h
  | _ :: _, _ :: _, [], _, _, _, _, _, _, h => by simp at h
  | a :: xs, b :: ys, c :: zs, 0, x, y, z, h, h', h'' => by
    simp at h h' h''
    subst h h' h''
    rfl
  | a :: xs, b :: ys, c :: zs, i + 1, x, y, z, h, h', h'' => by
    rw [zip3L, List.getElem?_cons_succ]
    exact zip3L_get xs ys zs i x y z (by simpa using h) (by simpa using h') (by simpa using h'')
theorem denl3 {K : PySem.W.Frag} {ι : List Addr} {H : Hp} {vs : List V} {d e f : D} (h : DenL K ι H vs [d, e, f]) : ∃ v w u, vs = [v, w, u] ∧ Den K ι H v d ∧ Den K ι H w e ∧ Den K ι H u f := by
  cases h with
  | cons h1 h2 =>
    obtain ⟨w, u, q, q1, q2⟩ := denl2 h2
    exact ⟨_, w, u, by rw [q], h1, q1, q2⟩
def itZip3 (ms : Env → S → R (List D)) : Env → S → R (List D) := fun env st => (ms env st).bind fun ds st1 => match ds with
  | [d, e, f] => match asQ d, asQ e, asQ f with
    | some xs, some ys, some zs => .ok (zip3L xs ys zs) st1
    | _, _, _ => .stuck
  | _ => .stuck
theorem mi_zip3 {ms : Env → S → R (List D)} (hg : Gl X "zip") (hm : X.mg "zip" = none) (ha : PA X [e, e2, e3] (tMA X.K W ms)) (hs : starEach [e, e2, e3] X.env = (false, eval e X.env) :: starEach [e2, e3] X.env := by rfl) (hpl : (backTo pos (starEach [e2, e3] X.env)).any (·.1) = false := by rfl) :
    PI X (.Tuple elts kk tpos) (.Call (.Name "zip" p) [e, e2, e3] [] pos) (tMI X.K W (itZip3 ms)) :=
  MF.PI.imp (pi_zip3K hg hm ha hs hpl) fun σ H Q ⟨ι, env, st, er, r, h⟩ => seqA er r h fun ι1 H1 vs ds st1 er1 s1 r1 e1 h1 => by
    split at h1
    · split at h1
      · rename_i xs ys zs hxs hys hzs
        obtain ⟨v, w, u, q1, q2, q2', q2''⟩ := denl3 e1
        obtain ⟨k, a, us, q3, q4, q5⟩ := asQ_den q2 hxs
        obtain ⟨k', b, ws, q3', q4', q5'⟩ := asQ_den q2' hys
        obtain ⟨k'', c, ts, q3'', q4'', q5''⟩ := asQ_den q2'' hzs
        subst q1 q3 q3' q3''
        refine ⟨k, k', k'', a, b, c, us, ws, ts, rfl, q4 _ _ .refl, q4' _ _ .refl, q4'' _ _ .refl, h1.ok r1 ⟨fun H' => SqK X.K H' k a us ∧ SqK X.K H' k' b ws ∧ SqK X.K H' k'' c ts, fun i H2 x H3 => ∃ T y z t, x = .ref T ∧ H2 T = none ∧ H3 = upd H2 T (.tup [y, z, t]) ∧ us[i]? = some y ∧ ws[i]? = some z ∧ ts[i]? = some t, ?_, fun ι' H' s => ⟨q4 _ _ s, q4' _ _ s, q4'' _ _ s⟩, ?_⟩⟩
        · rw [zip3L_length, ← q5.length, ← q5'.length, ← q5''.length]
          exact ⟨fun i H hi q => ⟨us, ws, ts, q.1, q.2.1, q.2.2, hi⟩, fun H q => ⟨us, ws, ts, q.1, q.2.1, q.2.2, rfl⟩, fun i H x H' hi q ⟨T, y, z, t, y1, y2, y3, y4, y5, y6⟩ => ⟨T, y, z, t, y1, y2, y3, y4 us q.1, y5 ws q.2.1, y6 ts q.2.2⟩⟩
        · rintro ι2 H2 i x H3 st2 s2 r2 hi ⟨T, y, z, t, rfl, hT, rfl, hy, hz, ht⟩
          obtain ⟨d, hd, ed⟩ := (q5.stp s2).getV hy
          obtain ⟨d', hd', ed'⟩ := (q5'.stp s2).getV hz
          obtain ⟨d'', hd'', ed''⟩ := (q5''.stp s2).getV ht
          exact ⟨new_stp hT, r2.new hT, _, zip3L_get xs ys zs i d d' d'' hd hd' hd'', .tup ⟨r2.fresh hT, upd_same⟩ (.cons (ed.stp (new_stp hT)) (.cons (ed'.stp (new_stp hT)) (.cons (ed''.stp (new_stp hT)) .nil)))⟩
      · exact h1.elim
    · exact h1.elim
end
end MF
end
section
set_option Elab.async false
set_option linter.all false
set_option maxRecDepth 100000
set_option maxHeartbeats 4000000
/-! MF12: constants of the module, minus, in, methods of lists. -/
namespace MF
open PySem PySem.Spec PyProof.Rows L2
section
variable {X : Cx} {W : L2.WX} {e a b : Expr} {es : List Expr} {pos : Pos}
theorem me_globI {x : Str} {i : Int} {t : Tok} (hg : Gl X x) (hm : X.mg x = some (.int i t)) (hd : (x == ("__debug__" : Str)) = false := by decide) : PE X (.Name x pos) (tM X.K W (mC (.int i))) :=
  (pe_glob hg hm (v := .int i) ⟨t, rfl⟩ hd).imp fun σ H Q ⟨ι, env, st, er, r, h⟩ => h.ok r (.int i)
def mNeg (m : Env → S → R D) : Env → S → R D := fun env st => (m env st).bind fun d st1 => match d with
  | .int i => .ok (.int (-i)) st1
  | _ => .stuck
theorem me_neg {m : Env → S → R D} (ha : PE X a (tM X.K W m)) : PE X (.UnaryOp .USub a pos) (tM X.K W (mNeg m)) :=
  (pe_un un_neg ha).imp fun σ H Q ⟨ι, env, st, er, r, h⟩ => seqM er r h fun ι1 H1 v d st1 er1 s1 r1 e1 h1 => by
    cases e1 with
    | int i => exact ⟨i, rfl, h1.ok r1 (.int _)⟩
    | _ => exact False.elim h1
end
/-! in, not in: flat things -/
def toV : D → Option V
  | .non => some .non
  | .bl b => some (.bl b)
  | .int i => some (.int i)
  | .str x => some (.str x)
  | _ => none
def toVs : List D → Option (List V)
  | [] => some []
  | d :: ds => match toV d, toVs ds with
    | some x, some xs => some (x :: xs)
    | _, _ => none
section
variable {K : PySem.W.Frag} {ι : List Addr} {H : Hp} {st : S}
theorem toV_den {v x : V} {d : D} (e : Den K ι H v d) (h : toV d = some x) : v = x ∧ flatV x = true := by
  cases e <;> cases h <;> exact ⟨rfl, rfl⟩
theorem toVs_den : ∀ {vs xs : List V} {ds : List D}, DenL K ι H vs ds → toVs ds = some xs → vs = xs ∧ xs.all flatV = true
  | _, _, _, .nil, h => by cases h; exact ⟨rfl, rfl⟩
  | _, _, _, .cons h hs, q => by
    unfold toVs at q
    split at q
    · rename_i x xs h1 h2
      cases q
      obtain ⟨e1, f1⟩ := toV_den h h1
      obtain ⟨e2, f2⟩ := toVs_den hs h2
      exact ⟨by rw [e1, e2], by rw [List.all_cons, f1, f2]; rfl⟩
    · cases q
end
def asS (st : S) : D → Option (List D)
  | .tup xs => some xs
  | d => asR st d
theorem asS_den {K : PySem.W.Frag} {ι : List Addr} {H : Hp} {st : S} {v : V} {d : D} {ds : List D} (r : Rel K ι H st) (e : Den K ι H v d) (h : asS st d = some ds) : ∃ a xs, v = .ref a ∧ (SqL K H a xs ∨ SqT K H a xs) ∧ DenL K ι H xs ds := by
  cases e with
  | tup hq hs => cases h; exact ⟨_, _, rfl, .inr hq.sq, hs⟩
  | scr hq hs =>
    obtain ⟨a, xs, e1, e2, e3⟩ := asR_den r (Den.scr hq hs) h
    exact ⟨a, xs, e1, .inl e2, e3⟩
  | lst hn ha hs =>
    obtain ⟨a, xs, e1, e2, e3⟩ := asR_den r (Den.lst hn ha hs) h
    exact ⟨a, xs, e1, .inl e2, e3⟩
  | loc hn =>
    obtain ⟨a, xs, e1, e2, e3⟩ := asR_den r (Den.loc hn) h
    exact ⟨a, xs, e1, .inl e2, e3⟩
  | _ => cases h
def gIn (neg : Bool) (d e : D) (st : S) : R D := match toV d with
  | some x => match asS st e with
    | some ds => match toVs ds with
      | some xs => .ok (.bl (if neg then !inV x xs else inV x xs)) st
      | none => .stuck
    | none => .stuck
  | none => .stuck
theorem op2_in {K : PySem.W.Frag} (neg : Bool) : Op2 K (rIn K neg) (gIn neg) := by
  intro W σ ι H st x y d e Q r hx hy h
  unfold gIn at h
  split at h
  · rename_i z hz
    split at h
    · rename_i ds hds
      split at h
      · rename_i xs hxs
        obtain ⟨e1, f1⟩ := toV_den hx hz
        obtain ⟨a, us, e2, sq, e3⟩ := asS_den r hy hds
        obtain ⟨e4, f4⟩ := toVs_den e3 hxs
        subst e1 e2 e4
        exact ⟨a, us, rfl, sq, f1, f4, h.ok r (.bl _)⟩
      · exact h.elim
    · exact h.elim
  · exact h.elim
/-! methods of lists -/
section
variable {X : Cx} {W : L2.WX} {o e : Expr} {es : List Expr} {apos cpos : Pos}
def MtL (K : PySem.W.Frag) (r : V → List V → Hp → VK → Prop) (g : D → List D → S → R D) : Prop := ∀ (W : L2.WX) (σ : L2.St) (ι : List Addr) (H : Hp) (st : S) (x : V) (vs : List V) (d : D) (ds : List D) (Q : VK), Rel K ι H st → Den K ι H x d → DenL K ι H vs ds → Post K W (Den K) σ ι H (g d ds st) Q → r x vs H Q
def mMeth (g : D → List D → S → R D) (mo : Env → S → R D) (ms : Env → S → R (List D)) : Env → S → R D := fun env st => (mo env st).bind fun d st1 => if (asL st1 d).isSome = true then (ms env st1).bind fun ds st2 => g d ds st2 else .stuck
theorem me_methL {name : Str} {id : String} {r : V → List V → Hp → VK → Prop} {g : D → List D → S → R D} {mo : Env → S → R D} {ms : Env → S → R (List D)} (hg : MtL X.K r g) (slot : Slot "list" name id) (hty : typeOf (.builtin id) = pure (.type "method_descriptor")) (hm : MtR X id r) (ho : PE X o (tM X.K W mo)) (ha : PA X (e :: es) (tMA X.K W ms))
    (hbase : attributeBase o name X.env (eval o X.env) = eval o X.env := by rfl)
    (hfew : ((backTo cpos (starEach (e :: es) X.env)).all (fun x => !x.1) && (backToKw cpos (keywordEach [] X.env)).all (fun x => x.1.isSome)
      && decide ((e :: es).length + ([] : List Keyword).length + (if ([] : List Keyword).isEmpty then 0 else 1) < 30)) = true := by rfl)
    (hline : (apos.endLine == cpos.line) = true := by rfl) (hs : starEach (e :: es) X.env = (false, eval e X.env) :: starEach es X.env := by rfl) (hplain : (backTo cpos (starEach es X.env)).any (·.1) = false := by rfl) :
    PE X (.Call (.Attribute o name apos) (e :: es) [] cpos) (tM X.K W (mMeth g mo ms)) :=
  (pe_bm PySem.F.plainAttrs_list slot hty hm ho ha hbase hfew hline hs hplain).imp fun σ H Q ⟨ι, env, st, er, r, h⟩ => seqM er r h fun ι1 H1 v d st1 er1 s1 r1 e1 h1 => by
    obtain ⟨hc, h1⟩ := h1.ite
    obtain ⟨ds, hds⟩ := Option.isSome_iff_exists.mp hc
    obtain ⟨a, xs, q1, q2, q3⟩ := asL_den r1 e1 hds
    subst q1
    exact ⟨.inl ⟨rfl, xs, .of q2⟩, seqA er1 r1 h1 fun ι2 H2 vs ds st2 er2 s2 r2 e2 h2 => hg W σ ι2 H2 st2 _ vs d ds Q r2 (e1.stp s2) e2 h2⟩
end
def gAppend (d : D) (ds : List D) (st : S) : R D := match d, ds with
  | .loc n, [x] => match st[n]? with
    | some (.lst xs) => if xs.length < sizeLine then .ok .non (st.set n (.lst (xs ++ [x]))) else .stuck
    | _ => .stuck
  | _, _ => .stuck
theorem mtl_append {K : PySem.W.Frag} : MtL K rAppend gAppend := by
  intro W σ ι H st x vs d ds Q r hx hv h
  unfold gAppend at h
  split at h
  · rename_i n y
    split at h
    · rename_i xs hst
      obtain ⟨hz, h⟩ := h.ite
      obtain ⟨u, e1, e2⟩ := denl1 hv
      subst e1
      cases hx with
      | @loc a _ hn =>
        obtain ⟨us, h1, h2⟩ := r.obs n a _ hn hst
        exact ⟨a, us, u, rfl, rfl, h1, by rw [h2.length]; exact hz, h ι _ _ (chg_stp hn) (r.chg hn (ob := .lst (xs ++ [y])) ⟨_, upd_same, (h2.append (.cons e2 .nil)).stp (chg_stp hn)⟩) .non⟩
    · exact h.elim
  · exact h.elim
def gPop (d : D) (ds : List D) (st : S) : R D := match d, ds with
  | .loc n, [.int i] => match st[n]? with
    | some (.lst xs) => if -(2 ^ 63) ≤ i ∧ i < 2 ^ 63 then (match seqIndex? i xs.length with
      | some k => match xs[k]? with
        | some y => .ok y (st.set n (.lst (xs.eraseIdx k)))
        | none => .stuck
      | none => .stuck) else .stuck
    | _ => .stuck
  | _, _ => .stuck
theorem mtl_pop {K : PySem.W.Frag} : MtL K rPopAt gPop := by
  intro W σ ι H st x vs d ds Q r hx hv h
  unfold gPop at h
  split at h
  · rename_i n i
    split at h
    · rename_i xs hst
      obtain ⟨⟨c1, c2⟩, h⟩ := h.ite
      obtain ⟨u, e1, e2⟩ := denl1 hv
      have e3 := int_den e2
      subst e1 e3
      split at h
      · rename_i k hk
        split at h
        · rename_i y hy
          cases hx with
          | @loc a _ hn =>
            obtain ⟨us, h1, h2⟩ := r.obs n a _ hn hst
            obtain ⟨v, h3, h4⟩ := h2.get hy
            exact ⟨a, us, i, k, v, rfl, rfl, h1, c1, c2, by rw [h2.length]; exact hk, h3, h ι _ _ (chg_stp hn) (r.chg hn (ob := .lst (xs.eraseIdx k)) ⟨_, upd_same, (h2.eraseIdx k).stp (chg_stp hn)⟩) (h4.stp (chg_stp hn))⟩
        · exact h.elim
      · exact h.elim
    · exact h.elim
  · exact h.elim
end MF
end
section
set_option Elab.async false
set_option linter.all false
set_option maxRecDepth 100000
set_option maxHeartbeats 4000000
/-! MF13: comprehensions of several clauses, level by level. -/
namespace MF
open PySem PySem.Spec PyProof.Rows L2
/-- one turn of a clause's loop: next, store, tests, then act -/
def turnOf (p : Pos) (tg : Expr) (ifs : List Expr) (it : Value) (env : PySem.Env) (act : Sem Unit) (c : Code) : Sem Fin := do
  standAt p
  match ← pyNext it with
  | none => pure (.done .next)
  | some v =>
    letOwnedTupleGo tg it v
    assign tg env v
    let mut ok := true
    for c in ifs do
      if ok then ok ← isTrue c env (eval c env)
    if ok then
      act
    again c
def readLevel (J : It) (g : TG) (tt : TT) (vs : List Nat) (body : L2.St → Hp → (Hp → Prop) → Prop) (σ : L2.St) (H : Hp) (Nx : Hp → Prop) : Prop := ∃ W : Nat → Nat → Hp → Prop, (∃ m, W 0 m H) ∧ ∀ i m H, W i m H →
  (J.stop i H ∧ Nx H) ∨ (J.go i H ∧ ∃ N1 : Hp → Prop, (∀ H', N1 H' → ∃ m', m' < m ∧ W (i + 1) m' H') ∧ ∀ x H', J.yld i H x H' → g x (wipe σ vs) H' fun σ2 H2 => wipe σ2 vs = wipe σ vs ∧ tt σ2 H2 fun b H3 =>
    if b = true then body σ2 H3 N1 else N1 H3)
/-- the block's state is back -/
def BackAt (B : Cx) (pins : List (Addr × Obj)) (σ : L2.St) (Nx : Hp → Prop) (s' : Shared) : Prop := ∃ H', Inv B pins σ H' s' ∧ Nx H'
def ActOk (B : Cx) (js : List Nat) (act : Sem Unit) (body : L2.St → Hp → (Hp → Prop) → Prop) : Prop := ∀ (pins : List (Addr × Obj)) (s : Shared) (σ : L2.St) (H : Hp) (Nx : Hp → Prop), Inv B pins σ H s → body σ H Nx → wpAny (model B.prog B.w) B.A act (fun _ s' => BackAt B pins (wipe σ js) Nx s') (fun _ _ => False) s
theorem never_E {α : Type} {M : Model} {A : Around} {t : Sem α} {Q : α → Shared → Prop} {E : Value → Shared → Prop} {s : Shared} (h : wpAny M A t Q (fun _ _ => False) s) : wpAny M A t Q E s := wpAny_mono h (fun _ _ q => q) fun _ _ z => z.elim
theorem never_N {α : Type} {M : Model} {A : Around} {t : Sem α} {Q Q' : α → Shared → Prop} {E : Value → Shared → Prop} {s : Shared} (h : wpAny M A t Q (fun _ _ => False) s) (i : ∀ a s, Q a s → Q' a s) : wpAny M A t Q' E s := wpAny_mono h i fun _ _ z => z.elim
/-- a comprehension that is no generator -/
structure NF (c0 : Expr) : Prop where
  un : ∀ (A : Around) (k : Nat) (it acc : Value) (env : PySem.Env), A.under (.compLoop c0 k it acc env) = A
  dn : ∀ (P : Program) (w : World) (k : Nat) (it acc : Value) (env : PySem.Env), (model P w).den (.compLoop c0 k it acc env) = (compTurn c0 k it acc env).onRaise (fun x => do noteFrame x env; theTreesLotGoes x)
theorem nf_list {elt : Expr} {gs : List Comprehension} {scope : Scope} {pos : Pos} : NF (.ListComp elt gs scope pos) := ⟨fun _ _ _ _ _ => rfl, fun _ _ _ _ _ _ => rfl⟩
theorem nf_dict {k v : Expr} {gs : List Comprehension} {scope : Scope} {pos : Pos} : NF (.DictComp k v gs scope pos) := ⟨fun _ _ _ _ _ => rfl, fun _ _ _ _ _ _ => rfl⟩
theorem nf_set {elt : Expr} {gs : List Comprehension} {scope : Scope} {pos : Pos} : NF (.SetComp elt gs scope pos) := ⟨fun _ _ _ _ _ => rfl, fun _ _ _ _ _ _ => rfl⟩
theorem level {B : Cx} {c0 : Expr} {k : Nat} {acc : Value} {it : Addr} {p : Pos} {tg : Expr} {ifs : List Expr} {J : It} {fp : List Addr} {tn : Nat → Heap → Prop} {g : TG} {tt : TT} {vs js : List Nat} {act : Sem Unit} {body : L2.St → Hp → (Hp → Prop) → Prop} (nf : NF c0) (hjs : ∀ j ∈ js, j ∈ vs) (hc : B.calm = true) (T : Turn B.prog B.w B.K tg J fp it tn)
    (pg : PG (B.wish fun _ _ => False) tg g) (pt : PTs (B.wish fun _ _ => False) ifs tt) (ha : ActOk B js act body)
    (eqn : compTurn c0 k (.ref it) acc B.env = turnOf p tg ifs (.ref it) B.env act (.compLoop c0 k (.ref it) acc B.env)) {pins : List (Addr × Obj)} {s : Shared} {σ : L2.St} {H : Hp} {Nx : Hp → Prop} (I : Inv B pins σ H s) (st : tn 0 s.heap) (f : ∀ b ∈ fp, FpOk B pins H b)
    (rd : readLevel J g tt vs body σ H Nx) : codeAny (model B.prog B.w) B.A (.compLoop c0 k (.ref it) acc B.env) (fun r s' => match r with | .ok _ => BackAt B pins (wipe σ vs) Nx s' | .error _ => False) s := by
  obtain ⟨W, ⟨m0, w0⟩, turn⟩ := rd
  have I0 : Inv B pins (wipe σ vs) H s := I.weak (wipe_length _ _) fun j v e => (wipe_some e).1
  refine codeAny_loop rfl (fun n s' => ∃ i H', Inv B pins (wipe σ vs) H' s' ∧ tn i s'.heap ∧ (∀ b ∈ fp, H' b = none) ∧ W i n H') ?_ m0 ⟨0, H, I0, st, fun b hb => (f b hb).1, w0⟩
  rintro n s1 ⟨i, H1, I1, st1, n1, w1⟩
  have fp1 : ∀ {H' : Hp}, (∀ b ∈ fp, H' b = none) → ∀ b ∈ fp, FpOk B pins H' b := fun hn b hb => ⟨hn b hb, (f b hb).2⟩
  rw [nf.un, nf.dn]
  refine wpAny_noted ?_
  rw [eqn]
  unfold turnOf
  refine wpAny_bind (wpAny_standAt (wpAny_bind ?_))
  rcases turn i n H1 w1 with ⟨stop, nx⟩ | ⟨go, N1, hN1, step⟩
  · refine never_N (T.done B rfl rfl rfl hc i pins s1 (wipe σ vs) H1 (fun _ _ => False) I1 (fp1 n1) st1 stop) ?_
    rintro r s2 ⟨rfl, I2⟩
    exact wpAny_pure ⟨H1, I2, nx⟩
  · refine never_N (T.item B rfl rfl rfl hc i pins s1 (wipe σ vs) H1 (fun _ _ => False) I1 (fp1 n1) st1 go) ?_
    rintro r s2 ⟨u, rfl, h2⟩
    refine wpAny_bind (never_N h2 ?_)
    rintro _ s3 ⟨x, H3, I3, r3, y3, st3, n3⟩
    have I3' := I3.pinned (fp1 n3) (T.obj _ _ st3)
    refine wpAny_bind (never_N (pg.run _ s3 (wipe σ vs) H3 x u _ (I3'.wish _) r3 (step x H3 y3)) ?_)
    rintro _ s4 ⟨σ4, H4, I4, hw, q4⟩
    refine wpAny_bind (never_N (pt.run _ s4 σ4 H4 _ I4 q4) ?_)
    rintro b s5 ⟨H5, I5, q5⟩
    have I5' := I5.unwish
    have fin : ∀ {s' : Shared} {H' : Hp}, Inv B (pins ++ pinsAt fp s3.heap) (wipe σ4 js) H' s' → N1 H' → ∃ m, m < n ∧ ∃ i H', Inv B pins (wipe σ vs) H' s' ∧ tn i s'.heap ∧ (∀ b ∈ fp, H' b = none) ∧ W i m H' := by
      intro s' H' I' q
      obtain ⟨m, hm, w⟩ := hN1 H' q
      have pinned : ∀ b ∈ fp, ∀ o, s3.heap.get? b = some o → s'.heap.get? b = some o ∧ H' b = none := fun b hb o e =>
        have z := I'.pin (b, o) (List.mem_append_right _ (List.mem_append_right _ (mem_pinsAt hb e)))
        ⟨z.1, z.2.1⟩
      have back : Inv B pins (wipe σ vs) H' s' := I'.unpinned.weak (by rw [← hw, wipe_length, wipe_length]) fun j v e => by
        rw [← hw] at e
        obtain ⟨e1, e2⟩ := wipe_some e
        rw [wipe_out fun z => e2 (hjs j z)]
        exact e1
      refine ⟨m, hm, i + 1, H', back, T.keep _ _ _ st3 fun b hb o e => (pinned b hb o e).1, fun b hb => ?_, w⟩
      obtain ⟨o, e, _⟩ := T.obj _ _ st3 b hb
      exact (pinned b hb o e).2
    cases b with
    | false =>
      rw [if_neg Bool.false_ne_true] at q5
      exact wpAny_pure ⟨rfl, fin (I5'.weak (wipe_length _ _) fun j v e => (wipe_some e).1) q5⟩
    | true =>
      rw [if_pos rfl] at q5
      refine wpAny_bind (never_N (ha _ s5 σ4 H5 N1 I5' q5) ?_)
      rintro _ s6 ⟨H6, I6, q6⟩
      exact wpAny_pure ⟨rfl, fin I6 q6⟩
/-- the last clause's act: the item goes to the list -/
theorem act_last {B : Cx} {elt : Expr} {te : TE} {L : Addr} (pe : PE (B.wish fun _ _ => False) elt te) : ActOk B [] (do let _ ← call (.builtin "list.append") [.ref L, ← eval elt B.env]) fun σ H Nx => te σ H fun y H4 => ∃ acc, H4 L = some (.lst acc) ∧ acc.length < sizeLine ∧ Nx (upd H4 L (.lst (acc ++ [y]))) := by
  intro pins s σ H Nx I h
  refine wpAny_bind (never_N (pe.run pins s σ H _ (I.wish _) h) ?_)
  rintro v s1 ⟨y, H1, I1, ry, acc, h1, h2, q⟩
  refine wpAny_bind (app_ok (X := B) I1.unwish h1 h2 ry fun s2 I2 => ?_)
  exact wpAny_pure ⟨_, I2, q⟩
/-- another clause's act: its own loop -/
theorem act_more {B : Cx} {c0 : Expr} {k : Nat} {acc : Value} {p : Pos} {tg iter : Expr} {ifs : List Expr} {wi : TI} {g : TG} {tt : TT} {vs js : List Nat} {act : Sem Unit} {body : L2.St → Hp → (Hp → Prop) → Prop} (nf : NF c0) (hjs : ∀ j ∈ js, j ∈ vs) (hc : B.calm = true) (pi : PI (B.wish fun _ _ => False) tg iter wi) (hs : ∀ x, foldedSetIterable iter B.env x = pure x)
    (pg : PG (B.wish fun _ _ => False) tg g) (pt : PTs (B.wish fun _ _ => False) ifs tt) (ha : ActOk B js act body) (eqn : ∀ it, compTurn c0 k it acc B.env = turnOf p tg ifs it B.env act (.compLoop c0 k it acc B.env))
    (begins : ∀ (it : Value) (R : Result → Shared → Prop) (s : Shared), codeAny (model B.prog B.w) B.A (.compLoop c0 k it acc B.env) R s → wpAny (model B.prog B.w) B.A (pyIter it) (fun it' s' => codeAny (model B.prog B.w) B.A (.compLoop c0 k it' acc B.env) R s') (notedBy (model B.prog B.w) B.A B.env fun x s' => R (.error x) s') s →
      codeAny (model B.prog B.w) B.A (.compStart c0 k it acc B.env) R s) :
    ActOk B vs (do let x ← eval iter B.env; standAt iter.pos; let x ← foldedSetIterable iter B.env x; let _ ← runOwn (.compStart c0 k (← holding [x] (pyIter x)) acc B.env) B.env) fun σ H Nx => wi σ H fun J H1 => readLevel J g tt vs body σ H1 Nx := by
  intro pins s σ H Nx I h
  refine wpAny_bind (never_N (pi.run pins s σ H _ (I.wish _) h) ?_)
  intro xv s1 hx
  refine wpAny_bind (wpAny_standAt (wpAny_bind (wpAny_of_eq (hs xv) (wpAny_bind (wpAny_holding (never_N hx ?_))))))
  rintro itv s2 ⟨it, fp, tn, J, H2, rfl, I2, T, st2, f2, rd⟩
  refine wpAny_bind (wpAny_runOwn ?_)
  rw [Around.mark_none]
  have lp := level (c0 := c0) (k := k) (acc := acc) (p := p) nf hjs hc T pg pt ha (eqn (.ref it)) I2.unwish st2 (fun b hb => by
    obtain ⟨f0, f1, f3, f4, f5, f6⟩ := f2 b hb
    exact ⟨f0, f1, f3, f4, f5, f6⟩) rd
  refine codeAny_mono (begins (.ref it) _ s2 lp (T.self B.A 0 _ _ _ st2 lp)) ?_
  intro r s' hr
  cases r with
  | error e => exact hr.elim
  | ok fl =>
    obtain ⟨H', I', q⟩ := hr
    have back : BackAt B pins (wipe σ vs) Nx s' := ⟨H', I', q⟩
    first
      | exact wpAny_pure back
      | exact wpAny_bind (wpAny_pure (wpAny_pure back))
/-- what a comprehension makes at first -/
structure AccOk (X : Cx) (newAcc : Sem Value) (ho : Addr → HO) : Prop where
  ex : ∃ obj : Obj, (∀ (s : Shared) (Q E : Value → Shared → Prop), Q (.ref s.heap.objs.size) { s with heap := s.heap.push obj } → wpAny (model X.prog X.w) X.A newAcc Q E s) ∧
    ∀ (H : Hp) (h : Heap), sysModules < h.objs.size → ObjOk X.prog X.w H (h.push obj) h.objs.size (ho h.objs.size)
theorem acc_list {X : Cx} : AccOk X (newList []) fun _ => .lst [] := ⟨{ cls := .type "list", data := .seq ([] : List Value).toArray },
  fun s Q E h => wpAny_newObj_type h (by show 0 ≤ sizeLine; decide), fun H h hb => ⟨Nat.zero_le _, [], 0, .nil, Heap.get?_push_size _ rfl⟩⟩
theorem acc_dK {X : Cx} : AccOk X newDict fun _ => .dK [] := ⟨{ cls := .type "dict", data := .dict #[] }, fun s Q E h => wpAny_newObj_type h, fun H h hb => dk_empty h hb⟩
theorem acc_dT {X : Cx} : AccOk X newDict fun _ => .dT [] := ⟨{ cls := .type "dict", data := .dict #[] }, fun s Q E h => wpAny_newObj_type h, fun H h hb => dt_empty h hb⟩
/-- the kinds of comprehensions -/
structure CompE (c0 : Expr) (tg iter : Expr) (ifs : List Expr) (scope : Scope) (newAcc : Sem Value) : Prop where
  nf : NF c0
  ev : ∀ env : PySem.Env, ∃ pos' : Pos, eval c0 env = comprehension c0 scope env pos' newAcc false (eval iter env)
  cl : ∃ gs, clausesOf c0 = ⟨tg, iter, ifs, 0⟩ :: gs
  start : ∀ {prog : Program} {w : World} {A : Around} {it acc : Value} {env : PySem.Env} {R : Result → Shared → Prop} {s : Shared}, codeAny (model prog w) A (.compLoop c0 0 it acc env) R s →
    wpAny (model prog w) A (pyIter it) (fun it' s' => codeAny (model prog w) A (.compLoop c0 0 it' acc env) R s') (notedBy (model prog w) A env fun x s' => R (.error x) s') s → codeAny (model prog w) A (.compStart c0 0 it acc env) R s
theorem compE_list {elt tg iter : Expr} {ifs : List Expr} {gs : List Comprehension} {scope : Scope} {pos : Pos} : CompE (.ListComp elt (⟨tg, iter, ifs, 0⟩ :: gs) scope pos) tg iter ifs scope (newList []) :=
  ⟨nf_list, fun env => ⟨_, by rw [eval_ListComp]; rfl⟩, ⟨gs, rfl⟩, fun h0 h => codeAny_compStart_list h0 h⟩
theorem compE_dict {kx vx tg iter : Expr} {ifs : List Expr} {gs : List Comprehension} {scope : Scope} {pos : Pos} : CompE (.DictComp kx vx (⟨tg, iter, ifs, 0⟩ :: gs) scope pos) tg iter ifs scope newDict :=
  ⟨nf_dict, fun env => ⟨_, by rw [arm_eval_DictComp]; rfl⟩, ⟨gs, rfl⟩, fun h0 h => codeAny_compStart_dict h0 h⟩
theorem compE_set {elt tg iter : Expr} {ifs : List Expr} {gs : List Comprehension} {scope : Scope} {pos : Pos} : CompE (.SetComp elt (⟨tg, iter, ifs, 0⟩ :: gs) scope pos) tg iter ifs scope (newSet (.type "set")) :=
  ⟨nf_set, fun env => ⟨_, by rw [PpSet.eval_SetComp]; rfl⟩, ⟨gs, rfl⟩, fun h0 h => PpSet.codeAny_compStart_set h0 h⟩
theorem pe_levels {X : Cx} {c0 tg iter : Expr} {ifs : List Expr} {scope : Scope} {own : List (Str × Nat)} {newAcc : Sem Value} {ho : Addr → HO} {wi : TI} {g : TG} {tt : TT} {js : List Nat} {body : Addr → L2.St → Hp → (Hp → Prop) → Prop} (act : Value → PySem.Env → Sem Unit)
    (ce : CompE c0 tg iter ifs scope newAcc) (hA : AccOk X newAcc ho) (hc : X.calm = true) (hN : X.N.Nodup) (hi : PI X tg iter wi) (ok : BlkOk X.N X.env.scope scope own) (hjs : ∀ j ∈ js, j ∈ own.map (·.2))
    (hg : ∀ (s : Shared) (H : Hp) (C : Addr) (cl : List (Str × Addr)) (fp : List Addr), PG (X.blk s H scope (compEnvC scope cl C X.env) fp) tg g) (ht : ∀ (s : Shared) (H : Hp) (C : Addr) (cl : List (Str × Addr)) (fp : List Addr), PTs (X.blk s H scope (compEnvC scope cl C X.env) fp) ifs tt)
    (ha : ∀ (s : Shared) (H : Hp) (C : Addr) (cl : List (Str × Addr)) (fp : List Addr) (L : Addr), ActOk (X.blk s H scope (compEnvC scope cl C X.env) fp) js (act (.ref L) (compEnvC scope cl C X.env)) (body L))
    (eqn : ∀ (it acc : Value) (env : PySem.Env), compTurn c0 0 it acc env = turnOf iter.pos tg ifs it env (act acc env) (.compLoop c0 0 it acc env))
    (hs : ∀ x, foldedSetIterable iter X.env x = pure x := by intro _; rfl) :
    PE X c0 (fun σ H Q => wi σ H fun J H1 => ∀ L, H1 L = none → readLevel J g tt (own.map (·.2)) (body L) σ (upd H1 L (ho L)) fun H2 => Q (.ref L) H2) := by
  constructor
  intro pins s σ H Q I h
  obtain ⟨pos', ev⟩ := ce.ev X.env
  rw [ev]
  obtain ⟨gs, hcl⟩ := ce.cl
  obtain ⟨obj, mk, okO⟩ := hA.ex
  have hfree : ∀ y ∈ scope.names, y.2 = .free → ∃ c, X.env.cells.lookup y.1 = some c := fun y hy e => (ok.free y hy e).elim (fun k => I.ok.has _ (.inl k)) fun k => I.ok.has _ (.inr k)
  refine wpAny_comprehension_free hcl hs (closure_ok hfree) ok.kind (fun y hy e => by rw [ok.uniq y hy, e]) (thn (hi.run pins s σ H _ I h) fun xv s1 hx => thn hx ?_)
  rintro itv s2 ⟨it, fp, tn, J, H2, rfl, I2, T, st2, f2, rd⟩
  refine mk _ _ _ (newEnv_comp ?_)
  generalize hL : s2.heap.objs.size = L
  have nL : H2 L = none := I2.hok.fresh (Nat.le_of_eq hL)
  have rdL := rd L nL
  generalize hs3 : ({ s2 with heap := s2.heap.push obj } : Shared) = s3
  have h3 : s3.heap = s2.heap.push obj := by rw [← hs3]
  have I3 : Inv X pins σ (upd H2 L (ho L)) s3 := by
    rw [← hs3]
    refine I2.laid (t' := s2.toks) (fun b o e => Heap.get?_push_of_some _ e) (Nat.le_of_eq hL) ?_
    rw [← hL]
    exact okO _ _ I2.big
  have f3 : ∀ b ∈ fp, FpOk X pins (upd H2 L (ho L)) b ∧ b < s3.heap.objs.size := by
    intro b hb
    obtain ⟨o, e, _⟩ := T.obj _ _ st2 b hb
    have lt := Heap.lt_size e
    refine ⟨⟨?_, (f2 b hb).2⟩, by rw [h3, Heap.size_push]; exact Nat.lt_succ_of_lt lt⟩
    rw [upd_ne (by rw [← hL]; exact Nat.ne_of_lt lt)]
    exact (f2 b hb).1
  have st3 : tn 0 s3.heap := T.keep _ _ _ st2 fun b _ o e => by rw [h3]; exact Heap.get?_push_of_some _ e
  have I4 := block_start I3 ok hN f3
  have pg := hg s3 (upd H2 L (ho L)) s3.heap.objs.size (cellsFrom (s3.heap.objs.size + 1) scope.names (cloFrom X.env.cells scope.names [])) fp
  have pt := ht s3 (upd H2 L (ho L)) s3.heap.objs.size (cellsFrom (s3.heap.objs.size + 1) scope.names (cloFrom X.env.cells scope.names [])) fp
  have pa := ha s3 (upd H2 L (ho L)) s3.heap.objs.size (cellsFrom (s3.heap.objs.size + 1) scope.names (cloFrom X.env.cells scope.names [])) fp L
  show codeAny _ _ (.compStart c0 0 (.ref it) (.ref L) (compEnvC scope (cellsFrom (s3.heap.objs.size + 1) scope.names (cloFrom X.env.cells scope.names [])) s3.heap.objs.size X.env)) _ _
  have nfp : ∀ b ∈ fp, (upd H2 L (ho L)) b = none := fun b hb => (f3 b hb).1.1
  generalize hce : compEnvC scope (cellsFrom (s3.heap.objs.size + 1) scope.names (cloFrom X.env.cells scope.names [])) s3.heap.objs.size X.env = cenv at I4 pg pt pa ⊢
  have cL : cenv.locals = s3.heap.objs.size := by subst hce; rfl
  generalize hH3 : upd H2 L (ho L) = H3 at I3 I4 pg pt pa nfp f3 rdL
  generalize hs4 : ({ s3 with heap := pushCells (s3.heap.push { cls := .type "dict", data := .dict #[] }) scope.names } : Shared) = s4 at I4 ⊢
  have st4 : tn 0 s4.heap := T.keep _ _ _ st3 fun b _ o e => by rw [← hs4]; exact pushCells_keeps _ _ _ _ (Heap.get?_push_of_some _ e)
  have stat : ∀ b ∈ fp, FpOk (X.blk s3 H3 scope cenv fp) [] H3 b := fun b hb =>
    ⟨nfp b hb, (I4.ok.exf b hb).1, I4.ok.exfs b hb, .inl hb, fun x c e => (I4.ok.exf b hb).2 x c e, fun p hp => absurd (show p ∈ ([] : List (Addr × Obj)) ++ [] from hp) (by simp)⟩
  have rdW : readLevel J g tt (own.map (·.2)) (body L) (wipe σ (own.map (·.2))) H3 fun H9 => Q (.ref L) H9 := by
    have e : wipe (wipe σ (own.map (·.2))) (own.map (·.2)) = wipe σ (own.map (·.2)) := by
      apply List.ext_getElem?
      intro j
      rw [wipe_get, wipe_length, wipe_get]
      split <;> rfl
    unfold readLevel at rdL ⊢
    rw [e]
    exact rdL
  have lp := level (B := X.blk s3 H3 scope cenv fp) (c0 := c0) (k := 0) (acc := .ref L) (p := iter.pos) ce.nf hjs hc T pg pt pa (eqn (.ref it) (.ref L) cenv) I4 st4 stat rdW
  have done : codeAny (model X.prog X.w) X.A (.compLoop c0 0 (.ref it) (.ref L) cenv) (compPost (model X.prog X.w) X.A X.xe none (EP X pins σ Q) (.ref L) s3.heap.objs.size) s4 := by
    refine codeAny_mono lp ?_
    intro r s' hr
    cases r with
    | error e => exact hr.elim
    | ok fl =>
      obtain ⟨H', I', q⟩ := hr
      have I7 : Inv X pins σ H' s' := I3.call' (ch := fp) I'.os I'.base I'.hok I'.bare fun b hb => ⟨(f3 b hb).1.2.2.2.1, (f3 b hb).1.2.1, (f3 b hb).1.2.2.2.2.1, (f3 b hb).1.2.2.2.2.2⟩
      have nC : H' s3.heap.objs.size = none := by
        have z : H' cenv.locals = none := I'.free
        rw [cL] at z
        exact z
      obtain ⟨m, hn, _⟩ := I'.loc
      have hn : s'.heap.Ns cenv.locals m := hn
      rw [cL] at hn
      refine ⟨m, hn, fun h'' sb => ?_⟩
      obtain ⟨f0, f1, f2', f3', f4, f5⟩ := I3.fpOk (Nat.le_refl _) nC
      exact ⟨.ref L, H', I7.turned (t' := s'.toks) (fun b o hb e => (sb.2 b hb).trans e) f0 f1 f3' f4 f5, rfl, q⟩
  exact ce.start done (T.self X.A 0 _ _ _ st4 done)
end MF
end
section
set_option Elab.async false
set_option linter.all false
set_option maxRecDepth 100000
set_option maxHeartbeats 4000000
/-! MF14: instances: fields read and stored, new ones, methods. -/
namespace MF
open PySem PySem.Spec PyProof.Rows L2
/-- an instance's class and fields -/
def insOf (st : S) : D → Option (Addr × List (Str × D))
  | .ins C fs => some (C, fs)
  | .loc n => match st[n]? with
    | some (.ins C fs) => some (C, fs)
    | _ => none
  | _ => none
theorem DenF.lookup {K : PySem.W.Frag} {ι : List Addr} {H : Hp} {f : Str} {d : D} : ∀ {vs : List (Str × V)} {ds : List (Str × D)}, DenF K ι H vs ds → ds.lookup f = some d → ∃ v, vs.lookup f = some v ∧ Den K ι H v d
  | _, _, .nil, e => by cases e
  | _, _, .cons (f := k) h hs, e => by
    rw [List.lookup_cons] at e ⊢
    split at e
    · cases e
      exact ⟨_, rfl, h⟩
    · exact DenF.lookup hs e
theorem DenF.length {K : PySem.W.Frag} {ι : List Addr} {H : Hp} : ∀ {vs : List (Str × V)} {ds : List (Str × D)}, DenF K ι H vs ds → vs.length = ds.length
  | _, _, .nil => rfl
  | _, _, .cons _ hs => by rw [List.length_cons, List.length_cons, DenF.length hs]
theorem insOf_den {K : PySem.W.Frag} {ι : List Addr} {H : Hp} {st : S} {v : V} {d : D} {C : Addr} {gs : List (Str × D)} (r : Rel K ι H st) (e : Den K ι H v d) (h : insOf st d = some (C, gs)) : ∃ a dx fs, v = .ref a ∧ H a = some (.ins C dx fs) ∧ DenF K ι H fs gs := by
  unfold insOf at h
  split at h
  · cases h
    cases e with
    | ins hn ha hs => exact ⟨_, _, _, rfl, ha, hs⟩
  · split at h
    · rename_i n C' fs' hst
      cases h
      cases e with
      | loc hn =>
        obtain ⟨dx, fs, ha, hs⟩ := r.obs _ _ _ hn hst
        exact ⟨_, _, _, rfl, ha, hs⟩
    · cases h
  · cases h
section
variable {X : Cx} {W : L2.WX} {e o : Expr} {es : List Expr} {pos : Pos}
/-- e.f, by the classes Cs -/
def gFld (Cs : List Addr) (f : Str) (d : D) (st : S) : R D := match insOf st d with
  | some (C, fs) => if C ∈ Cs then match fs.lookup f with
    | some x => .ok x st
    | none => .stuck
    else .stuck
  | none => .stuck
def mFld (Cs : List Addr) (f : Str) (m : Env → S → R D) : Env → S → R D := fun env st => (m env st).bind (gFld Cs f)
theorem me_fld {Cs : List Addr} {f : Str} {m : Env → S → R D} (hC : ∀ C ∈ Cs, Cls X.K C ∧ NoAttr X.K C f) (he : PE X e (tM X.K W m)) (hb : attributeBase e f X.env (eval e X.env) = eval e X.env := by rfl) : PE X (.Attribute e f pos) (tM X.K W (mFld Cs f m)) :=
  (pe_fld he hb).imp fun σ H Q ⟨ι, env, st, er, r, h⟩ => seqM er r h fun ι1 H1 v d st1 er1 s1 r1 e1 h1 => by
    unfold gFld at h1
    split at h1
    · rename_i C gs hi
      obtain ⟨hc, h1⟩ := h1.ite
      obtain ⟨a, dx, fs, ev, ha, hs⟩ := insOf_den r1 e1 hi
      split at h1
      · rename_i x hx
        obtain ⟨u, hu, du⟩ := hs.lookup hx
        exact ⟨a, C, dx, fs, u, ev, ha, (hC C hc).1, (hC C hc).2, hu, h1.ok r1 du⟩
      · exact h1.elim
    · exact h1.elim
/-! ### stores -/
def putD (f : Str) (d : D) : List (Str × D) → List (Str × D)
  | [] => [(f, d)]
  | (g, x) :: fs => if g = f then (g, d) :: fs else (g, x) :: putD f d fs
theorem DenF.put {K : PySem.W.Frag} {ι : List Addr} {H : Hp} {f : Str} {v : V} {d : D} (h : Den K ι H v d) : ∀ {vs : List (Str × V)} {ds : List (Str × D)}, DenF K ι H vs ds → DenF K ι H (putF f v vs) (putD f d ds)
  | _, _, .nil => .cons h .nil
  | _, _, .cons (f := k) h' hs => by
    unfold putF putD
    split
    · exact .cons h hs
    · exact .cons h' (DenF.put h hs)
/-- o.f = e, o an instance that may change -/
def kPutF (Cs : List Addr) (f : Str) (d x : D) (st : S) : Option S := match d with
  | .loc n => match st[n]? with
    | some (.ins C fs) => if C ∈ Cs ∧ fs.length < 1000 then some (st.set n (.ins C (putD f x fs))) else none
    | _ => none
  | _ => none
def sPutF (Cs : List Addr) (f : Str) (mo m : Env → S → R D) : Env → S → R F := fun env st => (m env st).bind fun x st1 => (mo env st1).bind fun d st2 => match kPutF Cs f d x st2 with
  | some st3 => .ok (.nx env) st3
  | none => .stuck
theorem ms_fld {Cs : List Addr} {f : Str} {value : Expr} {pos' : Pos} {mo m : Env → S → R D} (hC : ∀ C ∈ Cs, Cls X.K C ∧ NoAttr X.K C f) (ho : PE X o (tM X.K W mo)) (hv : PE X value (tM X.K W m)) (hs : swapsWith value (some (.Attribute o f pos')) pos.line X.env = pure false := by rfl) :
    PS X (.Assign [.Attribute o f pos'] value pos) (tMS X.K W (sPutF Cs f mo m)) :=
  (ps_fld ho hv hs).imp fun D σ H ⟨ι, env, st, er, r, h⟩ => seqSM er r h fun ι1 H1 v x st1 er1 s1 r1 e1 h1 => seqSM er1 r1 h1 fun ι2 H2 u d st2 er2 s2 r2 e2 h2 => by
    have e1' := e1.stp s2
    split at h2
    · rename_i st3 hp
      unfold kPutF at hp
      split at hp
      · rename_i n
        split at hp
        · rename_i C gs hst
          split at hp
          · rename_i hc
            cases hp
            cases e2 with
            | @loc a n hn =>
              obtain ⟨dx, fs, ha, hs⟩ := r2.obs n a _ hn hst
              refine ⟨a, C, dx, fs, rfl, ha, (hC C hc.1).1, (hC C hc.1).2, by rw [hs.length]; exact hc.2, ?_⟩
              exact h2 ι2 _ σ (chg_stp hn) (r2.chg hn ⟨dx, _, upd_same, (hs.put e1').stp (chg_stp hn)⟩) (er2.stp (chg_stp hn))
          · cases hp
        · cases hp
      · cases hp
    · exact h2.elim
end
end MF
end
section
set_option Elab.async false
set_option linter.all false
set_option maxRecDepth 100000
set_option maxHeartbeats 4000000
/-! MF15: calls with keywords and defaults, new instances, methods. -/
namespace MF
open PySem PySem.Spec PyProof.Rows L2
section
variable {X : Cx} {W : L2.WX} {k n : Nat} {f C : Addr} {fd : FuncData} {ps ks : List Str} {gB : List Value → List Value → List Value} {gV : List V → List V → List V} {gD : List D → List D → List D} {g : List D → S → R D} {x m : Str} {p pos apos : Pos} {e o : Expr} {es : List Expr} {kws : List Keyword} {nm : Option Str} {kpos : Pos}
theorem _root_.L2.PK.imp {kws : List Keyword} {t t' : TA} (h : PK X kws t) (hi : ∀ σ H Q, t' σ H Q → t σ H Q) : PK X kws t' := ⟨fun pos pins s σ H Q I q => h.run pos pins s σ H Q I (hi σ H Q q)⟩
theorem mk_nil : PK X [] (tMA X.K W mNil) := pk_nil.imp fun σ H Q ⟨ι, env, st, er, r, h⟩ => h.ok r .nil
theorem mk_cons {me : Env → S → R D} {ms : Env → S → R (List D)} (ha : PE X e (tM X.K W me)) (hr : PK X kws (tMA X.K W ms)) : PK X (⟨nm, e, kpos⟩ :: kws) (tMA X.K W (mCons me ms)) :=
  (pk_cons ha hr).imp fun σ H Q ⟨ι, env, st, er, r, h⟩ => seqM er r h fun ι1 H1 v d st1 er1 s1 r1 e1 h1 => seqA er1 r1 h1 fun ι2 H2 vs ds st2 er2 s2 r2 e2 h2 => h2.ok r2 (.cons (e1.stp s2) e2)
/-- how data come to the parameters -/
structure Kb (K : PySem.W.Frag) (fd : FuncData) (ps : List Str) (n : Nat) (ks : List Str) (gD : List D → List D → List D) : Prop where
  ex : ∃ (gB : List Value → List Value → List Value) (gV : List V → List V → List V), KBn K fd ps n ks gB gV ∧ ∀ ι H vs zs ds es, DenL K ι H vs ds → DenL K ι H zs es → DenL K ι H (gV vs zs) (gD ds es)
/-- by position alone, nothing else -/
theorem Kb.plain (h : Binds X.K fd ps []) (hn : ps.length = n) : Kb X.K fd ps n [] (fun ds _ => ds) :=
  ⟨fun us _ => us, fun vs _ => vs, ⟨fun s us ws I l1 l2 => by
    have b := h s us I (by rw [List.append_nil, l1, hn])
    rw [List.append_nil] at b
    exact b, fun r _ => r⟩, fun ι H vs zs ds es e _ => e⟩
def kCallK (n m np : Nat) (gD : List D → List D → List D) (g : List D → S → R D) (ds zs : List D) (st : S) : R D := if ds.length = n ∧ zs.length = m then kCall np g (gD ds zs) st else .stuck
def mCallK (n m np : Nat) (gD : List D → List D → List D) (g : List D → S → R D) (ms mk : Env → S → R (List D)) : Env → S → R D := fun env st => (ms env st).bind fun ds st1 => (mk env st1).bind fun zs st2 => kCallK n m np gD g ds zs st2
theorem kCallK_sp {K : PySem.W.Frag} {σ : L2.St} {ι : List Addr} {H : Hp} {st : S} {vs zs : List V} {ds es : List D} {m np : Nat} {Q : VK} (hd : ∀ ι H vs zs ds es, DenL K ι H vs ds → DenL K ι H zs es → DenL K ι H (gV vs zs) (gD ds es)) (r : Rel K ι H st) (e : DenL K ι H vs ds) (e' : DenL K ι H zs es) (h : Post K W (Den K) σ ι H (kCallK n m np gD g ds es st) Q) :
    vs.length = n ∧ zs.length = m ∧ spD K np g (gV vs zs) H Q (WE W σ) := by
  obtain ⟨⟨h1, h2⟩, h3⟩ := h.ite
  exact ⟨e.length.trans h1, e'.length.trans h2, kCall_sp r (hd ι H vs zs ds es e e') h3⟩
theorem run_GK {pins : List (Addr × Obj)} {σ : L2.St} {H : Hp} {s : Shared} {Q : VK} {us ws : List Value} {vs zs : List V} (Fn : FnG X.prog X.w X.K X.mg X.base k f fd ps g) (hr : Room k X.A) (hgd : X.A.guards = some []) (tk : L2N.Takes X W) (hb : KBn X.K fd ps n ks gB gV) (I : Inv X pins σ H s) (rv : Vals vs us) (rz : Vals zs ws)
    (l1 : vs.length = n) (l2 : zs.length = ks.length) (q : spD X.K ps.length g (gV vs zs) H Q (WE W σ)) : wpAny (model X.prog X.w) X.A (call (.ref f) us (ks.zip ws)) (EP X pins σ Q) X.xe s := by
  refine wpAny_call (codeAny_mono (run_G Fn hr hgd tk I (hb.to s us ws I.kIn (rv.length.symm.trans l1) (rz.length.symm.trans l2)) (hb.rel rv rz) q) ?_)
  intro r s' hq
  cases r with
  | error e => exact hq
  | ok fl =>
    cases fl with
    | ret u => exact hq
    | next => exact hq.elim
    | brk => exact hq.elim
    | cont => exact hq.elim
theorem me_callK {ms mk : Env → S → R (List D)} (Fn : FnG X.prog X.w X.K X.mg X.base k f fd ps g) (hr : Room k X.A) (hgd : X.A.guards = some []) (tk : L2N.Takes X W) (hg : Gl X x) (hm : X.mg x = some (.ref f)) (hk : PySem.W.keepIn X.K (.ref f) = true) (hb : Kb X.K fd ps n ks gD)
    (ha : PA X (e :: es) (tMA X.K W ms)) (hkw : PK X kws (tMA X.K W mk)) (hall : (backToKw pos (keywordEach kws X.env)).all (·.1.isSome) = true := by rfl) (hks : (backToKw pos (keywordEach kws X.env)).filterMap (·.1) = ks := by rfl) (hdb : (x == ("__debug__" : Str)) = false := by decide)
    (he : starEach (e :: es) X.env = (false, eval e X.env) :: starEach es X.env := by rfl) (hpl : ((backTo pos (starEach (e :: es) X.env)).any (·.1) || (backToKw pos (keywordEach kws X.env)).any (·.1.isNone)) = false := by rfl) :
    PE X (.Call (.Name x p) (e :: es) kws pos) (tM X.K W (mCallK n ks.length ps.length gD g ms mk)) := by
  obtain ⟨gB, gV, hb, hd⟩ := hb.ex
  constructor
  intro pins s σ H Q I ⟨ι, env, st, er, r, h⟩
  refine wpAny_Call_Name_kw (ld_glob I hg hm ?_ hdb)
  refine PySem.W.callWith_KW (h₀ := X.base) I.ok.mod.kin hk hall (thn (ha.run pos pins s σ H (fun vs H1 => tMA X.K W mk σ H1 fun zs H2 => vs.length = n ∧ zs.length = ks.length ∧ spD X.K ps.length g (gV vs zs) H2 Q (WE W σ)) I ?_) ?_) hpl he
  · exact seqA er r h fun ι1 H1 vs ds st1 er1 s1 r1 e1 h1 => seqA er1 r1 h1 fun ι2 H2 zs es st2 er2 s2 r2 e2 h2 => kCallK_sp hd r2 (e1.stp s2) e2 h2
  · rintro us s1 ⟨vs, H1, I1, rv, q⟩
    refine thn (hkw.run pos pins s1 σ H1 _ I1 q) ?_
    rintro ws s2 ⟨zs, H2, I2, rz, l1, l2, q2⟩
    rw [hks]
    exact ⟨I2.kIn, run_GK Fn hr hgd tk hb I2 rv rz l1 l2 q2⟩
/-- f(k = v, ..) alone -/
theorem me_callK0 {mk : Env → S → R (List D)} (Fn : FnG X.prog X.w X.K X.mg X.base k f fd ps g) (hr : Room k X.A) (hgd : X.A.guards = some []) (tk : L2N.Takes X W) (hg : Gl X x) (hm : X.mg x = some (.ref f)) (hk : PySem.W.keepIn X.K (.ref f) = true) (hb : Kb X.K fd ps 0 ks gD)
    (hkw : PK X kws (tMA X.K W mk)) (hall : (backToKw pos (keywordEach kws X.env)).all (·.1.isSome) = true := by rfl) (hks : (backToKw pos (keywordEach kws X.env)).filterMap (·.1) = ks := by rfl) (hdb : (x == ("__debug__" : Str)) = false := by decide)
    (hpl : ((backTo pos (starEach [] X.env)).any (·.1) || (backToKw pos (keywordEach kws X.env)).any (·.1.isNone)) = false := by rfl) :
    PE X (.Call (.Name x p) [] kws pos) (tM X.K W (mCallK 0 ks.length ps.length gD g mNil mk)) := by
  obtain ⟨gB, gV, hb, hd⟩ := hb.ex
  constructor
  intro pins s σ H Q I ⟨ι, env, st, er, r, h⟩
  refine wpAny_Call_Name_kw (ld_glob I hg hm ?_ hdb)
  refine PySem.W.callWith_KW0 (h₀ := X.base) I.ok.mod.kin hk hall (thn (hkw.run pos pins s σ H (fun zs H2 => zs.length = ks.length ∧ spD X.K ps.length g (gV [] zs) H2 Q (WE W σ)) I ?_) ?_) hpl
  · have h : Post X.K W (Den X.K) σ ι H ((mk env st).bind fun zs st2 => kCallK 0 ks.length ps.length gD g [] zs st2) Q := h
    exact seqA er r h fun ι2 H2 zs es st2 er2 s2 r2 e2 h2 => (kCallK_sp (vs := []) hd r2 .nil e2 h2).2
  · rintro ws s2 ⟨zs, H2, I2, rz, l2, q2⟩
    rw [hks]
    exact ⟨I2.kIn, run_GK (us := []) (vs := []) Fn hr hgd tk hb I2 .nil rz rfl l2 q2⟩
/-! ### new instances -/
theorem make_guards {A : Around} {C : Addr} {us : List Value} {kw : List (Str × Value)} : (A.under (.builtin "type.__call__" ⟨.ref C :: us, kw⟩)).guards = A.guards := by
  first | rfl | simp [Around.under, Code.weight, Code.isCreation, Code.isGuard, Code.isCaller, Code.frames, Code.isFrame, guardIds]
theorem run_makeG {pins : List (Addr × Obj)} {σ : L2.St} {H : Hp} {s : Shared} {Q : VK} {us ws : List Value} {vs zs : List V} (M : Mk X.K C f) (Fn : FnG X.prog X.w X.K X.mg X.base k f fd ps g) (hr : Room (k + 1) X.A) (hgd : X.A.guards = some []) (tk : L2N.Takes X W) (hb : KBn X.K fd ps (n + 1) ks gB gV)
    (I : Inv X pins σ H s) (rv : Vals vs us) (rz : Vals zs ws) (l1 : vs.length = n) (l2 : zs.length = ks.length)
    (h : ∀ a da, H a = none → H da = none → da ≠ a → spD X.K ps.length g (gV (.ref a :: vs) zs) (upd (upd H da (.own a)) a (.ins C da [])) (fun v H2 => v = .non ∧ Q (.ref a) H2) (WE W σ)) :
    wpAny (model X.prog X.w) X.A (call (.ref C) us (ks.zip ws)) (EP X pins σ Q) X.xe s := by
  have q0 := h (s.heap.objs.size + 1) s.heap.objs.size (I.hok.fresh (Nat.le_succ _)) (I.hok.fresh (Nat.le_refl _)) (Nat.ne_of_lt (Nat.lt_succ_self _))
  have J := Inv.made (C := C) I
  have rv1 : Vals (V.ref (s.heap.objs.size + 1) :: vs) (Value.ref (s.heap.objs.size + 1) :: us) := .cons rfl rv
  have n1 : (Value.ref (s.heap.objs.size + 1) :: us).length = n + 1 := by rw [List.length_cons, ← rv.length, l1]
  refine wpAny_call (make_map (f := f) I.kIn M.makes M.init (beq_iff_eq.mp M.fn) (codeAny_mono (Fn.go _ X.stack _ _ ⟨_, ks.zip ws⟩ (gB (Value.ref (s.heap.objs.size + 1) :: us) ws) _ _ (WE W σ) (hr.make C us (ks.zip ws)) (make_guards.trans hgd)
    (J.env0.make C us (ks.zip ws)) (hb.to _ _ ws J.kIn n1 (rz.length.symm.trans l2)) (hb.rel rv1 rz) q0) ?_))
  intro r s' hq
  cases r with
  | error e => exact L2N.passAt tk σ pins _ _ e s' J hq
  | ok fl =>
    cases fl with
    | ret u =>
      obtain ⟨v, H3, J3, rv3, ev, q3⟩ := J.after hq
      subst ev
      exact ⟨rv3, V.ref (s.heap.objs.size + 1), H3, J3, rfl, q3⟩
    | next => exact hq.elim
    | brk => exact hq.elim
    | cont => exact hq.elim
/-- C(e, .., k = v, ..): a new instance that may change; what it holds is told by the store behind -/
def kMakeK (C : Addr) (n m np : Nat) (gD : List D → List D → List D) (g : List D → S → R D) (ds zs : List D) (st : S) : R D := if ds.length = n ∧ zs.length = m then (kCall np g (gD (.loc st.length :: ds) zs) (st ++ [.ins C []])).bind fun d st1 => match d with
    | .non => .ok (.loc st.length) st1
    | _ => .stuck
  else .stuck
theorem kMakeK_sp {K : PySem.W.Frag} {σ : L2.St} {ι : List Addr} {H : Hp} {st : S} {vs zs : List V} {ds es : List D} {m np : Nat} {Q : VK} (hd : ∀ ι H vs zs ds es, DenL K ι H vs ds → DenL K ι H zs es → DenL K ι H (gV vs zs) (gD ds es)) (r : Rel K ι H st) (e : DenL K ι H vs ds) (e' : DenL K ι H zs es) (h : Post K W (Den K) σ ι H (kMakeK C n m np gD g ds es st) Q) :
    vs.length = n ∧ zs.length = m ∧ ∀ a da, H a = none → H da = none → da ≠ a → spD K np g (gV (.ref a :: vs) zs) (upd (upd H da (.own a)) a (.ins C da [])) (fun v H2 => v = .non ∧ Q (.ref a) H2) (WE W σ) := by
  obtain ⟨⟨h1, h2⟩, h3⟩ := h.ite
  refine ⟨e.length.trans h1, e'.length.trans h2, fun a da na nda hne => ?_⟩
  have s1 : Stp ι H ι (upd H da (.own a)) := new_stp nda
  have r1 := r.new (o := .own a) nda
  have na1 : upd H da (.own a) a = none := by rw [upd_ne (Ne.symm hne)]; exact na
  have s2 : Stp ι (upd H da (.own a)) (ι ++ [a]) (upd (upd H da (.own a)) a (.ins C da [])) := newl_stp r1 na1
  have r2 := r1.newl (p := a) (o := .ins C da []) na1 (ob := .ins C []) ⟨da, [], upd_same, .nil⟩
  have s12 := s1.trans s2
  have eD : DenL K (ι ++ [a]) (upd (upd H da (.own a)) a (.ins C da [])) (gV (.ref a :: vs) zs) (gD (.loc st.length :: ds) es) := hd _ _ _ _ _ _ (.cons (.loc (by rw [← r.len, List.getElem?_append_right (Nat.le_refl _), Nat.sub_self]; rfl)) (e.stp s12)) (e'.stp s12)
  refine kCall_sp r2 eD ?_
  have h4 := Post.step s12 h3
  refine (Post.bind (ρ := Den K) h4).mono ?_
  rintro v H3 ⟨ι3, d, st3, s3, r3, e3, h5⟩
  cases e3 with
  | non =>
    refine ⟨rfl, h5 ι3 H3 _ .refl r3 (.loc ?_)⟩
    exact s3.get (by rw [← r.len, List.getElem?_append_right (Nat.le_refl _), Nat.sub_self]; rfl)
  | _ => exact h5.elim
def mMakeK (C : Addr) (n m np : Nat) (gD : List D → List D → List D) (g : List D → S → R D) (ms mk : Env → S → R (List D)) : Env → S → R D := fun env st => (ms env st).bind fun ds st1 => (mk env st1).bind fun zs st2 => kMakeK C n m np gD g ds zs st2
theorem me_makeK {ms mk : Env → S → R (List D)} (M : Mk X.K C f) (Fn : FnG X.prog X.w X.K X.mg X.base k f fd ps g) (hr : Room (k + 1) X.A) (hgd : X.A.guards = some []) (tk : L2N.Takes X W) (hg : Gl X x) (hm : X.mg x = some (.ref C)) (hb : Kb X.K fd ps (n + 1) ks gD)
    (ha : PA X (e :: es) (tMA X.K W ms)) (hkw : PK X kws (tMA X.K W mk)) (hall : (backToKw pos (keywordEach kws X.env)).all (·.1.isSome) = true := by rfl) (hks : (backToKw pos (keywordEach kws X.env)).filterMap (·.1) = ks := by rfl) (hdb : (x == ("__debug__" : Str)) = false := by decide)
    (he : starEach (e :: es) X.env = (false, eval e X.env) :: starEach es X.env := by rfl) (hpl : ((backTo pos (starEach (e :: es) X.env)).any (·.1) || (backToKw pos (keywordEach kws X.env)).any (·.1.isNone)) = false := by rfl) :
    PE X (.Call (.Name x p) (e :: es) kws pos) (tM X.K W (mMakeK C n ks.length ps.length gD g ms mk)) := by
  obtain ⟨gB, gV, hb, hd⟩ := hb.ex
  constructor
  intro pins s σ H Q I ⟨ι, env, st, er, r, h⟩
  refine wpAny_Call_Name_kw (ld_glob I hg hm ?_ hdb)
  refine PySem.W.callWith_KW (h₀ := X.base) I.ok.mod.kin M.kp hall (thn (ha.run pos pins s σ H (fun vs H1 => tMA X.K W mk σ H1 fun zs H2 => vs.length = n ∧ zs.length = ks.length ∧ ∀ a da, H2 a = none → H2 da = none → da ≠ a → spD X.K ps.length g (gV (.ref a :: vs) zs) (upd (upd H2 da (.own a)) a (.ins C da [])) (fun v H3 => v = .non ∧ Q (.ref a) H3) (WE W σ)) I ?_) ?_) hpl he
  · exact seqA er r h fun ι1 H1 vs ds st1 er1 s1 r1 e1 h1 => seqA er1 r1 h1 fun ι2 H2 zs es st2 er2 s2 r2 e2 h2 => kMakeK_sp hd r2 (e1.stp s2) e2 h2
  · rintro us s1 ⟨vs, H1, I1, rv, q⟩
    refine thn (hkw.run pos pins s1 σ H1 _ I1 q) ?_
    rintro ws s2 ⟨zs, H2, I2, rz, l1, l2, q2⟩
    rw [hks]
    exact ⟨I2.kIn, run_makeG M Fn hr hgd tk hb I2 rv rz l1 l2 q2⟩
theorem me_makeK0 {mk : Env → S → R (List D)} (M : Mk X.K C f) (Fn : FnG X.prog X.w X.K X.mg X.base k f fd ps g) (hr : Room (k + 1) X.A) (hgd : X.A.guards = some []) (tk : L2N.Takes X W) (hg : Gl X x) (hm : X.mg x = some (.ref C)) (hb : Kb X.K fd ps 1 ks gD)
    (hkw : PK X kws (tMA X.K W mk)) (hall : (backToKw pos (keywordEach kws X.env)).all (·.1.isSome) = true := by rfl) (hks : (backToKw pos (keywordEach kws X.env)).filterMap (·.1) = ks := by rfl) (hdb : (x == ("__debug__" : Str)) = false := by decide)
    (hpl : ((backTo pos (starEach [] X.env)).any (·.1) || (backToKw pos (keywordEach kws X.env)).any (·.1.isNone)) = false := by rfl) :
    PE X (.Call (.Name x p) [] kws pos) (tM X.K W (mMakeK C 0 ks.length ps.length gD g mNil mk)) := by
  obtain ⟨gB, gV, hb, hd⟩ := hb.ex
  constructor
  intro pins s σ H Q I ⟨ι, env, st, er, r, h⟩
  refine wpAny_Call_Name_kw (ld_glob I hg hm ?_ hdb)
  refine PySem.W.callWith_KW0 (h₀ := X.base) I.ok.mod.kin M.kp hall (thn (hkw.run pos pins s σ H (fun zs H2 => zs.length = ks.length ∧ ∀ a da, H2 a = none → H2 da = none → da ≠ a → spD X.K ps.length g (gV [.ref a] zs) (upd (upd H2 da (.own a)) a (.ins C da [])) (fun v H3 => v = .non ∧ Q (.ref a) H3) (WE W σ)) I ?_) ?_) hpl
  · have h : Post X.K W (Den X.K) σ ι H ((mk env st).bind fun zs st2 => kMakeK C 0 ks.length ps.length gD g [] zs st2) Q := h
    exact seqA er r h fun ι2 H2 zs es st2 er2 s2 r2 e2 h2 => (kMakeK_sp (vs := []) hd r2 .nil e2 h2).2
  · rintro ws s2 ⟨zs, H2, I2, rz, l2, q2⟩
    rw [hks]
    exact ⟨I2.kIn, run_makeG (us := []) (vs := []) M Fn hr hgd tk hb I2 .nil rz rfl l2 q2⟩
/-- the new instance is not changed any more: it is told by what it holds, the objects behind it dropped -/
def mFin (m : Env → S → R D) : Env → S → R D := fun env st => (m env st).bind fun d st1 => fin st.length d st1
theorem me_fin {m : Env → S → R D} (he : PE X e (tM X.K W m)) : PE X e (tM X.K W (mFin m)) := he.imp fun σ H Q ⟨ι, env, st, er, r, h⟩ => by
  refine ⟨ι, env, st, er, r, ?_⟩
  unfold mFin at h
  revert h
  cases m env st with
  | ok d st1 => exact fun h ι1 H1 v s1 r1 e1 => post_fin (Q := Q) s1 r1 e1 (by rw [r.len]; exact h)
  | ex c f p st1 => exact fun h => h
  | stuck => exact fun h => h
/-! ### methods -/
/-- o.m(e, ..) of the class C -/
def mMethK (C : Addr) (name : Str) (n np : Nat) (gD : List D → List D → List D) (g : List D → S → R D) (mo : Env → S → R D) (ms : Env → S → R (List D)) : Env → S → R D := fun env st => (mo env st).bind fun d st1 => match insOf st1 d with
  | some (C', fs) => if C' = C ∧ fs.lookup name = none then (ms env st1).bind fun ds st2 => if ds.length = n then kCall np g (gD (d :: ds) []) st2 else .stuck
    else .stuck
  | none => .stuck
theorem DenF.lookupN {K : PySem.W.Frag} {ι : List Addr} {H : Hp} {f : Str} : ∀ {vs : List (Str × V)} {ds : List (Str × D)}, DenF K ι H vs ds → ds.lookup f = none → vs.lookup f = none
  | _, _, .nil, _ => rfl
  | _, _, .cons (f := q) h hs, e => by
    rw [List.lookup_cons] at e ⊢
    split at e
    · cases e
    · exact DenF.lookupN hs e
theorem me_methK {pl : Sem Bool} {mo : Env → S → R D} {ms : Env → S → R (List D)} (c : Cls X.K C) (hm : Meth X.K C m f) (Fn : FnG X.prog X.w X.K X.mg X.base k f fd ps g) (hr : Room k X.A) (hgd : X.A.guards = some []) (tk : L2N.Takes X W) (hb : Kb X.K fd ps (n + 1) [] gD)
    (ho : PE X o (tM X.K W mo)) (ha : PA X (e :: es) (tMA X.K W ms)) (hst : starEach (e :: es) X.env = (false, eval e X.env) :: starEach es X.env := by rfl) (hpl : (backTo pos (starEach es X.env)).any (·.1) = false := by rfl)
    (ht : eval (.Call (.Attribute o m apos) (e :: es) [] pos) X.env = (do
      let self ← eval o X.env
      standAt apos.atName
      let (fn, fst) ← holding [self] (getMethod self m pl)
      callWith pos fn fst (backTo pos (starEach (e :: es) X.env)) (backToKw pos (keywordEach [] X.env))) := by rfl) :
    PE X (.Call (.Attribute o m apos) (e :: es) [] pos) (tM X.K W (mMethK C m n ps.length gD g mo ms)) := by
  obtain ⟨gB, gV, hb, hd⟩ := hb.ex
  constructor
  intro pins s σ H Q I ⟨ι, env, st, er, r, h⟩
  refine PySem.W.methodCall_KW (pl := pl) (thn (ho.run pins s σ H (fun x H1 => ∃ a da fs, x = .ref a ∧ H1 a = some (.ins C da fs) ∧ fs.lookup m = none ∧ tMA X.K W ms σ H1 fun vs H2 => vs.length = n ∧ spD X.K ps.length g (gV (x :: vs) []) H2 Q (WE W σ)) I ?_) ?_) ht
  · refine seqM er r h fun ι1 H1 v d st1 er1 s1 r1 e1 h1 => ?_
    split at h1
    · rename_i C' gs hi
      obtain ⟨⟨hc, hl⟩, h9⟩ := h1.ite
      subst hc
      obtain ⟨a, da, fs, ev, ha', hs⟩ := insOf_den r1 e1 hi
      refine ⟨a, da, fs, ev, ha', hs.lookupN hl, seqA er1 r1 h9 fun ι2 H2 vs ds st2 er2 s2 r2 e2 h2 => ?_⟩
      obtain ⟨hn, h2⟩ := h2.ite
      exact ⟨e2.length.trans hn, kCall_sp r2 (hd ι2 H2 (v :: vs) [] (d :: ds) [] (.cons (e1.stp s2) e2) .nil) h2⟩
    · exact h1.elim
  · rintro u s1 ⟨x, H1, I1, rx, a, da, fs, ex, ea, l, q⟩
    subst ex
    obtain rfl : u = Value.ref a := rx
    refine getmeth_ok I1 ea c hm l ?_
    refine PySem.W.callWith_K (first := [.ref a]) (h₀ := X.base) I1.ok.mod.kin hm.kp (thn (ha.run pos pins s1 σ H1 _ I1 q) ?_) hst hpl
    rintro us s2 ⟨vs, H2, I2, rv, hn, q2⟩
    exact ⟨I2.kIn, run_GK (ks := []) (us := .ref a :: us) (ws := []) (vs := .ref a :: vs) (zs := []) Fn hr hgd tk hb I2 (.cons rfl rv) .nil (congrArg Nat.succ hn) rfl q2⟩
end
end MF
end
section
set_option Elab.async false
set_option linter.all false
set_option maxRecDepth 100000
set_option maxHeartbeats 4000000
/-! MX1: own exception classes over any built-in one: made, a field stored. -/
namespace PySem
namespace MX
open PySem.W PySem.Calls PyProof.Rows PySem.HandSPX
open Builtin Builtin.ObjectAttr
/-- what the mro behind the class itself must say -/
structure Bm (bm : List Value) (newId : String) : Prop where
  ex : ∃ (B initId : String) (bmB : List Value), ExcBaseFacts B newId initId bmB ∧ bm.contains (.type B) = true
  hA : bm.contains (.type "AttributeError") = false
  hN : bm.contains (.type "NameError") = false
  ob : bm.contains (.type "object") = true
  ps : ∀ self : Value, refuseLoop self "__setattr__" bm = pure ()
abbrev keTail : List Value := [.type "KeyError", .type "LookupError", .type "Exception", .type "BaseException", .type "object"]
theorem passKE (self : Value) : refuseLoop self "__setattr__" keTail = pure () := by kernel_rfl
theorem Bm.ke : Bm keTail "LookupError.__new__" := ⟨⟨_, _, _, F.excBase_LookupError, by decide +kernel⟩, by decide +kernel, by decide +kernel, by decide +kernel, passKE⟩
theorem Bm.ve : Bm veTail "ValueError.__new__" := ⟨⟨_, _, _, F.excBase_ValueError, by decide +kernel⟩, by decide +kernel, by decide +kernel, by decide +kernel, F.store_ValueError.passes⟩
theorem cont_ref {c : Addr} {l : List Value} {x : String} : (Value.ref c :: l).contains (.type x) = l.contains (.type x) := by
  rw [List.contains_cons]
  rfl
theorem Bm.ref {bm : List Value} {newId : String} (h : Bm bm newId) (c : Addr) : Bm (.ref c :: bm) newId := by
  obtain ⟨B, i, l, F, hB⟩ := h.ex
  exact ⟨⟨B, i, l, F, cont_ref.trans hB⟩, cont_ref.trans h.hA, cont_ref.trans h.hN, cont_ref.trans h.ob, fun self => (refuseLoop_ref _ _ _ _).trans (h.ps self)⟩
section
variable {M : Model} {prog : Program} {w : World} {A : Around} {E : Value → Shared → Prop} {R : Result → Shared → Prop} {h : Heap} {g : Array GenState} {d : Drawn} {t : Nat} {os : OsState}
variable {nm q : Str} {C N : Addr} {bs bm bmB : List Value} {hdct : Bool} {sn : List Str} {sub : List Value} {ab : Bool} {col : Option Bool} {dd : Option Addr} {k0 k1 k2 k3 k5 : Option Value} {B newId initId : String}
theorem newCheck (G : ExcBaseFacts B newId initId bmB) (hB : bm.contains (.type B) = true) {rest : List Value} {Q : Unit → Shared → Prop}
    (hC : h.get? C = some (excClassObj nm q C N bs bm hdct sn sub ab col dd k0 k1 k2 k3 k5 newId)) (hq : Q () ⟨h, g, d, t, os⟩) : wpAny M A (checkBuiltinCall newId ⟨.ref C :: rest, []⟩) Q E ⟨h, g, d, t, os⟩ := by
  have y1 : (Value.ref C :: bm).contains (.type B) = true := cont_ref.trans hB
  have y2 := G.noStar
  simp only [checkBuiltinCall, G.newKind, G.newSplit, G.newRow]
  repeat (first | refine wpAny_loadPart_at hC ?_ | (refine wpAny_isSubtype_exc hC ?_; rw [y1]) | refine wpAny_staticBase_exc hC ?_ | refine wpAny_madeBy_exc hC ?_ | simp only [bne_self_eq_false, Bool.false_eq_true, if_false] | wp_step)
  exact hq
theorem newOwn (G : ExcBaseFacts B newId initId bmB) (hB : bm.contains (.type B) = true) (hA : bm.contains (.type "AttributeError") = false) (hN : bm.contains (.type "NameError") = false) {rest : List Value}
    (hC : h.get? C = some (excClassObj nm q C N bs bm hdct sn sub ab col dd k0 k1 k2 k3 k5 newId))
    (hq : R (.ok (.ret (.ref (h.objs.size + 1)))) ⟨(h.push { cls := .type "tuple", data := .seq rest.toArray }).push (excO C h.objs.size), g, d, t, os⟩) (hl : rest.length ≤ sizeLine) :
    codeAny (model prog w) A (.builtin newId ⟨.ref C :: rest, []⟩) R ⟨h, g, d, t, os⟩ := by
  have y0 := G.ends
  have y1 : (Value.ref C :: bm).contains (.type B) = true := cont_ref.trans hB
  have y2 : (Value.ref C :: bm).contains (.type "AttributeError") = false := cont_ref.trans hA
  have y3 : (Value.ref C :: bm).contains (.type "NameError") = false := cont_ref.trans hN
  refine codeAny_builtinAt G.entry ?_
  unfold Builtin.«BaseException.__new__»
  refine wpAt_bind ?_
  show wpAt _ _ _ (stack >>= _) _ _ _
  refine wpAt_bind (wpAt_stack fun _ _ => wpAt_of_wpAny ?_)
  wp_walk
  refine wpAt_of_wpAny ?_
  rw [G.owner]
  repeat (first | with_reducible refine wpAny_madeHere_exc G.canon hC ?_ | with_reducible refine wpAny_loadPart_at hC ?_ | (with_reducible refine wpAny_isSubtype_exc hC ?_; first | rw [y1] | rw [y2] | rw [y3]) | wp_step)
  show R _ _
  rw [Heap.size_push]
  exact hq
theorem typeCall (G : ExcBaseFacts B newId initId bmB) (hB : bm.contains (.type B) = true) (hA : bm.contains (.type "AttributeError") = false) (hN : bm.contains (.type "NameError") = false) {rest : List Value} {kw : List (Str × Value)} {fI : Addr} {Q : Fin → Shared → Prop}
    (hC : h.get? C = some (excClassObj nm q C N bs bm hdct sn sub ab col dd k0 k1 k2 k3 k5 newId))
    (hi : W.Looks (model prog w) h (typeLookup (.ref C) "__init__") (some (.ref fI))) (hb : ∀ self, W.Looks (model prog w) h (bindSpecial (.ref fI) self) (.ref fI, [self])) (hl : rest.length ≤ sizeLine)
    (hq : codeAny (model prog w) A (.call (.ref fI) ⟨.ref (h.objs.size + 1) :: rest, []⟩)
      (fun r s' => match r with | .ok (.ret v) => v = .none ∧ Q (.done (.ret (.ref (h.objs.size + 1)))) s' | .ok _ => False | .error e => E e s')
      ⟨(h.push (W.kdv_tup rest)).push (excO C h.objs.size), g, d, t, os⟩) :
    wpAny (model prog w) A (Builtin.«type.__call__» ⟨.ref C :: rest, []⟩) Q E ⟨h, g, d, t, os⟩ := by
  repeat (first | with_reducible refine wpAny_loadPart_at hC ?_ | with_reducible refine wpAny_madeBy_exc hC ?_ | wp_step)
  refine codeAny_call_builtin_code (Code.quiet_builtin _ G.quiet) (newCheck G hB hC ?_)
  refine newOwn G hB hA hN hC ?_ hl
  show wpAny _ _ _ _ _ _
  have kp : ∀ b o, h.get? b = some o → ((h.push (W.kdv_tup rest)).push (excO C h.objs.size)).get? b = some o := fun b o e => Heap.get?_push_of_some _ (Heap.get?_push_of_some _ e)
  have c1 := kp _ _ hC
  have g1 : ((h.push (W.kdv_tup rest)).push (excO C h.objs.size)).get? (h.objs.size + 1) = some (excO C h.objs.size) := by heap_get
  have c2 : (Value.ref C :: bm).contains (.ref C) = true := by simp
  have i1 := hi.keeps kp
  have b1 := (hb (.ref (h.objs.size + 1))).keeps kp
  unfold isInstance
  repeat (first | with_reducible refine wpAny_loadPart_at g1 ?_ | (with_reducible refine wpAny_isSubtype_exc c1 ?_; rw [c2]) | wp_step)
  show wpAny _ _ (typeLookup (.ref C) _) _ _ _
  refine i1.at (wpAny_holding (wpAny_bind (b1.at ?_)))
  refine wpAny_bind (wpAny_call (codeAny_mono hq ?_))
  intro r s' z
  rcases r with e | (v | _ | _ | _) <;> first | exact z | exact z.elim | skip
  obtain ⟨rfl, z⟩ := z
  first
    | exact wpAny_pure (wpAny_pure z)
    | (wp_walk; exact z)
theorem callOwn (H : Bm bm newId) {rest : List Value} {fI : Addr}
    (hC : h.get? C = some (excClassObj nm q C N bs bm hdct sn sub ab col dd k0 k1 k2 k3 k5 newId))
    (hi : W.Looks (model prog w) h (typeLookup (.ref C) "__init__") (some (.ref fI))) (hb : ∀ self, W.Looks (model prog w) h (bindSpecial (.ref fI) self) (.ref fI, [self])) (hl : rest.length ≤ sizeLine)
    (hq : codeAny (model prog w) (A.under (.builtin "type.__call__" ⟨.ref C :: rest, []⟩)) (.call (.ref fI) ⟨.ref (h.objs.size + 1) :: rest, []⟩) (W.InitBack (h.objs.size + 1) R)
      ⟨(h.push (W.kdv_tup rest)).push (excO C h.objs.size), g, d, t, os⟩) :
    codeAny (model prog w) A (.call (.ref C) ⟨rest, []⟩) R ⟨h, g, d, t, os⟩ := by
  obtain ⟨B, i, l, G, hB⟩ := H.ex
  have f1 := tc_lookup
  have f2 := tc_bind (.ref C)
  have ty : (⟨h, g, d, t, os⟩ : Shared).TypeIs (.ref C) "type" := ⟨_, hC, rfl⟩
  refine codeAny_of_tree ?_
  show wpAny _ _ (callAny (.ref C) _) _ _ _
  repeat (any_goals (first | assumption | with_reducible refine wpAny_loadPart_at hC ?_ | wp_step))
  refine ⟨rfl, codeAny_call_builtin_at (Code.quiet_builtin _ (by decide +kernel)) entry_typeCall (wpAny_check_type_call_sub hC (typeCall (kw := []) G hB H.hA H.hN hC hi hb hl ?_))⟩
  refine codeAny_mono hq ?_
  intro r s' z
  rcases r with e | (v | _ | _ | _) <;> exact z
end
end MX
end PySem
end
section
set_option Elab.async false
set_option linter.all false
set_option maxRecDepth 100000
set_option maxHeartbeats 4000000
/-! MX2: the same made by one keyword. -/
namespace PySem
namespace MX
open PySem.W PySem.Calls PyProof.Rows PySem.HandSPX
open Builtin Builtin.ObjectAttr
section
variable {M : Model} {prog : Program} {w : World} {A : Around} {E : Value → Shared → Prop} {R : Result → Shared → Prop} {h : Heap} {g : Array GenState} {d : Drawn} {t : Nat} {os : OsState}
variable {nm q : Str} {C N : Addr} {bs bm bmB : List Value} {hdct : Bool} {sn : List Str} {sub : List Value} {ab : Bool} {col : Option Bool} {dd : Option Addr} {k0 k1 k2 k3 k5 : Option Value} {B newId initId : String}
theorem newCheckK (G : ExcBaseFacts B newId initId bmB) (hB : bm.contains (.type B) = true) {kn : Str} {kv : Value} {Q : Unit → Shared → Prop}
    (hC : h.get? C = some (excClassObj nm q C N bs bm hdct sn sub ab col dd k0 k1 k2 k3 k5 newId)) (hq : Q () ⟨h, g, d, t, os⟩) : wpAny M A (checkBuiltinCall newId ⟨[.ref C], [(kn, kv)]⟩) Q E ⟨h, g, d, t, os⟩ := by
  have y1 : (Value.ref C :: bm).contains (.type B) = true := cont_ref.trans hB
  have y2 := G.noStar
  simp only [checkBuiltinCall, G.newKind, G.newSplit, G.newRow]
  repeat (first | refine wpAny_loadPart_at hC ?_ | (refine wpAny_isSubtype_exc hC ?_; rw [y1]) | refine wpAny_staticBase_exc hC ?_ | refine wpAny_madeBy_exc hC ?_ | simp only [bne_self_eq_false, Bool.false_eq_true, if_false] | wp_step)
  exact hq
theorem newOwnK (G : ExcBaseFacts B newId initId bmB) (hB : bm.contains (.type B) = true) (hA : bm.contains (.type "AttributeError") = false) (hN : bm.contains (.type "NameError") = false) {kn : Str} {kv : Value}
    (hC : h.get? C = some (excClassObj nm q C N bs bm hdct sn sub ab col dd k0 k1 k2 k3 k5 newId))
    (hq : R (.ok (.ret (.ref (h.objs.size + 1)))) ⟨(h.push { cls := .type "tuple", data := .seq #[] }).push (excO C h.objs.size), g, d, t, os⟩) :
    codeAny (model prog w) A (.builtin newId ⟨[.ref C], [(kn, kv)]⟩) R ⟨h, g, d, t, os⟩ := by
  have y0 := G.ends
  have y1 : (Value.ref C :: bm).contains (.type B) = true := cont_ref.trans hB
  have y2 : (Value.ref C :: bm).contains (.type "AttributeError") = false := cont_ref.trans hA
  have y3 : (Value.ref C :: bm).contains (.type "NameError") = false := cont_ref.trans hN
  refine codeAny_builtinAt G.entry ?_
  unfold Builtin.«BaseException.__new__»
  refine wpAt_bind ?_
  show wpAt _ _ _ (stack >>= _) _ _ _
  refine wpAt_bind (wpAt_stack fun _ _ => wpAt_of_wpAny ?_)
  wp_walk
  refine wpAt_of_wpAny ?_
  rw [G.owner]
  repeat (first | with_reducible refine wpAny_madeHere_exc G.canon hC ?_ | with_reducible refine wpAny_loadPart_at hC ?_ | (with_reducible refine wpAny_isSubtype_exc hC ?_; first | rw [y1] | rw [y2] | rw [y3]) | wp_step)
  show R _ _
  rw [Heap.size_push]
  exact hq
theorem typeCallK (G : ExcBaseFacts B newId initId bmB) (hB : bm.contains (.type B) = true) (hA : bm.contains (.type "AttributeError") = false) (hN : bm.contains (.type "NameError") = false) {kn : Str} {kv : Value} {fI : Addr} {Q : Fin → Shared → Prop}
    (hC : h.get? C = some (excClassObj nm q C N bs bm hdct sn sub ab col dd k0 k1 k2 k3 k5 newId))
    (hi : W.Looks (model prog w) h (typeLookup (.ref C) "__init__") (some (.ref fI))) (hb : ∀ self, W.Looks (model prog w) h (bindSpecial (.ref fI) self) (.ref fI, [self]))
    (hq : codeAny (model prog w) A (.call (.ref fI) ⟨[.ref (h.objs.size + 1)], [(kn, kv)]⟩)
      (fun r s' => match r with | .ok (.ret v) => v = .none ∧ Q (.done (.ret (.ref (h.objs.size + 1)))) s' | .ok _ => False | .error e => E e s')
      ⟨(h.push (W.kdv_tup [])).push (excO C h.objs.size), g, d, t, os⟩) :
    wpAny (model prog w) A (Builtin.«type.__call__» ⟨[.ref C], [(kn, kv)]⟩) Q E ⟨h, g, d, t, os⟩ := by
  repeat (first | with_reducible refine wpAny_loadPart_at hC ?_ | with_reducible refine wpAny_madeBy_exc hC ?_ | wp_step)
  refine codeAny_call_builtin_code (Code.quiet_builtin _ G.quiet) (newCheckK G hB hC ?_)
  refine newOwnK G hB hA hN hC ?_
  show wpAny _ _ _ _ _ _
  have kp : ∀ b o, h.get? b = some o → ((h.push (W.kdv_tup [])).push (excO C h.objs.size)).get? b = some o := fun b o e => Heap.get?_push_of_some _ (Heap.get?_push_of_some _ e)
  have c1 := kp _ _ hC
  have g1 : ((h.push (W.kdv_tup [])).push (excO C h.objs.size)).get? (h.objs.size + 1) = some (excO C h.objs.size) := by heap_get
  have c2 : (Value.ref C :: bm).contains (.ref C) = true := by simp
  have i1 := hi.keeps kp
  have b1 := (hb (.ref (h.objs.size + 1))).keeps kp
  unfold isInstance
  repeat (first | with_reducible refine wpAny_loadPart_at g1 ?_ | (with_reducible refine wpAny_isSubtype_exc c1 ?_; rw [c2]) | wp_step)
  show wpAny _ _ (typeLookup (.ref C) _) _ _ _
  refine i1.at (wpAny_holding (wpAny_bind (b1.at ?_)))
  refine wpAny_bind (wpAny_call (codeAny_mono hq ?_))
  intro r s' z
  rcases r with e | (v | _ | _ | _) <;> first | exact z | exact z.elim | skip
  obtain ⟨rfl, z⟩ := z
  first
    | exact wpAny_pure (wpAny_pure z)
    | (wp_walk; exact z)
theorem callOwnK (H : Bm bm newId) {kn : Str} {kv : Value} {fI : Addr}
    (hC : h.get? C = some (excClassObj nm q C N bs bm hdct sn sub ab col dd k0 k1 k2 k3 k5 newId))
    (hi : W.Looks (model prog w) h (typeLookup (.ref C) "__init__") (some (.ref fI))) (hb : ∀ self, W.Looks (model prog w) h (bindSpecial (.ref fI) self) (.ref fI, [self]))
    (hq : codeAny (model prog w) (A.under (.builtin "type.__call__" ⟨[.ref C], [(kn, kv)]⟩)) (.call (.ref fI) ⟨[.ref (h.objs.size + 1)], [(kn, kv)]⟩) (W.InitBack (h.objs.size + 1) R)
      ⟨(h.push (W.kdv_tup [])).push (excO C h.objs.size), g, d, t, os⟩) :
    codeAny (model prog w) A (.call (.ref C) ⟨[], [(kn, kv)]⟩) R ⟨h, g, d, t, os⟩ := by
  obtain ⟨B, i, l, G, hB⟩ := H.ex
  have f1 := tc_lookup
  have f2 := tc_bind (.ref C)
  have ty : (⟨h, g, d, t, os⟩ : Shared).TypeIs (.ref C) "type" := ⟨_, hC, rfl⟩
  refine codeAny_of_tree ?_
  show wpAny _ _ (callAny (.ref C) _) _ _ _
  repeat (any_goals (first | assumption | with_reducible refine wpAny_loadPart_at hC ?_ | wp_step))
  refine ⟨rfl, codeAny_call_builtin_at (Code.quiet_builtin _ (by decide +kernel)) entry_typeCall (wpAny_check_type_call_sub hC (typeCallK G hB H.hA H.hN hC hi hb ?_))⟩
  refine codeAny_mono hq ?_
  intro r s' z
  rcases r with e | (v | _ | _ | _) <;> exact z
end
end MX
end PySem
end
section
set_option Elab.async false
set_option linter.all false
set_option maxRecDepth 100000
set_option maxHeartbeats 4000000
/-! MX3: the first field of such an exception; its __init__. -/
namespace PySem
namespace MX
open PySem.W PySem.Calls PyProof.Rows PySem.HandSPX
open Builtin Builtin.ObjectAttr
section
variable {prog : Program} {w : World} {A : Around} {E : Value → Shared → Prop} {R : Result → Shared → Prop} {hp : Heap} {g : Array GenState} {d : Drawn} {t : Nat} {os : OsState}
theorem osaNew {K : W.Frag} {name : Str} {tk : Tok} {v : Value} {x C : Addr} {fv : Array Value} {cd : ClassData}
    (X : K.In hp) (hx : hp.get? x = some { cls := .ref C, data := .fields fv }) (hcd : W.clsIn K C = some cd) (ne : cd.mro.isEmpty = false) (hob : cd.mro.contains (.type "object") = true) (hps : ∀ self : Value, refuseLoop self "__setattr__" cd.mro = pure ()) (hh : cd.hasDict = true)
    (ha : W.findIn K (.ref C) name = some none)
    (hq : ∀ h' tk' dx, (∀ b o, b ≠ x → hp.get? b = some o → h'.get? b = some o) → hp.objs.size ≤ dx → dx ≠ x → h'.get? x = some { cls := .ref C, dict := some dx, data := .fields fv } →
      h'.Ns1 dx (fun y => if y = name then some v else none) → R (.ok (.ret .none)) ⟨h', g, d, tk', os⟩) :
    codeAny (model prog w) A (.call (.builtin "object.__setattr__") ⟨[.ref x, .str name tk, v], []⟩) R ⟨hp, g, d, t, os⟩ := by
  have J : W.InstAt hp x { cls := .ref C, data := .fields fv } C none := ⟨hx, rfl, rfl, trivial⟩
  have T := F.store_object
  have xs : x ≠ hp.objs.size := Nat.ne_of_lt (Heap.lt_size hx)
  have so : W.Looks (model prog w) hp (isInstance (.ref x) (.type "object")) true := J.type.andThen (W.looks_mroIn X (by unfold W.mroIn; rw [hcd, Option.bind_some, if_neg (by rw [ne]; decide), hob]))
  refine codeAny_call_builtin T.slot.plain T.entry (@W.check_slot (model prog w) _ _ ⟨hp, g, d, t, os⟩ "object.__setattr__" "object" "__setattr__" (.ref x) [.str name tk, v] [] _ T.kind T.split so (T.args (.ref x) (.str name tk) v) ?_)
  have L1 : W.Looks (model prog w) hp (mroOf (.ref C)) cd.mro := (W.looks_clsIn X hcd).andThen .now
  have L2 : W.Looks (model prog w) hp (storeTaker? none) none := .now
  have L3 : W.Looks (model prog w) hp (classData C) cd := W.looks_clsIn X hcd
  rw [W.osa_eq, refuse_eq]
  refine wpAny_bind (wpAny_bind (J.type.at (wpAny_bind (L1.at ?_))))
  rw [hps]
  refine wpAny_pure (wpAny_bind (J.type.at (wpAny_bind ((W.looks_findIn X ha).at (wpAny_bind (L2.at ?_))))))
  show wpAny _ _ (storeInOwnDict (.ref x) (.ref C) (.str name tk) name v false) _ _ _
  obtain ⟨nm, bs, mro, ns, qn, hd, sn, sb, ab, col, del⟩ := cd
  dsimp only at hh
  subst hh
  unfold storeInOwnDict ownDictForStores
  repeat (first | with_reducible refine HandSPX.store_in_new ?_ ?_ | with_reducible refine wpAny_loadPart_at hx ?_ | with_reducible refine L3.at ?_ | wp_step)
  · exact ⟨_, #[], _, (Heap.get?_update_ne _ _ _ _ xs.symm).trans (Heap.get?_push_at rfl rfl), rfl, fun e he => absurd he (by simp), fun _ => rfl⟩
  · intro h' tk' hn' hs
    have y : (hp.push { cls := .type "dict", data := .dict #[] }).get? x = some { cls := .ref C, data := .fields fv } := Heap.get?_push_of_some _ hx
    refine hq h' tk' hp.objs.size (fun b o hb ho => ?_) (Nat.le_refl _) xs.symm ?_ hn'
    · exact (hs.2 b (Nat.ne_of_lt (Heap.lt_size ho))).trans ((Heap.get?_update_ne _ _ _ _ hb).trans (Heap.get?_push_of_some _ ho))
    · exact (hs.2 x xs).trans (Heap.get?_update_self _ y rfl)
end
end MX
end PySem
namespace MF
open PySem PySem.Spec PyProof.Rows L2
/-- what the written part says of the class C, whose __init__ (at fI) stores its one argument as f -/
structure OxC (K : PySem.W.Frag) (C fI : Addr) (f : Str) : Prop where
  cls : ∃ nm q N bs bm sn sub ab col dd k0 k1 k2 k3 k5 ni, K.lookup C = some (excClassObj nm q C N bs bm true sn sub ab col dd k0 k1 k2 k3 k5 ni) ∧ PySem.MX.Bm bm ni
  sa : PySem.W.findIn K (.ref C) "__setattr__" = some (some (.builtin "object.__setattr__"))
  exC : PySem.W.subIn K (.ref C) (.type "BaseException") = some true
  tyC : PySem.W.typeIn K (.ref C) = some (.type "type")
  kC : PySem.W.keepIn K (.ref C) = true
  noF : PySem.W.findIn K (.ref C) f = some none
  iC : PySem.W.findIn K (.ref C) "__init__" = some (some (.ref fI))
  tI : PySem.W.typeIn K (.ref fI) = some (.type "function")
section
variable {X : Cx} {pins : List (Addr × Obj)} {σ : L2.St} {H : Hp} {s : Shared} {a C fI dx : Addr} {f : Str} {y : V} {u : Value} {Q : Unit → Shared → Prop} {E : Value → Shared → Prop} {A : Around}
theorem ox_store (T : OxC X.K C fI f) (I : Inv X pins σ H s) (e : H a = some (exo a C none)) (ry : RelV y u)
    (h : ∀ dx s', H dx = none → dx ≠ a → Inv X pins σ (upd (upd H dx (exd dx [(f, y)])) a (exo a C (some dx))) s' → Q () s') : wpAny (model X.prog X.w) A (setAttr (.ref a) f u) Q E s := by
  obtain ⟨nm, q, N, bs, bm, sn, sub, ab, col, dd, k0, k1, k2, k3, k5, ni, hC, hbm⟩ := T.cls
  have hbm' := hbm.ref C
  have hcl : PySem.W.clsIn X.K C = some { name := nm, bases := bs, mro := .ref C :: bm, ns := N, qualname := q, hasDict := true, slotNames := sn, subclasses := sub, abstract := ab, collection := col, hasDel := false } := by unfold PySem.W.clsIn; rw [hC]
  obtain ⟨t1, ho⟩ := exo_at I.hok e
  obtain ⟨hp, g, d, t, os⟩ := s
  refine PySem.W.set_plain I.kIn (ox := { cls := .ref C, dict := none, data := .fields #[.ref t1, .none, .none, .none, .bool false, .none] }) (od := none) ⟨ho, rfl, rfl, trivial⟩ T.sa ?_
  refine PySem.MX.osaNew I.kIn ho hcl rfl hbm'.ob hbm'.ps rfl T.noF (fun h' tk' dx k dn dne hx hn => ?_)
  have nd0 : H dx = none := I.hok.fresh dn
  have nd : ∀ {b : Addr} {o : Obj}, hp.get? b = some o → b ≠ dx := fun {b o} q => Nat.ne_of_lt (Nat.lt_of_lt_of_le (Heap.lt_size q) dn)
  have na : ∀ {b : Addr}, H b = none → b ≠ a := fun {b} n z => by
    rw [z, e] at n
    cases n
  have U : Un X.fs [] H (upd (upd H dx (exd dx [(f, y)])) a (exo a C (some dx))) hp h' := {
    keep := fun b o q n _ _ => k b o (na n) q
    slot := fun b o q n _ _ => ⟨o.slots, k b o (na n) q⟩
    free := fun b o q n _ => by rw [upd_ne (na n), upd_ne (nd q)]; exact n
    there := fun b o q _ => by
      by_cases hb : b = a
      · exact ⟨_, by rw [hb]; exact hx⟩
      · exact ⟨o, k b o hb q⟩
    tups := fun b xs q => by rw [upd_ne (at_ne e q exo_tup), upd_ne (ne_of_none q nd0)]; exact q
    frzs := fun b o v q => by rw [upd_ne (at_ne e q exo_frz), upd_ne (ne_of_none q nd0)]; exact q
    tbls := fun b ps q => ⟨#[], by rw [upd_ne (at_ne e q exo_tbl), upd_ne (ne_of_none q nd0), q]; simp⟩ }
  refine h dx _ nd0 dne (I.un (t' := tk') U fun b o q => ?_)
  by_cases hb : b = a
  · subst hb
    rw [upd_same] at q
    cases q
    exact exo_ok hx
  · rw [upd_ne hb] at q
    by_cases hd : b = dx
    · subst hd
      rw [upd_same] at q
      cases q
      exact exd_ok hn (relO_put (fs := []) ry fun _ => True.intro)
    · rw [upd_ne hd] at q
      refine (I.hok b o q).stay (fun c v hc z => k c v ?_ z) (fun c hc => by rw [upd_ne (at_ne e hc exo_own), upd_ne (ne_of_none hc nd0)]; exact hc) (fun c xs hc => by rw [upd_ne (at_ne e hc exo_tup), upd_ne (ne_of_none hc nd0)]; exact hc)
      rcases hc with hc | hc
      · rw [hc]
        exact hb
      · exact at_ne e hc exo_own
end
/-- what such an __init__ promises -/
def spOx (C : Addr) (f : Str) : Sp := fun vs H Q _ => ∃ a v, vs = [.ref a, v] ∧ H a = some (exo a C none) ∧ ∀ dx, H dx = none → dx ≠ a → Q .non (upd (upd H dx (exd dx [(f, v)])) a (exo a C (some dx)))
section
variable {X : Cx} {C fI : Addr} {f : Str} {p p' pos : Pos} {o e : Expr} {to te : TE}
theorem ps_ox (T : OxC X.K C fI f) (ho : PE X o to) (he : PE X e te) (hs : swapsWith e (some (.Attribute o f p')) pos.line X.env = pure false := by rfl) : PS X (.Assign [.Attribute o f p'] e pos) (fun D σ H => te σ H fun y H1 => to σ H1 fun x H2 => ∃ a, x = .ref a ∧ H2 a = some (exo a C none) ∧ ∀ dx, H2 dx = none → dx ≠ a → D.nx σ (upd (upd H2 dx (exd dx [(f, y)])) a (exo a C (some dx)))) := by
  refine ⟨fun pins s σ H D I h => ?_⟩
  refine plainObj_wpAny_Assign_Attribute (thn (he.run pins s σ H _ I h) fun v s1 ⟨y, H1, I1, r1, q1⟩ => thn (ho.run pins s1 σ H1 _ I1 q1) fun u s2 ⟨x, H2, I2, r2, a, ex, ea, q⟩ => ?_) hs
  subst ex
  obtain rfl : u = Value.ref a := r2
  exact ox_store T I2 ea r1 fun dx s' n ne J => ⟨σ, _, J, q dx n ne⟩
end
/-- the def of such an __init__, its slots self, f -/
theorem ok_ox {P : Program} {w : World} {K : PySem.W.Frag} {mg : Str → Option Value} {base : Heap} {C fI : Addr} {fd : FuncData} {qual : Str} {st0 : Stmt} {f : Str} {p1 p2 p3 p4 : Pos} (T : OxC K C fI f) (Fn : Fun K "__init__" qual st0 fI fd) (Sc : FnScope ["self", f] ["self", f] (defScope st0))
    (hbody : defBody st0 = [.Assign [.Attribute (.Name "self" p1) f p2] (.Name f p3) p4]) (hl : (defScope st0).names.lookup ("self" : Str) = some .local) (hl2 : (defScope st0).names.lookup f = some .local) (hf : f ≠ "self" ∧ (f == ("__debug__" : Str)) = false ∧ (f == ("__classdict__" : Str)) = false) : FnOk P w K mg base CX0 1 fI fd ["self", f] (spOx C f) := by
  refine Fn.ok Sc (fun vs H Q E ⟨a, v, e, _⟩ => by rw [e]; rfl) ?_
  intro cdv A outer s H vs Q E hr ⟨a, v, ev, ea, q⟩
  rw [hbody]
  subst ev
  refine ⟨_, pss_one (ps_ox T (pe_var (i := 0) rfl (.inl hl) (by decide) (by decide)) (pe_var (i := 1) rfl (.inl hl2) hf.2.1 hf.2.2) (by rfl)), ?_⟩
  exact ⟨_, rfl, _, rfl, a, rfl, ea, fun dx n ne => q dx n ne⟩
end MF
end
section
set_option Elab.async false
set_option linter.all false
set_option maxRecDepth 100000
set_option maxHeartbeats 4000000
/-! MX4: such an exception made and raised; made and kept as a value. -/
namespace MF
open PySem PySem.Spec PyProof.Rows L2
/-- the class of such an exception and its __init__, as the text has them -/
structure OxD (P : Program) (w : World) (K : PySem.W.Frag) (mg : Str → Option Value) (base : Heap) (x : Str) (C : Addr) (f : Str) : Prop where
  ex : ∃ fI fd, OxC K C fI f ∧ FnOk P w K mg base CX0 1 fI fd ["self", f] (spOx C f) ∧ Binds K fd ["self", f] [] ∧ KBn K fd ["self", f] 1 [f] (fun us ws => us ++ ws) (fun vs zs => vs ++ zs)
  gC : mg x = some (.ref C)
section
variable {X : Cx} {W : L2.WX} {C fI : Addr} {f x : Str} {fd : FuncData} {e : Expr} {p pos pos' : Pos} {te : TE} {ta : TA}
theorem upd_made {H1 : Hp} {a d : Addr} {o1 o2 o3 o4 : HO} (na : H1 a = none) (hda : d ≠ a) : upd (del (upd (upd (upd H1 a o1) d o2) a o3) a) d o4 = upd H1 d o4 := by
  funext b
  by_cases hb : b = d
  · rw [hb, upd_same, upd_same]
  · rw [upd_ne hb, upd_ne hb]
    by_cases hba : b = a
    · rw [hba, del_same, na]
    · rw [del_ne hba, upd_ne hba, upd_ne hb, upd_ne hba]
theorem pmk_ox (T : OxC X.K C fI f) (F1 : FnOk X.prog X.w X.K X.mg X.base CX0 1 fI fd ["self", f] (spOx C f)) (hr : Room 2 X.A) (hb : Binds X.K fd ["self", f] []) (hg : Gl X x) (hm : X.mg x = some (.ref C)) (ha : PA X [e] ta)
    (hdb : (x == ("__debug__" : Str)) = false := by decide) (he : starEach [e] X.env = (false, eval e X.env) :: starEach [] X.env := by rfl) (hpl : (backTo pos (starEach [] X.env)).any (·.1) = false := by rfl) :
    L2N.PMk X (.Call (.Name x p) [e] [] pos) (fun σ H Q => ta σ H fun vs H1 => ∃ v, vs = [v] ∧ ∀ d, H1 d = none → Q (.ref C) (some d) (upd H1 d (.xd [(f, v)]))) := by
  intro pins s σ H Q I h
  obtain ⟨nm, q, N, bs, bm, sn, sub, ab, col, dd, k0, k1, k2, k3, k5, ni, hC, hbm⟩ := T.cls
  refine wpAny_Call_Name_kw (ld_glob I hg hm ?_ hdb)
  refine PySem.W.callWith_K (h₀ := X.base) I.ok.mod.kin T.kC (thn (ha.run pos pins s σ H _ I h) ?_) he hpl
  rintro us s1 ⟨vs, H1, I1, r1, v, ev, q1⟩
  subst ev
  refine ⟨I1.kIn, ?_⟩
  show wpAny _ _ (call (.ref C) us) _ _ _
  obtain ⟨hp, g, dr, tk, os⟩ := s1
  have le1 : hp.objs.size ≤ hp.objs.size + 1 := Nat.le_succ _
  have n1 : H1 (hp.objs.size + 1) = none := I1.hok.fresh le1
  have kk : ∀ b o, hp.get? b = some o → ((hp.push (PySem.W.kdv_tup us)).push (PySem.HandSPX.excO C hp.objs.size)).get? b = some o := fun b o e => Heap.get?_push_of_some _ (Heap.get?_push_of_some _ e)
  have gt : ((hp.push (PySem.W.kdv_tup us)).push (PySem.HandSPX.excO C hp.objs.size)).get? (hp.objs.size + 1) = some (PySem.HandSPX.excO C hp.objs.size) := by heap_get
  have I2 : Inv X pins σ (upd H1 (hp.objs.size + 1) (exo (hp.objs.size + 1) C none)) ⟨(hp.push (PySem.W.kdv_tup us)).push (PySem.HandSPX.excO C hp.objs.size), g, dr, tk, os⟩ :=
    I1.laid (t' := tk) (a := hp.objs.size + 1) (o := exo (hp.objs.size + 1) C none) kk le1 (exo_ok gt)
  have r2 : Vals [V.ref (hp.objs.size + 1), v] (Value.ref (hp.objs.size + 1) :: us) := .cons rfl r1
  have hl : us.length = 1 := r1.length.symm
  have b := hb ⟨(hp.push (PySem.W.kdv_tup us)).push (PySem.HandSPX.excO C hp.objs.size), g, dr, tk, os⟩ (Value.ref (hp.objs.size + 1) :: us) I2.kIn (by rw [List.append_nil, List.length_cons, hl]; rfl)
  rw [List.append_nil] at b
  refine wpAny_call (PySem.MX.callOwn hbm (I1.kIn _ _ hC) (PySem.W.looks_findIn I1.kIn T.iC) (fun self => PySem.W.bind_fn I1.kIn self T.tI) (by rw [hl, sizeLine_eq]; decide) (codeAny_mono (F1.run _ X.stack _ _ ⟨_, []⟩ (Value.ref (hp.objs.size + 1) :: us) _
    (fun v' H2 => v' = .non ∧ ∃ dx, H1 dx = none ∧ dx ≠ hp.objs.size + 1 ∧ H2 = upd (upd (upd H1 (hp.objs.size + 1) (exo (hp.objs.size + 1) C none)) dx (exd dx [(f, v)])) (hp.objs.size + 1) (exo (hp.objs.size + 1) C (some dx))) (fun _ _ _ => False) (hr.make C us []) (I2.env0.make C us []) b r2
    ⟨_, _, rfl, upd_same, fun dx nx ne => ⟨rfl, dx, by rw [upd_ne ne] at nx; exact nx, ne, rfl⟩⟩) ?_))
  intro r s' hq
  cases r with
  | error er => exact hq.elim
  | ok fl =>
    cases fl with
    | ret u =>
      obtain ⟨v', H2, os2, bare2, un2, hok2, rv, ev, dx, nx, ne, eH⟩ := hq
      subst ev eH
      obtain ⟨h2, g2, d2, t2, os2'⟩ := s'
      obtain ⟨t0, G, J, kG, ge, hoe, na⟩ := mk_end0 (d2 := d2) (t2 := t2) I1 le1 kk un2 hok2 os2 bare2 upd_same (by rw [upd_ne ne]; exact upd_same) nx
      have q2 := q1 dx nx
      rw [← upd_made (o1 := exo (hp.objs.size + 1) C none) (o2 := exd dx [(f, v)]) (o3 := exo (hp.objs.size + 1) C (some dx)) n1 ne] at q2
      refine ⟨rv, hp.objs.size + 1, _, _, ⟨G, g2, d2, t2, os2'⟩, _, .ref C, some dx, rfl, J, kG, ge, hoe, ⟨rfl, rfl, ?_⟩, rfl, rfl, na, rfl, bare2, raises_own T.exC T.tyC, q2⟩
      intro zs hz
      cases hz
      rfl
    | next => exact hq.elim
    | brk => exact hq.elim
    | cont => exact hq.elim
/-- raise X(e) -/
def sRaise (C : Addr) (f : Str) (m : Env → S → R D) : Env → S → R F := fun env st => (m env st).bind fun d st1 => .ex C f d st1
theorem ms_raise {m : Env → S → R D} (T : OxD X.prog X.w X.K X.mg X.base x C f) (hc : X.calm = true) (tk : L2N.Takes X W) (hr : Room 2 X.A) (hg : Gl X x) (he : PE X e (tM X.K W m)) (hdb : (x == ("__debug__" : Str)) = false := by decide)
    (hs : starEach [e] X.env = (false, eval e X.env) :: starEach [] X.env := by rfl) (hpl : (backTo pos (starEach [] X.env)).any (·.1) = false := by rfl) : PS X (.Raise (some (.Call (.Name x p) [e] [] pos)) none pos') (tMS X.K W (sRaise C f m)) := by
  obtain ⟨fI, fd, T1, F1, b1, _⟩ := T.ex
  refine (L2N.ps_raise hc tk (pmk_ox T1 F1 hr b1 hg T.gC (pa_cons he pa_nil hs) hdb hs hpl)).imp fun D σ H ⟨ι, env, st, er, r, h⟩ => ?_
  refine seqSM er r h fun ι1 H1 v d st1 er1 s1 r1 e1 h1 => ?_
  refine ⟨v, rfl, fun dd nd => ?_⟩
  have hn : dd ∉ ι1 := r1.fresh nd
  have s2 : Stp ι1 H1 ι1 (upd H1 dd (.xd [(f, v)])) := new_stp nd
  exact h1 ι1 _ dd v σ s2 (r1.new nd) hn upd_same (e1.stp s2)
end
end MF
end
section
set_option Elab.async false
set_option linter.all false
set_option maxRecDepth 100000
set_option maxHeartbeats 4000000
/-! MX5: such an exception made and kept as a value. -/
namespace MF
open PySem PySem.Spec PyProof.Rows L2
theorem exw_ok {P : Program} {w : World} {H : Hp} {h : Heap} {a C d : Addr} {oe : Obj} {vs : Array Value} (e : h.get? a = some oe) (h1 : oe.cls = .ref C) (h2 : oe.dict = some d) (h3 : oe.data = .fields vs) (h4 : vs[2]? = some .none) : ObjOk P w H h a (exw a C d) :=
  ⟨⟨oe, vs, e, h1, h2, h3, h4⟩, ⟨oe, e⟩, fun _ _ ⟨o, v, q, r⟩ k => ⟨o, v, k o q, r⟩⟩
theorem exw_at {P : Program} {w : World} {H : Hp} {h : Heap} {a C d : Addr} (hok : HOk P w H h) (he : H a = some (exw a C d)) : ∃ oe vs, h.get? a = some oe ∧ oe.cls = .ref C ∧ oe.dict = some d ∧ oe.data = .fields vs ∧ vs[2]? = some .none := by
  have x : ObjOk P w H h a (.ext fun h => ∃ (oe : Obj) (vs : Array Value), h.get? a = some oe ∧ oe.cls = .ref C ∧ oe.dict = some d ∧ oe.data = .fields vs ∧ vs[2]? = some .none) := hok a _ he
  exact x.1
section
variable {X : Cx} {W : L2.WX} {C fI : Addr} {f x : Str} {fd : FuncData} {e : Expr} {p pos pos' kpos : Pos} {te : TE} {ta : TA}
theorem upd_made2 {H1 : Hp} {a d : Addr} {o1 o2 o3 o4 o5 : HO} (hne : d ≠ a) : upd (upd (upd (upd (upd H1 a o1) d o2) a o3) a o4) d o5 = upd (upd H1 d o5) a o4 := by
  funext b
  by_cases hb : b = a
  · rw [hb, upd_ne (Ne.symm hne), upd_same, upd_same]
  · by_cases hba : b = d
    · rw [hba, upd_same, upd_ne hne, upd_same]
    · rw [upd_ne hba, upd_ne hb, upd_ne hb, upd_ne hba, upd_ne hb, upd_ne hb, upd_ne hba]
/-- the class is called, by any arguments that bind the field to v -/
theorem run_excv {pins : List (Addr × Obj)} {σ : L2.St} {H1 : Hp} {s1 : Shared} {v : V} {u : Value} {pos : List Value} {kw : List (Str × Value)} {Q : VK} (T : OxC X.K C fI f) (F1 : FnOk X.prog X.w X.K X.mg X.base CX0 1 fI fd ["self", f] (spOx C f)) (hr : Room 2 X.A)
    (I1 : Inv X pins σ H1 s1) (ru : RelV v u) (hk : (pos = [u] ∧ kw = []) ∨ (pos = [] ∧ ∃ kn, kw = [(kn, u)])) (hb : ∀ (s : Shared) (y : Value), X.K.In s.heap → BindsTo s fd ⟨y :: pos, kw⟩ [("self", y), (f, u)])
    (q : ∀ a dx, H1 a = none → H1 dx = none → dx ≠ a → Q (.ref a) (upd (upd H1 dx (.xd [(f, v)])) a (exw a C dx))) : wpAny (model X.prog X.w) X.A (call (.ref C) pos kw) (EP X pins σ Q) X.xe s1 := by
  obtain ⟨nm, qn, N, bs, bm, sn, sub, ab, col, dd, k0, k1, k2, k3, k5, ni, hC, hbm⟩ := T.cls
  obtain ⟨hp, g, dr, tk, os⟩ := s1
  have le1 : hp.objs.size ≤ hp.objs.size + 1 := Nat.le_succ _
  have n1 : H1 (hp.objs.size + 1) = none := I1.hok.fresh le1
  have kk : ∀ b o, hp.get? b = some o → ((hp.push (PySem.W.kdv_tup pos)).push (PySem.HandSPX.excO C hp.objs.size)).get? b = some o := fun b o e => Heap.get?_push_of_some _ (Heap.get?_push_of_some _ e)
  have gt : ((hp.push (PySem.W.kdv_tup pos)).push (PySem.HandSPX.excO C hp.objs.size)).get? (hp.objs.size + 1) = some (PySem.HandSPX.excO C hp.objs.size) := by heap_get
  have I2 : Inv X pins σ (upd H1 (hp.objs.size + 1) (exo (hp.objs.size + 1) C none)) ⟨(hp.push (PySem.W.kdv_tup pos)).push (PySem.HandSPX.excO C hp.objs.size), g, dr, tk, os⟩ :=
    I1.laid (t' := tk) (a := hp.objs.size + 1) (o := exo (hp.objs.size + 1) C none) kk le1 (exo_ok gt)
  have r2 : Vals [V.ref (hp.objs.size + 1), v] [Value.ref (hp.objs.size + 1), u] := .cons rfl (.cons ru .nil)
  have run : codeAny (model X.prog X.w) (X.A.under (.builtin "type.__call__" ⟨.ref C :: pos, kw⟩)) (.call (.ref fI) ⟨.ref (hp.objs.size + 1) :: pos, kw⟩) (PySem.W.InitBack (hp.objs.size + 1) fun r s' => match r with | .ok (.ret u) => EP X pins σ Q u s' | .ok _ => False | .error e => X.xe e s')
      ⟨(hp.push (PySem.W.kdv_tup pos)).push (PySem.HandSPX.excO C hp.objs.size), g, dr, tk, os⟩ := by
    refine codeAny_mono (F1.run _ X.stack _ _ ⟨_, kw⟩ [Value.ref (hp.objs.size + 1), u] _
      (fun v' H2 => v' = .non ∧ ∃ dx, H1 dx = none ∧ dx ≠ hp.objs.size + 1 ∧ H2 = upd (upd (upd H1 (hp.objs.size + 1) (exo (hp.objs.size + 1) C none)) dx (exd dx [(f, v)])) (hp.objs.size + 1) (exo (hp.objs.size + 1) C (some dx))) (fun _ _ _ => False) (hr.make C pos kw) (I2.env0.make C pos kw) (hb _ _ I2.kIn) r2
      ⟨_, _, rfl, upd_same, fun dx nx ne => ⟨rfl, dx, by rw [upd_ne ne] at nx; exact nx, ne, rfl⟩⟩) ?_
    intro r s' hq
    cases r with
    | error er => exact hq.elim
    | ok fl =>
      cases fl with
      | ret u' =>
        obtain ⟨v', H2, J, rv, ev, dx, nx, ne, eH⟩ := I2.after hq
        subst ev eH
        obtain ⟨h2, g2, d2, t2, os'⟩ := s'
        obtain ⟨t0, ho⟩ := exo_at J.hok upd_same
        have J2 := J.write (h' := h2) (t' := t2) (x := hp.objs.size + 1) (e := hp.objs.size + 1) (o := exw (hp.objs.size + 1) C dx) (by rw [upd_same]; exact True.intro) (.inl rfl) (fun _ _ _ z => z) ⟨_, ho⟩ (exw_ok ho rfl rfl rfl rfl)
        have ex2 : upd (upd (upd (upd H1 (hp.objs.size + 1) (exo (hp.objs.size + 1) C none)) dx (exd dx [(f, v)])) (hp.objs.size + 1) (exo (hp.objs.size + 1) C (some dx))) (hp.objs.size + 1) (exw (hp.objs.size + 1) C dx) dx = some (exd dx [(f, v)]) := by rw [upd_ne ne, upd_ne ne, upd_same]
        obtain ⟨mA, hns, rel⟩ := exd_at J2.hok ex2
        have J3 := J2.write (h' := h2) (t' := t2) (x := dx) (e := dx) (o := .xd [(f, v)]) (by rw [ex2]; exact True.intro) (.inl rfl) (fun _ _ _ z => z) (by obtain ⟨o, _, _, e', _⟩ := hns; exact ⟨o, e'⟩) ⟨mA, hns, rel⟩
        rw [upd_made2 ne] at J3
        exact ⟨rv, .ref (hp.objs.size + 1), _, J3, rfl, q _ _ n1 nx ne⟩
      | next => exact hq.elim
      | brk => exact hq.elim
      | cont => exact hq.elim
  refine wpAny_call ?_
  rcases hk with ⟨rfl, rfl⟩ | ⟨rfl, kn, rfl⟩
  · exact PySem.MX.callOwn hbm (I1.kIn _ _ hC) (PySem.W.looks_findIn I1.kIn T.iC) (fun self => PySem.W.bind_fn I1.kIn self T.tI) (by show 1 ≤ sizeLine; rw [sizeLine_eq]; decide) run
  · exact PySem.MX.callOwnK hbm (I1.kIn _ _ hC) (PySem.W.looks_findIn I1.kIn T.iC) (fun self => PySem.W.bind_fn I1.kIn self T.tI) run
/-- X(e), kept -/
def mExc (C : Addr) (f : Str) (m : Env → S → R D) : Env → S → R D := fun env st => (m env st).bind fun d st1 => .ok (.exc C f d) st1
theorem exc_den {σ : L2.St} {ι1 : List Addr} {H1 : Hp} {st1 : S} {v : V} {d : D} {Q : VK} (r1 : Rel X.K ι1 H1 st1) (e1 : Den X.K ι1 H1 v d) (h1 : Post X.K W (Den X.K) σ ι1 H1 (.ok (.exc C f d) st1) Q) (a dx : Addr) (na : H1 a = none) (nx : H1 dx = none) (ne : dx ≠ a) : Q (.ref a) (upd (upd H1 dx (.xd [(f, v)])) a (exw a C dx)) := by
  have s1 : Stp ι1 H1 ι1 (upd H1 dx (.xd [(f, v)])) := new_stp nx
  have r2 := r1.new (o := .xd [(f, v)]) nx
  have na' : upd H1 dx (.xd [(f, v)]) a = none := by rw [upd_ne (Ne.symm ne)]; exact na
  have s2 : Stp ι1 (upd H1 dx (.xd [(f, v)])) ι1 (upd (upd H1 dx (.xd [(f, v)])) a (exw a C dx)) := new_stp na'
  exact h1 ι1 _ _ (s1.trans s2) (r2.new na') (.exc (r1.fresh na) upd_same (r1.fresh nx) (by rw [upd_ne ne]; exact upd_same) (e1.stp (s1.trans s2)))
theorem me_exc {m : Env → S → R D} (T : OxD X.prog X.w X.K X.mg X.base x C f) (hr : Room 2 X.A) (hg : Gl X x) (he : PE X e (tM X.K W m)) (hdb : (x == ("__debug__" : Str)) = false := by decide)
    (hs : starEach [e] X.env = (false, eval e X.env) :: starEach [] X.env := by rfl) (hpl : (backTo pos (starEach [] X.env)).any (·.1) = false := by rfl) : PE X (.Call (.Name x p) [e] [] pos) (tM X.K W (mExc C f m)) := by
  obtain ⟨fI, fd, T1, F1, b1, _⟩ := T.ex
  constructor
  intro pins s σ H Q I ⟨ι, env, st, er, r, h⟩
  refine wpAny_Call_Name_kw (ld_glob I hg T.gC ?_ hdb)
  refine PySem.W.callWith_K (h₀ := X.base) I.ok.mod.kin T1.kC (thn ((pa_cons he pa_nil hs).run pos pins s σ H (fun vs H1 => ∃ v, vs = [v] ∧ ∀ a dx, H1 a = none → H1 dx = none → dx ≠ a → Q (.ref a) (upd (upd H1 dx (.xd [(f, v)])) a (exw a C dx))) I ?_) ?_) hs hpl
  · exact seqM er r h fun ι1 H1 v d st1 er1 s1 r1 e1 h1 => ⟨v, rfl, exc_den r1 e1 h1⟩
  · rintro us s1 ⟨vs, H1, I1, rv, v, ev, q⟩
    subst ev
    obtain ⟨u, rfl, ru⟩ := vals1 rv
    refine ⟨I1.kIn, run_excv T1 F1 hr I1 ru (.inl ⟨rfl, rfl⟩) (fun s y hK => ?_) q⟩
    have b := b1 s [y, u] hK rfl
    exact b
/-- X(f = e), kept -/
theorem me_excK {m : Env → S → R D} (T : OxD X.prog X.w X.K X.mg X.base x C f) (hr : Room 2 X.A) (hg : Gl X x) (he : PE X e (tM X.K W m)) (hall : (backToKw pos (keywordEach [⟨some f, e, kpos⟩] X.env)).all (·.1.isSome) = true := by rfl) (hks : (backToKw pos (keywordEach [⟨some f, e, kpos⟩] X.env)).filterMap (·.1) = [f] := by rfl) (hdb : (x == ("__debug__" : Str)) = false := by decide)
    (hpl : ((backTo pos (starEach [] X.env)).any (·.1) || (backToKw pos (keywordEach [⟨some f, e, kpos⟩] X.env)).any (·.1.isNone)) = false := by rfl) : PE X (.Call (.Name x p) [] [⟨some f, e, kpos⟩] pos) (tM X.K W (mExc C f m)) := by
  obtain ⟨fI, fd, T1, F1, _, b2⟩ := T.ex
  constructor
  intro pins s σ H Q I ⟨ι, env, st, er, r, h⟩
  refine wpAny_Call_Name_kw (ld_glob I hg T.gC ?_ hdb)
  refine PySem.W.callWith_KW0 (h₀ := X.base) I.ok.mod.kin T1.kC hall (thn ((pk_cons he pk_nil).run pos pins s σ H (fun vs H1 => ∃ v, vs = [v] ∧ ∀ a dx, H1 a = none → H1 dx = none → dx ≠ a → Q (.ref a) (upd (upd H1 dx (.xd [(f, v)])) a (exw a C dx))) I ?_) ?_) hpl
  · exact seqM er r h fun ι1 H1 v d st1 er1 s1 r1 e1 h1 => ⟨v, rfl, exc_den r1 e1 h1⟩
  · rintro us s1 ⟨vs, H1, I1, rv, v, ev, q⟩
    subst ev
    obtain ⟨u, rfl, ru⟩ := vals1 rv
    rw [hks]
    refine ⟨I1.kIn, run_excv T1 F1 hr I1 ru (.inr ⟨rfl, f, rfl⟩) (fun s y hK => ?_) q⟩
    exact b2.to s [y] [u] hK rfl rfl
end
end MF
end
section
set_option Elab.async false
set_option linter.all false
set_option maxRecDepth 100000
set_option maxHeartbeats 4000000
/-! MX6: such an exception's field, isinstance of it. -/
namespace PySem.W
open PySem PySem.Spec PySem.Calls PyProof.Rows
section
variable {prog : Program} {w : World} {A : Around} {E : Value → Shared → Prop} {s : Shared} {K : Frag} {x D : Addr} {ox : Obj} {od : Option Obj}
theorem mx_findData {C : Addr} {name : Str} {a g : Value} (hc : (clsIn K C).isSome = true) (ha : findIn K (.ref C) name = some (some a)) (hg : specialIn K a "__get__" = some (some g)) (ht : takesIn K a = some true) : findObj K C od name = some (.bind g a) := by
  obtain ⟨cd, hcd⟩ := Option.isSome_iff_exists.mp hc
  unfold findObj
  rw [hcd, Option.bind_some, ha, Option.bind_some]
  simp only [hg, ht, Option.bind_some]
theorem mx_class {Q : Option Value → Shared → Prop} (hga : findIn K (.ref D) "__getattribute__" = some (some (.builtin "BaseException.__getattribute__"))) (hgt : findIn K (.ref D) "__getattr__" = some none) (hsub : subIn K (.ref D) (.type "BaseException") = some true)
    (hdct : hasDictIn K D = true) (ha : findIn K (.ref D) "__class__" = some (some (.builtin "object.__class__")))
    (hn : specialIn K (.builtin "object.__class__") "__get__" = some (some (.builtin "getset_descriptor.__get__"))) (htk : takesIn K (.builtin "object.__class__") = some true) (hm : mroIn K D (.type "object") = some true)
    (X : K.In s.heap) (I : InstAt s.heap x ox D od) (h : Q (some (.ref D)) { s with toks := s.toks + 1 }) : wpAny (model prog w) A (getAttr? (.ref x) "__class__") Q E s := by
  have fo : findObj K D od "__class__" = some (.bind (.builtin "getset_descriptor.__get__") (.builtin "object.__class__")) := mx_findData (by obtain ⟨cd, hc, _⟩ := any_some hdct; rw [hc]; rfl) ha hn htk
  obtain ⟨hp, g, d, t, os⟩ := s
  have T0 := I.type (M := model prog w)
  have T1 := looks_findIn (M := model prog w) X hga
  have T2 := looks_findIn (M := model prog w) X hgt
  have T3 := looks_find (M := model prog w) X I fo
  have be : Looks (model prog w) hp (isInstance (.ref x) (.type "BaseException")) true := T0.andThen (looks_subIn X hsub)
  have z0 : (false && onTheHeap (Value.builtin "BaseException.__getattribute__")) = false := rfl
  have z2 : (Value.builtin "BaseException.__getattribute__" == Value.builtin "object.__getattribute__") = false := by decide +kernel
  have z1 : (onTheHeap (Value.ref D) && Value.builtin "BaseException.__getattribute__" == Value.builtin "object.__getattribute__") = false := by rw [z2]; rfl
  unfold getAttr? getAttrBy? getAttrBy
  refine wpAny_bind (wpAny_mkText (wpAny_bind (wpAny_attempt (wpAny_holding (wpAny_bind (T0.at (wpAny_bind (T1.at ?_))))))))
  show wpAny _ _ (if (onTheHeap (Value.ref D) && Value.builtin "BaseException.__getattribute__" == Value.builtin "object.__getattribute__") = true then _ else _) _ _ _
  rw [z1, if_neg Bool.false_ne_true]
  unfold getAttrByItsOwn hookBefore
  refine wpAny_bind ?_
  rw [if_pos (show onTheHeap (Value.ref D) = true from rfl)]
  refine T2.at (wpAny_bind (wpAny_attempt (wpAny_holding ?_)))
  unfold callGetattribute
  rw [z0, if_neg Bool.false_ne_true]
  unfold boundAndCalled
  rw [PySem.F.excAttr_ValueError.ga.bind (.ref x)]
  refine wpAny_bind (wpAny_pure ?_)
  show wpAny _ _ (call (.builtin "BaseException.__getattribute__") [.ref x, .str "__class__" t]) _ _ _
  refine wpAny_call (codeAny_call_builtin PySem.F.excAttr_ValueError.ga.plain PySem.F.entry_bexc_ga ?_)
  refine @check_slot (model prog w) _ _ ⟨hp, g, d, t + 1, os⟩ "BaseException.__getattribute__" "BaseException" "__getattribute__" (.ref x) [.str "__class__" t] [] _ (by decide +kernel) (by decide +kernel) be (PySem.F.args_bexc_ga (.ref x) (.str "__class__" t)) ?_
  unfold Builtin.«object.__getattribute__»
  refine wpAny_bind (wpAny_of_eq (a := ((Value.ref x : Value), [Value.str "__class__" t])) (by first | rfl | (simp only [slotArgs]; rfl)) ?_)
  refine wpAny_bind (wpAny_pure (wpAny_bind (T0.at (wpAny_bind (T3.at ?_)))))
  show wpAny _ _ (holding [Value.builtin "object.__class__"] (call (.builtin "getset_descriptor.__get__") [.builtin "object.__class__", .ref x, .ref D]) >>= ret) _ _ _
  refine wpAny_bind (wpAny_holding (wpAny_call (class_get (s := ⟨hp, g, d, t + 1, os⟩) (ox := ox) (od := od) X I hm (wpAny_pure ?_))))
  show wpAny _ _ (handedOut (.ref D)) _ _ _
  rw [handedOut_of (v := .ref D) rfl]
  first
    | exact wpAny_pure (wpAny_pure h)
    | exact wpAny_pure h
    | exact wpAny_pure (wpAny_bind (wpAny_pure (wpAny_pure h)))
theorem mx_kitx (hga : findIn K (.ref D) "__getattribute__" = some (some (.builtin "BaseException.__getattribute__"))) (hgt : findIn K (.ref D) "__getattr__" = some none) (hsub : subIn K (.ref D) (.type "BaseException") = some true) (hdct : hasDictIn K D = true) (ha : findIn K (.ref D) "__class__" = some (some (.builtin "object.__class__")))
    (hn : specialIn K (.builtin "object.__class__") "__get__" = some (some (.builtin "getset_descriptor.__get__"))) (htk : takesIn K (.builtin "object.__class__") = some true) (hm : mroIn K D (.type "object") = some true) : KitX K (.ref x) (.ref D) (fun h => InstAt h x ox D od) := by
  have Z : ∃ oc d' cd' sl', K.lookup D = some ⟨oc, d', .cls cd', sl'⟩ := by
    obtain ⟨cdD, hcD, _⟩ := any_some hdct
    unfold clsIn at hcD
    split at hcD
    · rename_i c' d' cd' sl' ho
      exact ⟨_, _, _, _, ho⟩
    · cases hcD
  obtain ⟨oc, d', cd', sl', ho⟩ := Z
  constructor
  · exact fun _ _ _ I => I.type
  · intro _ _ X _ A' Q' E' s' k q
    unfold isType loadHead
    exact wpAny_bind (wpAny_loadPart (k _ _ (X _ _ ho)) (wpAny_pure q))
  · intro h tp dd its n sl X htp
    refine Bool.eq_false_iff.mpr fun q => ?_
    have e : D = tp := Value.ref.inj (beq_iff_eq.mp q)
    subst e
    have z := (X _ _ ho).symm.trans htp
    cases z
  · exact fun X I k => mx_class hga hgt hsub hdct ha hn htk hm X I k
end
end PySem.W
namespace MF
open PySem PySem.Spec PyProof.Rows L2
section
variable {X : Cx} {W : L2.WX} {e : Expr} {p p2 pos : Pos}
/-- err.f -/
def gXat (Cs : List Addr) (f : Str) (d : D) (st : S) : R D := match d with
  | .exc C g x => if g = f ∧ C ∈ Cs then .ok x st else .stuck
  | _ => .stuck
def mXat (Cs : List Addr) (f : Str) (m : Env → S → R D) : Env → S → R D := fun env st => (m env st).bind (gXat Cs f)
theorem exc_inst {pins : List (Addr × Obj)} {σ : L2.St} {H : Hp} {s : Shared} {a C dx : Addr} {f : Str} {v : V} (I : Inv X pins σ H s) (h1 : H a = some (exw a C dx)) (h2 : H dx = some (.xd [(f, v)])) :
    ∃ oe od u, PySem.W.InstAt s.heap a oe C (some od) ∧ PySem.W.lookIn f od = some (some u) ∧ RelV v u := by
  obtain ⟨oe, vs, g1, g2, g3, g4, _⟩ := exw_at I.hok h1
  have h3 : ObjOk X.prog X.w H s.heap dx (.xd [(f, v)]) := I.hok dx _ h2
  obtain ⟨mA, hns, hr⟩ := h3
  obtain ⟨od, ho, hl⟩ := lookIn_ns hns
  obtain ⟨u, hu, ru⟩ := RelO.some_of (v := v) (o := mA f) (by
    have q := hr f
    rw [lookup_put, if_pos rfl] at q
    exact q)
  exact ⟨oe, od, u, ⟨g1, g2, by unfold PySem.W.notCls; rw [g4], by rw [g3]; exact ho⟩, by rw [hl, hu], ru⟩
theorem me_xat {Cs : List Addr} {f : Str} {m : Env → S → R D} (T : ∀ C ∈ Cs, XfC X.K C ∧ PySem.W.findIn X.K (.ref C) f = some none) (he : PE X e (tM X.K W m)) (hb : attributeBase e f X.env (eval e X.env) = eval e X.env := by rfl) : PE X (.Attribute e f pos) (tM X.K W (mXat Cs f m)) := by
  constructor
  intro pins s σ H Q I ⟨ι, env, st, er, r, h⟩
  refine attr_of hb (thn (he.run pins s σ H (fun x H1 => ∃ a C dx v, x = .ref a ∧ C ∈ Cs ∧ H1 a = some (exw a C dx) ∧ H1 dx = some (.xd [(f, v)]) ∧ Q v H1) I ?_) ?_)
  · refine seqM er r h fun ι1 H1 v d st1 er1 s1 r1 e1 h1 => ?_
    unfold gXat at h1
    split at h1
    · rename_i C g x
      obtain ⟨⟨h5, h6⟩, h7⟩ := h1.ite
      subst h5
      cases e1 with
      | exc hn ha hx h2 hd => exact ⟨_, _, _, _, rfl, h6, ha, h2, h7.ok r1 hd⟩
    · exact h1.elim
  · rintro u s1 ⟨x, H1, I1, rx, a, C, dx, v, ex, hC, h1, h2, q⟩
    subst ex
    obtain rfl : u = Value.ref a := rx
    obtain ⟨oe, od, u, J, l, ru⟩ := exc_inst I1 h1 h2
    have T' := (T C hC).1
    exact HandSPX.exc_get I1.kIn J T'.ga T'.gg T'.exC (PySem.W.findObj_own T'.hdC (T C hC).2 rfl l) (handed_of ru) ⟨v, H1, I1.tok _, ru, q⟩
/-- isinstance(err, c) -/
def gIsX (Cs : List Addr) (isB : Addr → Bool) (d : D) (st : S) : R D := match d with
  | .exc C _ _ => if C ∈ Cs then .ok (.bl (isB C)) st else .stuck
  | _ => .stuck
def mIsX (Cs : List Addr) (isB : Addr → Bool) (m : Env → S → R D) : Env → S → R D := fun env st => (m env st).bind (gIsX Cs isB)
def rIsX (K : PySem.W.Frag) : List V → Hp → VK → Prop := fun xs H Q => ∃ (a C dx : Addr) (f : Str) (v c : V) (cv : Value) (b : Bool), xs = [.ref a, c] ∧ L2.ExcC K C ∧ H a = some (exw a C dx) ∧ H dx = some (.xd [(f, v)]) ∧ (∀ u, RelV c u → u = cv) ∧ PySem.W.kitOne K (.ref C) cv = some b ∧ Q (.bl b) H
theorem call_isX : CallR X (.builtin "isinstance") (rIsX X.K) := by
  rintro pins s σ H xs us Q I r ⟨a, C, dx, f, v, c, cv, b, rfl, T, h1, h2, hcv, e, q⟩
  cases r with
  | cons rx rr =>
    cases rr with
    | cons rt rr =>
      cases rr
      cases rx
      have ec := hcv _ rt
      subst ec
      obtain ⟨oe, od, u, J, l, ru⟩ := exc_inst I h1 h2
      exact PySem.W.kia_one (PySem.W.mx_kitx T.hg T.hk T.hs T.hd T.ha T.hn T.ht T.hm) I.kIn J e (fun z => nomatch z) fun tk => ⟨.bl b, H, I.kept (t' := tk) fun _ _ z => z, rfl, q⟩
/-- what names a class: one of the program's own, a built-in one -/
inductive ClsN (X : Cx) (x : Str) : V → Value → Prop
  | own {C : Addr} (hg : Gl X x) (hm : X.mg x = some (.ref C)) : ClsN X x (.ref C) (.ref C)
  | blt {T : String} (hg : Gl X x) (hm : X.mg x = none) (hv : bootBuiltins x = some (.type T)) (hn : x ≠ "__name__") : ClsN X x (.ty T) (.type T)
theorem me_isx {x : Str} {c : V} {cv : Value} {Cs : List Addr} {isB : Addr → Bool} {m : Env → S → R D} (T : ∀ C ∈ Cs, L2.ExcC X.K C ∧ PySem.W.kitOne X.K (.ref C) cv = some (isB C)) (hc : ClsN X x c cv) (hg : Gl X "isinstance") (hm : X.mg "isinstance" = none) (he : PE X e (tM X.K W m)) (hd : (x == ("__debug__" : Str)) = false := by decide)
    (hs : starEach [e, .Name x p2] X.env = (false, eval e X.env) :: starEach [.Name x p2] X.env := by rfl) (hs2 : starEach [.Name x p2] X.env = (false, eval (.Name x p2) X.env) :: starEach [] X.env := by rfl) :
    PE X (.Call (.Name "isinstance" p) [e, .Name x p2] [] pos) (tM X.K W (mIsX Cs isB m)) := by
  have key : ∀ {σ : L2.St} {H : Hp} {Q : VK} {ι : List Addr} {env : Env} {st : S}, EnvR X.K ι H σ env → Rel X.K ι H st → Post X.K W (Den X.K) σ ι H (mIsX Cs isB m env st) Q → (∀ u, RelV c u → u = cv) → tM X.K W m σ H fun v H1 => rIsX X.K [v, c] H1 Q := by
    intro σ H Q ι env st er r h hcv
    refine seqM er r h fun ι1 H1 v d st1 er1 s1 r1 e1 h1 => ?_
    unfold gIsX at h1
    split at h1
    · rename_i C g y
      obtain ⟨h6, h7⟩ := h1.ite
      cases e1 with
      | exc hn ha hx h2 hd => exact ⟨_, C, _, g, _, c, cv, _, rfl, (T C h6).1, ha, h2, hcv, (T C h6).2, h7.ok r1 (.bl _)⟩
    · exact h1.elim
  cases hc with
  | own hg2 hm2 =>
    refine (pe_callB call_isX hg hm boot_isinstance (pa_cons he (pa_cons (pe_glob (v := .ref _) hg2 hm2 rfl hd) pa_nil hs2) hs) (he := hs) (hpl := by rw [hs2]; rfl)).imp fun σ H Q ⟨ι, env, st, er, r, h⟩ => ?_
    exact key er r h fun u z => z
  | blt hg2 hm2 hv hn =>
    refine (pe_callB call_isX hg hm boot_isinstance (pa_cons he (pa_cons (pe_bltn hg2 hm2 hv (v := .ty _) rfl hn hd) pa_nil hs2) hs) (he := hs) (hpl := by rw [hs2]; rfl)).imp fun σ H Q ⟨ι, env, st, er, r, h⟩ => ?_
    exact key er r h fun u z => z
end
end MF
end
section
set_option Elab.async false
set_option linter.all false
set_option maxRecDepth 100000
set_option maxHeartbeats 4000000
/-! MX7: try with several clauses, each with a name; a clause of five classes. -/
namespace PySem.W
open PySem PySem.Spec PySem.Calls PyProof.Rows
theorem mx_tup5 {M : Model} {K : Frag} {c1 c2 c3 c4 c5 cls : Value} {tp e : Addr} {b : Bool} {h : Heap} (X : K.In h) (LT : Looks M h (typeOf (.ref e)) cls) (hp : h.get? tp = some { cls := .type "tuple", data := .seq [c1, c2, c3, c4, c5].toArray }) (hx : exmAny K cls [c1, c2, c3, c4, c5] = some b) :
    Looks M h (excMatches (.ref e) (.ref tp)) b := by
  intro A Q E s k0 q
  obtain ⟨hh, g, d, tk, os⟩ := s
  have k : ∀ b o, h.get? b = some o → hh.get? b = some o := k0
  have T0 : Looks M h (isInstance (.ref tp) (.type "tuple")) true := ((Looks.ld hp).andThen .now).andThen (Looks.of_pure isSubtype_tuple_tuple)
  obtain ⟨b1, d1, x1, y1, z1⟩ := exmAny_cons hx
  obtain ⟨b2, d2, x2, y2, z2⟩ := exmAny_cons y1
  obtain ⟨b3, d3, x3, y3, z3⟩ := exmAny_cons y2
  obtain ⟨b4, d4, x4, y4, z4⟩ := exmAny_cons y3
  obtain ⟨b5, d5, x5, y5, z5⟩ := exmAny_cons y4
  obtain ⟨p1, q1⟩ := exm_cls (M := M) X x1
  obtain ⟨p2, q2⟩ := exm_cls (M := M) X x2
  obtain ⟨p3, q3⟩ := exm_cls (M := M) X x3
  obtain ⟨p4, q4⟩ := exm_cls (M := M) X x4
  obtain ⟨p5, q5⟩ := exm_cls (M := M) X x5
  have p1 := p1.keeps k
  have q1 := q1.keeps k
  have p2 := p2.keeps k
  have q2 := q2.keeps k
  have p3 := p3.keeps k
  have q3 := q3.keeps k
  have p4 := p4.keeps k
  have q4 := q4.keeps k
  have p5 := p5.keeps k
  have q5 := q5.keeps k
  have w5 : some false = some d5 := y5
  cases w5
  have L1 := LT.keeps k
  have L0 := T0.keeps k
  have hp2 := k _ _ hp
  subst z1 z2 z3 z4 z5
  unfold excMatches
  refine wpAny_bind (L0.at ?_)
  dsimp only
  rw [if_pos rfl]
  first
    | refine wpAny_bind (wpAny_seqItems hp2 rfl ?_)
    | refine wpAny_bind (wpAny_bind (wpAny_seqItems hp2 rfl (wpAny_pure ?_)))
  dsimp only [Option.getD_some, Option.getD]
  cases b1 <;> cases b2 <;> cases b3 <;> cases b4 <;> cases b5 <;> ((repeat (first | simp only [List.forIn_cons, List.forIn_nil, Bool.not_true, Bool.false_eq_true, if_false, if_true] | lk)); exact q)
end PySem.W
namespace MF
open PySem PySem.Spec PyProof.Rows L2
theorem flying_keeps {B h h' : Heap} {l : List PySem.Env} {e : Addr} {Z : Obj → Prop} (x : HandSPX.FlyingZ B l e Z h) (k : ∀ b o, h.get? b = some o → h'.get? b = some o) : HandSPX.FlyingZ B l e Z h' := by
  obtain ⟨k1, k2, k3, oe, vs, T, oT, ts, he, hz, hd, h1, hnT, hTe, hT, hdT, h3⟩ := x
  exact ⟨fun b o z => k b o (k1 b o z), k2, k3.of_keeps fun b o hb _ => ⟨o, k b o hb, rfl⟩, oe, vs, T, oT, ts, k _ _ he, hz, hd, h1, hnT, hTe, k _ _ hT, hdT, h3⟩
/-- what a clause's test answers, by the exception's class -/
structure TestOk (X : Cx) (t : Expr) (f : Value → Option Bool) : Prop where
  run : ∀ (a : Addr) (oe : Obj) (pn : List (Addr × Obj)) (s : Shared) (σ : L2.St) (H : Hp) (cls : Value) (b : Bool) (Q : Bool → Shared → Prop) (E : Value → Shared → Prop), Inv (X.suite a ((a, oe) :: pn)) [] σ H s → s.heap.get? a = some oe → oe.cls = cls → f cls = some b →
    (∀ h1 t1, (∀ p o, s.heap.get? p = some o → h1.get? p = some o) → Q b { s with heap := h1, toks := t1 }) →
    wpAny (model X.prog X.w) (X.A.mark (some (.ref a))) (eval t X.env) (fun c s1 => wpAny (model X.prog X.w) (X.A.mark (some (.ref a))) (excMatches (.ref a) c) Q E s1) E s
theorem test_name {X : Cx} {x : Str} {c : Value} {p : Pos} (hc : Names X x c) : TestOk X (.Name x p) (fun cls => PySem.W.exmOne X.K cls c) := by
  constructor
  intro a oe pn s σ H cls b Q E I he hz hb q
  have T1 : PySem.W.Looks (model X.prog X.w) s.heap (typeOf (.ref a)) cls := fun A Q E s k q => wpAny_typeOf_ref (k _ _ he) (by rw [hz]; exact q)
  have T2 := PySem.W.exm_one (M := model X.prog X.w) I.kIn T1 hb
  have q' : Q b s := q s.heap s.toks fun _ _ z => z
  obtain ⟨hg, hdb, hm | ⟨hm, hv, hn⟩⟩ := hc
  · exact ld_glob (X := X.suite a ((a, oe) :: pn)) I hg hm (T2.here q') hdb
  · exact ld_blt (X := X.suite a ((a, oe) :: pn)) I hg hm hv (T2.here q') hn hdb
theorem test_five {X : Cx} {x1 x2 x3 x4 x5 : Str} {C1 C2 C3 C4 C5 : Addr} {p1 p2 p3 p4 p5 p : Pos} {k : Nat} (g1 : Gl X x1) (m1 : X.mg x1 = some (.ref C1)) (g2 : Gl X x2) (m2 : X.mg x2 = some (.ref C2)) (g3 : Gl X x3) (m3 : X.mg x3 = some (.ref C3)) (g4 : Gl X x4) (m4 : X.mg x4 = some (.ref C4)) (g5 : Gl X x5) (m5 : X.mg x5 = some (.ref C5))
    (d1 : (x1 == ("__debug__" : Str)) = false := by decide) (d2 : (x2 == ("__debug__" : Str)) = false := by decide) (d3 : (x3 == ("__debug__" : Str)) = false := by decide) (d4 : (x4 == ("__debug__" : Str)) = false := by decide) (d5 : (x5 == ("__debug__" : Str)) = false := by decide)
    (hs : starEach [.Name x1 p1, .Name x2 p2, .Name x3 p3, .Name x4 p4, .Name x5 p5] X.env = [(false, eval (.Name x1 p1) X.env), (false, eval (.Name x2 p2) X.env), (false, eval (.Name x3 p3) X.env), (false, eval (.Name x4 p4) X.env), (false, eval (.Name x5 p5) X.env)] := by rfl) :
    TestOk X (.Tuple [.Name x1 p1, .Name x2 p2, .Name x3 p3, .Name x4 p4, .Name x5 p5] k p) (fun cls => PySem.W.exmAny X.K cls [.ref C1, .ref C2, .ref C3, .ref C4, .ref C5]) := by
  constructor
  intro a oe pn s σ H cls b Q E I he hz hb q
  have T1 : PySem.W.Looks (model X.prog X.w) s.heap (typeOf (.ref a)) cls := fun A Q E s k q => wpAny_typeOf_ref (k _ _ he) (by rw [hz]; exact q)
  have nm : ∀ {x : Str} {C : Addr} {p : Pos} {Q : Value → Shared → Prop}, Gl X x → X.mg x = some (.ref C) → (x == ("__debug__" : Str)) = false → Q (.ref C) s → wpAny (model X.prog X.w) (X.A.mark (some (.ref a))) (eval (.Name x p) X.env) Q E s := fun g m d z => ld_glob (X := X.suite a ((a, oe) :: pn)) I g m z d
  refine wpAny_Tuple_spliced ?_
  rw [hs]
  refine Calls.spliced_cons (nm g1 m1 d1 (Calls.spliced_cons (nm g2 m2 d2 (Calls.spliced_cons (nm g3 m3 d3 (Calls.spliced_cons (nm g4 m4 d4 (Calls.spliced_cons (nm g5 m5 d5 (Calls.spliced_nil ?_)))))))))) 
  refine ⟨by show 5 ≤ sizeLine; rw [sizeLine_eq]; decide, ?_⟩
  have kp : ∀ p o, s.heap.get? p = some o → (s.heap.push { cls := .type "tuple", data := .seq [Value.ref C1, .ref C2, .ref C3, .ref C4, .ref C5].toArray }).get? p = some o := fun p o z => Heap.get?_push_of_some _ z
  have T2 := PySem.W.mx_tup5 (M := model X.prog X.w) (I.kIn.keeps kp) (T1.keeps kp) (Heap.get?_push_size s.heap rfl) hb
  exact T2.here (q _ s.toks kp)
/-- the caught exception is tracked -/
theorem _root_.L2.Inv.track {X : Cx} {pins : List (Addr × Obj)} {σ : L2.St} {H : Hp} {s : Shared} {a C d : Addr} {oe : Obj} {vs : Array Value} (I : Inv X pins σ H s) (ha : s.heap.get? a = some oe) (h1 : oe.cls = .ref C) (h2 : oe.dict = some d) (hd : oe.data = .fields vs) (h3 : vs[2]? = some .none) (na : H a = none) (nL : a ≠ X.env.locals) (n0 : X.s_0.heap.get? a = none)
    (hp : ∀ p ∈ X.pn ++ pins, p.1 ≠ a) : Inv X pins σ (upd H a (exw a C d)) s := by
  have ne0 : ∀ b o, X.s_0.heap.get? b = some o → b ≠ a := fun b o e z => by
    rw [z, n0] at e
    cases e
  have nt : ∀ {b : Addr} {o : HO}, H b = some o → b ≠ a := fun {b o} e => ne_of_none e na
  refine ⟨I.ok, I.os, I.bare, ⟨I.base.keep, I.base.slot, fun b o e n hx => ?_, I.base.there, fun b xs e => ?_, fun b o u e => ?_, fun b ps e => ?_⟩, I.loc, I.cell, ?_, fun x c e => ?_, fun p hq => ?_, fun b u e => ?_, I.len⟩
  · rw [upd_ne (ne0 b o e)]
    exact I.base.free b o e n hx
  · have q := I.base.tups b xs e
    rw [upd_ne (nt q)]
    exact q
  · have q := I.base.frzs b o u e
    rw [upd_ne (nt q)]
    exact q
  · obtain ⟨m, q⟩ := I.base.tbls b ps e
    exact ⟨m, by rw [upd_ne (nt q)]; exact q⟩
  · rw [upd_ne (Ne.symm nL)]
    exact I.free
  · have hc : c ≠ a := fun z => by
      obtain ⟨v, o, ho, hv⟩ := I.cell x c e
      rw [z, ha] at ho
      cases ho
      rw [hd] at hv
      cases hv
    rw [upd_ne hc]
    exact I.freeC x c e
  · obtain ⟨e, n, q1, q2, q3⟩ := I.pin p hq
    exact ⟨e, by rw [upd_ne (hp p hq)]; exact n, q1, q2, q3⟩
  · by_cases hb : b = a
    · subst hb
      rw [upd_same] at e
      cases e
      exact exw_ok ha h1 h2 hd h3
    · rw [upd_ne hb] at e
      exact (I.hok b u e).stay (fun c v _ q => q) (fun c q => by rw [upd_ne (nt q)]; exact q) fun c xs q => by rw [upd_ne (nt q)]; exact q
theorem _root_.L2.Inv.suiteT {X : Cx} {pins : List (Addr × Obj)} {σ : L2.St} {H : Hp} {s : Shared} (I : Inv X pins σ H s) (a : Addr) : Inv (X.suite a (X.pn ++ pins)) [] σ H s :=
  ⟨I.ok.suite _ _, I.os, I.bare, I.base, I.loc, I.cell, I.free, I.freeC, fun p hq => I.pin p (by rw [List.append_nil] at hq; exact hq), I.hok, I.len⟩
theorem _root_.L2.Inv.unsuiteT {X : Cx} {pins pn' : List (Addr × Obj)} {σ : L2.St} {H : Hp} {s : Shared} {a : Addr} (I : Inv (X.suite a (X.pn ++ pins)) pn' σ H s) (ok : X.Ok) : Inv X pins σ H s :=
  ⟨ok, I.os, I.bare, I.base, I.loc, I.cell, I.free, I.freeC, fun p hq => I.pin p (List.mem_append_left _ hq), I.hok, I.len⟩
/-- what the clauses wish of an exception of the body, one behind the other; the name is slot i -/
def wMas (K : PySem.W.Frag) (i : Nat) (Wout : WX) (D : Ends) : List ((Value → Option Bool) × (Addr → TS)) → WX
  | [] => Wout
  | (f, ts) :: r => fun cls d σ H => ∃ b, f cls = some b ∧ (b = true → ∃ C dd, cls = .ref C ∧ d = some dd ∧ ∀ a, H a = none → ts a { nx := fun σ' H' => D.nx (σ'.set i none) H', rt := D.rt, bk := fun σ' H' => D.bk (σ'.set i none) H', ct := fun σ' H' => D.ct (σ'.set i none) H' } (σ.set i (some (.ref a))) (upd H a (exw a C dd))) ∧ (b = false → wMas K i Wout D r cls d σ H)
inductive HdX (X : Cx) (n : Str) : List ExceptHandler → List ((Value → Option Bool) × (Addr → TS)) → Prop
  | nil : HdX X n [] []
  | cons {t : Expr} {f : Value → Option Bool} {ts : Addr → TS} {b0 : Stmt} {suite : List Stmt} {pos' : Pos} {hds : List ExceptHandler} {l : List ((Value → Option Bool) × (Addr → TS))} (hc : TestOk X t f)
      (hsu : ∀ (a : Addr) (pn : List (Addr × Obj)), PSs (X.suite a pn) (b0 :: suite) (ts a)) (r : HdX X n hds l) :
      HdX X n (.ExceptHandler (some t) (some n) (b0 :: suite) pos' :: hds) ((f, ts) :: l)
section
variable {X : Cx} {n : Str} {i : Nat} {body : List Stmt} {h0 : ExceptHandler} {hds : List ExceptHandler} {l : List ((Value → Option Bool) × (Addr → TS))} {pos : Pos} {tb : WX → TS} {Wout : WX}
theorem ps_tryX (hs : X.stack = X.env :: X.outer) (hf : X.env.frame = some X.env.locals) (hN : X.N.Nodup) (hi : X.N[i]? = some n) (hln : X.env.kindOf n = some .local) (tk : L2N.Takes X Wout) (hex : X.ex = [])
    (hb : ∀ (W : WX) (pn : List (Addr × Obj)) (xe : Value → Shared → Prop), L2N.Takes (X.tr pn xe) W → PassesOwn (model X.prog X.w) X.A X.env xe → PSs (X.tr pn xe) body (tb W))
    (hh : HdX X n (h0 :: hds) l) : PS X (.Try body (h0 :: hds) [] [] pos) (fun D σ H => tb (wMas X.K i Wout D l) D σ H) := by
  refine ⟨fun pins s σ H D I h => ?_⟩
  have ok := I.ok
  have fr0 : X.A.frames = some (X.env :: X.outer) := by rw [ok.frames, hs]
  have lo : Loc X.env.scope n := .inl hln
  refine wpAny_Try_except ?_
  refine wpAny_mono ((hb (wMas X.K i Wout D l) (X.pn ++ pins) (fun e s1 => wpAny (model X.prog X.w) X.A (noteFrame e X.env) (fun _ s2 => wpAny (model X.prog X.w) X.A (setFlight e none) (fun _ s3 =>
    wpAny (model X.prog X.w) X.A (handleBy e X.env (h0 :: hds)) (SP X pins D) X.xe s3) X.xe s2) X.xe s1) (fun u s' xx => ?_) PassesOwn.looking).run [] s σ H D (I.toTry _) h) ?_ (fun e s1 he => he)
  · obtain ⟨a, B, sI, pins', σ', H', cls, d, rfl, J', nb, up, sky, na, os, ag, w⟩ := xx
    have J : Inv X pins σ' H' sI := J'.ofTry ok
    have sky2 : L2.Sky B (X.env :: X.outer) a (L2N.Zn cls d) X.env.locals s'.heap := by rw [← hs]; exact sky
    show wpAny (model X.prog X.w) X.A (noteFrame (.ref a) X.env) _ _ _
    refine L2N.Sky.land L2N.Zn.steady fr0 hf sky2 fun h3 fl3 up3 => ?_
    have nfr : a ∉ frs (X.env :: X.outer) := fun hm => by
      obtain ⟨oe, vs, e1, _, dd⟩ := fl3.there
      obtain ⟨_, o', e', hnf⟩ := fl3.2.2.1.mem hm
      rw [e1] at e'; cases e'
      exact hnf _ dd
    have nL : a ≠ X.env.locals := fun z => nfr (List.mem_filterMap.mpr ⟨X.env, List.mem_cons_self, by rw [hf, z]⟩)
    have nF : a ∉ X.fs := fun hm => by
      obtain ⟨e, he, q⟩ := List.mem_filterMap.mp hm
      exact nfr (List.mem_filterMap.mpr ⟨e, List.mem_cons_of_mem _ he, q⟩)
    have nI : ∀ o, sI.heap.get? a ≠ some o := fun o z => by
      have q := nb a o z (by rw [hs]; exact nfr)
      rw [fl3.2.1] at q
      cases q
    have n0 : X.s_0.heap.get? a = none := by
      cases e : X.s_0.heap.get? a with
      | none => rfl
      | some o =>
        obtain ⟨o', q⟩ := J.base.there a o e (by rw [hex]; exact fun z => nomatch z)
        exact absurd q (nI o')
    have np : ∀ p ∈ X.pn ++ pins, p.1 ≠ a := fun p hp z => nI p.2 (by rw [← z]; exact (J.pin p hp).1)
    have go : ∀ {hds' : List ExceptHandler} {l' : List ((Value → Option Bool) × (Addr → TS))}, HdX X n hds' l' → wMas X.K i Wout D l' cls d σ' H' → ∀ s3 : Shared, HandSPX.FlyingZ B (X.env :: X.outer) a (L2N.Zn cls d) s3.heap → sI.heap.UpToSlots s3.heap → s3.os = sI.os → AllBare s3.gens →
        wpAny (model X.prog X.w) X.A (handleBy (.ref a) X.env hds') (SP X pins D) X.xe s3 := by
      intro hds' l' hk
      induction hk with
      | nil =>
        intro w s3 fl up3 os3 ag3
        refine wpAny_handleBy_nil ?_
        obtain ⟨k1, k2, k3, oe, vs, T, oT, ts', he, hz, hd, h1, hr⟩ := id fl
        unfold PySem.passOn
        refine wpAny_bind (wpAny_field he hd h1 ?_)
        rw [if_neg (show ¬ ((Value.ref T == Value.none) = true) from by simp)]
        have fin : wpAny (model X.prog X.w) X.A (setFlight (.ref a) X.env.frame) (fun _ s4 => wpAny (model X.prog X.w) X.A (throw (.ref a) : Sem Flow) (SP X pins D) X.xe s4) X.xe s3 := by
          rw [hf]
          refine HandSPX.setFlight_upZ fl fun h4 hh4 up4 => wpAny_throw (tk _ _ ?_)
          exact ⟨a, B, sI, pins, σ', H', cls, d, rfl, J, nb, up3.trans up4, .inr (.inr (by rw [hs]; exact hh4)), na, os3, ag3, w⟩
        first
          | exact wpAny_bind (wpAny_pure (wpAny_bind fin))
          | exact wpAny_bind fin
      | @cons t f ts b0 suite pos' hds2 l2 hc hsu r ih =>
        intro w s3 fl up3 os3 ag3
        obtain ⟨b, hb1, hyes, hno⟩ := w
        have J3 : Inv X pins σ' H' s3 := J.landed nb fl.1 up3 os3 ag3
        obtain ⟨oe3, vs3, he3, hz3, hd3⟩ := fl.there
        have S3 := J3.suite he3 hd3 na nL nF
        refine wpAny_handleBy_cons (codeAny_handlers_test ?_) (by intro q; cases q)
        refine hc.run a oe3 (X.pn ++ pins) s3 σ' H' cls b _ _ S3 he3 hz3.1 hb1 fun h4 t4 k4 => ?_
        have fl4 : HandSPX.FlyingZ B (X.env :: X.outer) a (L2N.Zn cls d) h4 := flying_keeps fl k4
        have up4 : sI.heap.UpToSlots h4 := up3.trans fun b o e _ => ⟨o.slots, k4 b o e⟩
        cases b with
        | true =>
          refine codeAny_handlers_suite_as ?_
          refine HandSPX.lands_againZ (s := { s3 with heap := h4, toks := t4 }) fl4 fun h5 fl5 up5 => ?_
          have J5 : Inv X pins σ' H' { s3 with heap := h5, toks := t4 } := J.landed nb fl5.1 (up4.trans up5) os3 ag3
          obtain ⟨oe5, vs5, he5, hz5, hd5⟩ := fl5.there
          obtain ⟨C, dd, ec, ed, hy⟩ := hyes rfl
          have S5 := (J5.track (C := C) (d := dd) he5 (hz5.1.trans ec) (hz5.2.1.trans ed) hd5 (hz5.2.2 _ hd5) na nL n0 np).suiteT a
          refine store_ok (X := X.suite a (X.pn ++ pins)) (v := .ref a) S5 hN hi lo rfl (fun s6 S6 => ?_) (.inr hln)
          refine wpAny_mono ((hsu a (X.pn ++ pins)).run [] s6 _ _ _ S6 (hy a na)) (fun f s7 hsp => ?_) (fun _ _ z => False.elim z)
          have gone : ∀ {σ7 : L2.St} {H7 : Hp} {Q : Shared → Prop}, Inv (X.suite a (X.pn ++ pins)) [] σ7 H7 s7 → (∀ s8, Inv X pins (σ7.set i none) H7 s8 → Q s8) →
              wpAny (model X.prog X.w) X.A (do bindName X.env n .none; unbindBehindTheSuite X.env n pos') (fun _ s8 => Q s8) X.xe s7 := fun {σ7 H7 Q} S7 hq => gone_ok (S7.unsuiteT ok) hN hi hln hq
          cases f with
          | next =>
            obtain ⟨σ7, H7, S7, q7⟩ := hsp
            exact gone S7 fun s8 J8 => ⟨_, _, J8, q7⟩
          | brk =>
            obtain ⟨σ7, H7, S7, q7⟩ := hsp
            exact gone S7 fun s8 J8 => ⟨_, _, J8, q7⟩
          | cont =>
            obtain ⟨σ7, H7, S7, q7⟩ := hsp
            exact gone S7 fun s8 J8 => ⟨_, _, J8, q7⟩
          | ret u =>
            obtain ⟨v7, σ7, H7, S7, r7, q7⟩ := hsp
            exact gone S7 fun s8 J8 => ⟨_, _, _, J8, r7, q7⟩
        | false =>
          show wpAny _ X.A (handleBy (.ref a) X.env hds2) _ _ _
          exact ih (hno rfl) { s3 with heap := h4, toks := t4 } fl4 up4 os3 ag3
    exact go hh w { s' with heap := h3 } fl3 (up.trans up3) os ag
  · intro f s1 hsp
    cases f with
    | next =>
      obtain ⟨σ', H', J', q⟩ := hsp
      exact wpAny_execs_nil ⟨σ', H', J'.ofTry ok, q⟩
    | brk =>
      obtain ⟨σ', H', J', q⟩ := hsp
      exact ⟨σ', H', J'.ofTry ok, q⟩
    | cont =>
      obtain ⟨σ', H', J', q⟩ := hsp
      exact ⟨σ', H', J'.ofTry ok, q⟩
    | ret u =>
      obtain ⟨v, σ', H', J', r, q⟩ := hsp
      exact ⟨v, σ', H', J'.ofTry ok, r, q⟩
end
end MF
end
section
set_option Elab.async false
set_option linter.all false
set_option maxRecDepth 100000
set_option maxHeartbeats 4000000
/-! MX8: try, by functions. -/
namespace MF
open PySem PySem.Spec PyProof.Rows L2
def dropI (i : Nat) : R F → R F
  | .ok (.nx env) st => .ok (.nx (env.set i none)) st
  | .ok (.bk env) st => .ok (.bk (env.set i none)) st
  | .ok (.ct env) st => .ok (.ct (env.set i none)) st
  | .ok (.rt d) st => .ok (.rt d) st
  | _ => .stuck
abbrev Hd := (Addr → Option Bool) × (Env → S → R F)
def handle (nl i : Nat) : List Hd → Addr → Str → D → S → R F
  | [], C, f, x, st => .ex C f x st
  | (p, u) :: r, C, f, x, st => match p C with
    | some true => dropI i (u ((List.replicate nl none).set i (some (.exc C f x))) st)
    | some false => handle nl i r C f x st
    | none => .stuck
def sTry (nl i : Nat) (m : Env → S → R F) (hs : List Hd) : Env → S → R F := fun env st => match m env st with
  | .ex C f x st1 => handle nl i hs C f x st1
  | r => r
inductive HdM (X : Cx) (n : Str) : List ExceptHandler → List Hd → Prop
  | nil : HdM X n [] []
  | cons {t : Expr} {f : Value → Option Bool} {p : Addr → Option Bool} {u : Env → S → R F} {b0 : Stmt} {suite : List Stmt} {pos' : Pos} {hds : List ExceptHandler} {l : List Hd} (hc : TestOk X t f) (hp : ∀ C b, p C = some b → f (.ref C) = some b)
      (hsu : ∀ (a : Addr) (pn : List (Addr × Obj)), PSs (X.suite a pn) (b0 :: suite) (tMS X.K W0 u)) (r : HdM X n hds l) : HdM X n (.ExceptHandler (some t) (some n) (b0 :: suite) pos' :: hds) ((p, u) :: l)
theorem EnvR.unset {K : PySem.W.Frag} {ι : List Addr} {H : Hp} {σ : L2.St} {env : Env} (e : EnvR K ι H σ env) (i : Nat) : EnvR K ι H (σ.set i none) (env.set i none) := by
  refine ⟨by rw [List.length_set, List.length_set, e.len], fun j d h => ?_⟩
  by_cases hij : i = j
  · subst hij
    by_cases hl : i < env.length
    · rw [List.getElem?_set_self hl] at h
      cases h
    · rw [List.getElem?_eq_none (by simpa using hl)] at h
      cases h
  · rw [List.getElem?_set_ne hij] at h ⊢
    exact e.get j d h
theorem EnvR.caught {K : PySem.W.Frag} {ι : List Addr} {H : Hp} {σ : L2.St} {a : Addr} {d : D} {nl i : Nat} (hl : σ.length = nl) (e : Den K ι H (.ref a) d) : EnvR K ι H (σ.set i (some (.ref a))) ((List.replicate nl none).set i (some d)) := by
  refine ⟨by rw [List.length_set, List.length_set, List.length_replicate, hl], fun j d' h => ?_⟩
  by_cases hij : i = j
  · subst hij
    have hlt : i < nl := by
      have q := (List.getElem?_eq_some_iff.mp h).1
      rw [List.length_set, List.length_replicate] at q
      exact q
    rw [List.getElem?_set_self (by rw [List.length_replicate]; exact hlt)] at h
    cases h
    exact ⟨_, List.getElem?_set_self (by rw [hl]; exact hlt), e⟩
  · rw [List.getElem?_set_ne hij, List.getElem?_replicate] at h
    split at h <;> cases h
theorem postS_drop {K : PySem.W.Frag} {W : L2.WX} {ι : List Addr} {H : Hp} {r : R F} {i : Nat} {D : Ends} (h : PostS K W ι H (dropI i r) D) : PostS K W0 ι H r { nx := fun σ' H' => D.nx (σ'.set i none) H', rt := D.rt, bk := fun σ' H' => D.bk (σ'.set i none) H', ct := fun σ' H' => D.ct (σ'.set i none) H' } := by
  cases r with
  | ok f st =>
    cases f with
    | nx env => exact fun ι' H' σ' s r e => h ι' H' _ s r (e.unset i)
    | bk env => exact fun ι' H' σ' s r e => h ι' H' _ s r (e.unset i)
    | ct env => exact fun ι' H' σ' s r e => h ι' H' _ s r (e.unset i)
    | rt d => exact h
  | ex c f p st => exact h.elim
  | stuck => exact h.elim
section
variable {X : Cx} {W : L2.WX} {n : Str} {i : Nat} {body : List Stmt} {h0 : ExceptHandler} {hds : List ExceptHandler} {l : List Hd} {pos : Pos} {m : Env → S → R F}
theorem HdM.hdx : ∀ {hds : List ExceptHandler} {l : List Hd}, HdM X n hds l → ∃ l', HdX X n hds l' ∧ ∀ (En : Ends) (ι : List Addr) (H : Hp) (C : Addr) (f : Str) (x : D) (st : S), PostS X.K W ι H (handle X.N.length i l C f x st) En →
    ∀ ι' H' dd v (σ' : L2.St), Stp ι H ι' H' → Rel X.K ι' H' st → dd ∉ ι' → H' dd = some (.xd [(f, v)]) → Den X.K ι' H' v x → σ'.length = X.N.length → wMas X.K i W En l' (.ref C) (some dd) σ' H'
  | _, _, .nil => ⟨[], .nil, fun En ι H C f x st h ι' H' dd v σ' s r hn hx e _ => h ι' H' dd v σ' s r hn hx e⟩
  | _, _, .cons (f := g) (p := p) (u := u) hc hp hsu rr => by
    obtain ⟨l', h1, h2⟩ := HdM.hdx rr
    refine ⟨_, .cons hc hsu h1, fun En ι H C f x st h ι' H' dd v σ' s r hn hx e hl => ?_⟩
    unfold handle at h
    split at h
    · rename_i hb
      refine ⟨true, hp C true hb, fun _ => ⟨C, dd, rfl, rfl, fun a na => ?_⟩, fun z => Bool.noConfusion z⟩
      have s2 : Stp ι' H' ι' (upd H' a (exw a C dd)) := new_stp na
      have ne : dd ≠ a := ne_of_none hx na
      refine ⟨ι', _, st, EnvR.caught hl (.exc (r.fresh na) upd_same hn (by rw [upd_ne ne]; exact hx) (e.stp s2)), r.new na, ?_⟩
      exact postS_drop (PostS.step (s.trans s2) h)
    · rename_i hb
      exact ⟨false, hp C false hb, fun z => Bool.noConfusion z, fun _ => h2 En ι H C f x st h ι' H' dd v σ' s r hn hx e hl⟩
    · exact h.elim
theorem ms_try (hs : X.stack = X.env :: X.outer) (hf : X.env.frame = some X.env.locals) (hN : X.N.Nodup) (hi : X.N[i]? = some n) (hln : X.env.kindOf n = some .local) (tk : L2N.Takes X W) (hex : X.ex = [])
    (hb : ∀ (W : WX) (pn : List (Addr × Obj)) (xe : Value → Shared → Prop), L2N.Takes (X.tr pn xe) W → PassesOwn (model X.prog X.w) X.A X.env xe → PSs (X.tr pn xe) body (tMS X.K W m))
    (hh : HdM X n (h0 :: hds) l) : PS X (.Try body (h0 :: hds) [] [] pos) (tMS X.K W (sTry X.N.length i m l)) := by
  obtain ⟨l', h1, h2⟩ := hh.hdx (W := W) (i := i)
  refine (ps_tryX (tb := fun W => tMS X.K (fun c d σ H => σ.length = X.N.length → W c d σ H) m) hs hf hN hi hln tk hex (fun W' pn xe tk' hp => hb _ pn xe (fun u s' z => tk' u s' ?_) hp) h1).imp fun D σ H ⟨ι, env, st, er, r, h⟩ => ?_
  · obtain ⟨a, B, sI, pins, σ, H, cls, d, e, I, nb, up, sky, na, os, ag, w⟩ := z
    exact ⟨a, B, sI, pins, σ, H, cls, d, e, I, nb, up, sky, na, os, ag, w I.len⟩
  · refine ⟨ι, env, st, er, r, ?_⟩
    unfold sTry at h
    revert h
    cases m env st with
    | ok f st1 => cases f <;> exact fun h => h
    | ex C f x st1 => exact fun h ι' H' dd v σ' s r hn hx e hl => h2 D ι H C f x st1 h ι' H' dd v σ' s r hn hx e hl
    | stuck => exact fun h => h
end
end MF
end
section
set_option Elab.async false
set_option linter.all false
set_option maxRecDepth 100000
set_option maxHeartbeats 4000000
/-! MX9: blocks joined, objects that change no more, while. -/
namespace MF
open PySem PySem.Spec PyProof.Rows L2
theorem execs_app (env : PySem.Env) : ∀ a b : List Stmt, execs (a ++ b) env = (execs a env >>= fun f => match f with | .next => execs b env | f => pure f)
  | [], b => by
    show execs b env = _
    rw [show execs [] env = pure Flow.next from by unfold execs; rfl, pure_bind]
  | s :: a, b => by
    show execs (s :: (a ++ b)) env = _
    rw [show ∀ r, execs (s :: r) env = (exec s env >>= fun f => match f with | .next => execs r env | f => pure f) from fun r => by rw [execs]; rfl, show execs (s :: a) env = (exec s env >>= fun f => match f with | .next => execs a env | f => pure f) from by rw [execs]; rfl, bind_assoc]
    congr 1
    funext f
    cases f with
    | next => exact execs_app env a b
    | ret v => rw [pure_bind]
    | brk => rw [pure_bind]
    | cont => rw [pure_bind]
section
variable {X : Cx} {W : L2.WX} {a b : List Stmt} {m u : Env → S → R F}
theorem ms_app (h1 : PSs X a (tMS X.K W m)) (h2 : PSs X b (tMS X.K W u)) : PSs X (a ++ b) (tMS X.K W (sSeq m u)) := by
  refine ⟨fun pins s σ H D I ⟨ι, env, st, er, r, h⟩ => ?_⟩
  rw [execs_app]
  refine wpAny_bind (thn (h1.run pins s σ H { D with nx := tMS X.K W u D } I ⟨ι, env, st, er, r, postS_seq h⟩) fun f s1 q => ?_)
  cases f with
  | next =>
    obtain ⟨σ', H', I', q⟩ := q
    exact h2.run pins s1 σ' H' D I' q
  | ret v => exact wpAny_pure q
  | brk => exact wpAny_pure q
  | cont => exact wpAny_pure q
/-! ### objects that change no more -/
def frzE (n : Nat) (env : Env) (st : S) : Env := env.map (Option.map fun d => pick n d st)
def lowO (n : Nat) : Option D → Bool
  | some d => d.low n
  | none => true
def okF (n b : Nat) (env : Env) (st : S) : Bool := decide (b ≤ n) && (decide (n < st.length) && ((frzE n env st).all (lowO n) && (st.take n).all (·.low n)))
def sBlkF (i : Nat) (m : Env → S → R F) : Env → S → R F := fun env st => match m env st with
  | .ok (.nx env1) st1 => match env1[i]? with
    | some (some (.loc n)) => if okF n st.length env1 st1 = true then .ok (.nx (frzE n env1 st1)) (st1.take n) else .ok (.nx env1) st1
    | _ => .ok (.nx env1) st1
  | r => r
theorem Stp.cutN {ι0 ι : List Addr} {H0 H : Hp} {n : Nat} (s : Stp ι0 H0 ι H) (h : ι0.length ≤ n) : Stp ι0 H0 (ι.take n) H := by
  obtain ⟨t, e⟩ := id s.pre
  refine ⟨?_, fun a o na t q => ⟨fun z => (s.keep a o na t q).1 (List.mem_of_mem_take z), (s.keep a o na t q).2⟩⟩
  rw [← e, List.take_append_of_le_length_or h]
  exact List.prefix_append _ _
where
  List.take_append_of_le_length_or {α : Type} {l t : List α} {n : Nat} (h : l.length ≤ n) : (l ++ t).take n = l ++ t.take (n - l.length) := by
    rw [List.take_append, List.take_of_length_le h]
theorem EnvR.frz {K : PySem.W.Frag} {ι : List Addr} {H : Hp} {σ : L2.St} {env : Env} {st : S} {n : Nat} (e : EnvR K ι H σ env) (r : Rel K ι H st) (h : (frzE n env st).all (lowO n) = true) : EnvR K (ι.take n) H σ (frzE n env st) := by
  refine ⟨by unfold frzE; rw [List.length_map]; exact e.len, fun i d hd => ?_⟩
  have hl := (List.all_eq_true.mp h) _ (List.mem_of_getElem? hd)
  unfold frzE at hd
  rw [List.getElem?_map] at hd
  cases q : env[i]? with
  | none => rw [q] at hd; cases hd
  | some o =>
    rw [q] at hd
    cases o with
    | none => cases hd
    | some d0 =>
      cases hd
      obtain ⟨v, h1, h2⟩ := e.get i d0 q
      exact ⟨v, h1, pick_den r h2 hl⟩
theorem mss_frz (i : Nat) (h : PSs X a (tMS X.K W m)) : PSs X a (tMS X.K W (sBlkF i m)) := MF.PSs_imp h
where
  MF.PSs_imp (h : PSs X a (tMS X.K W m)) : PSs X a (tMS X.K W (sBlkF i m)) := L2.PSs.imp h fun D σ H ⟨ι, env, st, er, r, h⟩ => by
    refine ⟨ι, env, st, er, r, ?_⟩
    unfold sBlkF at h
    revert h
    cases m env st with
    | ok f st1 =>
      cases f with
      | nx env1 =>
        dsimp only
        split
        · rename_i n hn
          split
          · rename_i hc
            intro h ι' H' σ' s' r' e'
            unfold okF at hc
            simp only [Bool.and_eq_true, decide_eq_true_eq] at hc
            obtain ⟨c1, c2, c3, c4⟩ := hc
            exact h (ι'.take n) H' σ' (s'.cutN (by rw [r.len]; exact c1)) (r'.cut c4) (e'.frz r' c3)
          · exact fun h => h
        · exact fun h => h
      | rt d => exact fun h => h
      | bk e => exact fun h => h
      | ct e => exact fun h => h
    | ex C f x st1 => exact fun h => h
    | stuck => exact fun h => h
/-! ### while -/
def wloop (t : Env → S → R Bool) (m : Env → S → R F) : Nat → Env → S → R F
  | 0, _, _ => .stuck
  | k + 1, env, st => (t env st).bind fun b st1 => match b with
    | false => .ok (.nx env) st1
    | true => (m env st1).bind fun f st2 => match f with
      | .nx e => wloop t m k e st2
      | .ct e => wloop t m k e st2
      | .bk e => .ok (.nx e) st2
      | .rt d => .ok (.rt d) st2
def sWhile (k : Nat) (t : Env → S → R Bool) (m : Env → S → R F) : Env → S → R F := wloop t m k
theorem ms_while {c : Expr} {pos : Pos} {t : Env → S → R Bool} (k : Nat) (hp : PassesOwn (model X.prog X.w) X.A X.env X.xe) (hc : PT X c (tMT X.K W t)) (hb : PSs X a (tMS X.K W m)) : PS X (.While c a [] pos) (tMS X.K W (sWhile k t m)) :=
  (ps_while hp hc hb).imp fun D σ H ⟨ι, env, st, er, r, h⟩ => by
    refine ⟨fun n σ1 H1 => ∃ ι1 env1 st1, Stp ι H ι1 H1 ∧ EnvR X.K ι1 H1 σ1 env1 ∧ Rel X.K ι1 H1 st1 ∧ PostS X.K W ι1 H1 (wloop t m n env1 st1) D, ⟨k, ι, env, st, .refl, er, r, h⟩, ?_⟩
    rintro n σ1 H1 ⟨ι1, env1, st1, s1, er1, r1, h1⟩
    cases n with
    | zero => exact h1.elim
    | succ n =>
      unfold wloop at h1
      refine seqST er1 r1 h1 fun ι2 H2 b st2 er2 s2 r2 h2 => ?_
      cases b with
      | false => exact iteF (h2 ι2 H2 σ1 .refl r2 er2)
      | true =>
        refine iteT ⟨fun σ3 H3 => ∃ ι3 env3 st3, Stp ι H ι3 H3 ∧ EnvR X.K ι3 H3 σ3 env3 ∧ Rel X.K ι3 H3 st3 ∧ PostS X.K W ι3 H3 (wloop t m n env3 st3) D, fun σ3 H3 z => ⟨n, Nat.lt_succ_self _, z⟩, ι2, env1, st2, er2, r2, ?_⟩
        revert h2
        cases hm : m env1 st2 with
        | ok g st4 =>
          cases g with
          | nx env4 => exact fun h3 ι5 H5 σ5 s5 r5 e5 => ⟨ι5, env4, st4, (s1.trans s2).trans s5, e5, r5, PostS.step s5 h3⟩
          | ct env4 => exact fun h3 ι5 H5 σ5 s5 r5 e5 => ⟨ι5, env4, st4, (s1.trans s2).trans s5, e5, r5, PostS.step s5 h3⟩
          | bk env4 => exact fun h3 => h3
          | rt d => exact fun h3 => h3
        | ex c f p st => exact fun h3 => h3
        | stuck => exact fun h3 => h3
end
end MF
end
section
set_option Elab.async false
set_option linter.all false
set_option maxRecDepth 100000
set_option maxHeartbeats 4000000
/-! MXA: comprehensions of any kind, clause by clause, of functions. -/
namespace MF
open PySem PySem.Spec PyProof.Rows L2
/-- the loop of a clause -/
def lLoop (f : D → Env → Option Env) (t : Env → S → R Bool) (a : Env → S → R Unit) (env : Env) : List D → S → R Unit
  | [], st => .ok () st
  | d :: ds, st => match f d env with
    | none => .stuck
    | some env1 => match t env1 st with
      | .ok false st1 => lLoop f t a env ds st1
      | .ok true st1 => match a env1 st1 with
        | .ok () st2 => lLoop f t a env ds st2
        | _ => .stuck
      | _ => .stuck
/-- an act's reading: L is the n0-th object -/
def tAct (K : PySem.W.Frag) (a : Nat → Env → S → R Unit) (L : Addr) : L2.St → Hp → (Hp → Prop) → Prop := fun σ H Nx => ∃ n0 ι env st, EnvR K ι H σ env ∧ Rel K ι H st ∧ ι[n0]? = some L ∧ match a n0 env st with
  | .ok () st' => ∀ ι' H', Stp ι H ι' H' → Rel K ι' H' st' → Nx H'
  | _ => False
theorem rd_it {J : It} {n : Nat} {G : Hp → Prop} {Y : Nat → Hp → V → Hp → Prop} (w : Walk J n G Y) {g : TG} {tt : TT} {vs : List Nat} {body : L2.St → Hp → (Hp → Prop) → Prop} {σ : L2.St} {H1 : Hp} {Nx : Hp → Prop} (Pv : Nat → Hp → Prop) (h0 : Pv 0 H1) (hG : ∀ i H, i ≤ n → Pv i H → G H)
    (hs : ∀ i x H H', i < n → Pv i H → Y i H x H' → g x (wipe σ vs) H' fun σ2 H2 => wipe σ2 vs = wipe σ vs ∧ tt σ2 H2 fun b H3 => if b = true then body σ2 H3 (Pv (i + 1)) else Pv (i + 1) H3) (hd : ∀ H, Pv n H → Nx H) : readLevel J g tt vs body σ H1 Nx := by
  refine ⟨fun i m H => m = n - i ∧ i ≤ n ∧ Pv i H, ⟨n, by simp, Nat.zero_le _, h0⟩, ?_⟩
  rintro i m H ⟨rfl, hi, p⟩
  have q := hG i H hi p
  by_cases hlt : i < n
  · exact .inr ⟨w.goes i H hlt q, Pv (i + 1), fun H' p' => ⟨n - (i + 1), by omega, rfl, hlt, p'⟩, fun x H' y => hs i x H H' hlt p (w.yields i H x H' hlt q y)⟩
  · have e : i = n := by omega
    subst e
    exact .inl ⟨w.stops H q, hd H p⟩
theorem lLoop_reads {K : PySem.W.Frag} {σ : L2.St} {ι0 ι1 : List Addr} {H0 H1 : Hp} {st1 : S} {env : Env} {vs js : List Nat} {J : It} {ds : List D} {f : D → Env → Option Env} {t : Env → S → R Bool} {a : Nat → Env → S → R Unit} {L : Addr} {n0 : Nat} {Nx : Hp → Prop} {st9 : S} (hjs : ∀ j, j ∈ js → j ∈ vs)
    (w : WalksD K ι0 H0 J ds) (s0 : Stp ι0 H0 ι1 H1) (er : EnvR K ι1 H1 σ env) (r1 : Rel K ι1 H1 st1) (atL : ι1[n0]? = some L) (hl : lLoop f t (a n0) (wipeE env vs) ds st1 = .ok () st9) (q : ∀ ι H, Stp ι1 H1 ι H → Rel K ι H st9 → Nx H) :
    readLevel J (tMG K js f) (tMT K W0 t) vs (tAct K a L) σ H1 Nx := by
  obtain ⟨G, Y, wk, hG, hY⟩ := w.ex
  refine rd_it wk (fun i H => ∃ ι st, Stp ι1 H1 ι H ∧ Rel K ι H st ∧ lLoop f t (a n0) (wipeE env vs) (ds.drop i) st = .ok () st9) ⟨ι1, st1, .refl, r1, by rw [List.drop_zero]; exact hl⟩ (fun i H _ ⟨ι, st, s, _⟩ => hG ι H (s0.trans s)) ?_ ?_
  · rintro i x H H' hi ⟨ι, st, s, r, hc⟩ y
    obtain ⟨s2, r2, d, hd, ed⟩ := hY ι H i x H' st (s0.trans s) r hi y
    have hdrop : ds.drop i = d :: ds.drop (i + 1) := by
      rw [List.drop_eq_getElem_cons hi]
      congr 1
      rw [List.getElem?_eq_getElem hi] at hd
      exact Option.some.inj hd
    rw [hdrop] at hc
    unfold lLoop at hc
    split at hc
    · cases hc
    · rename_i env1 he
      refine ⟨ι, wipeE env vs, d, env1, ((er.stp s).stp s2).wipe vs, ed, he, fun σ2 er2 hlen hkeep => ⟨wipe_back hjs hlen hkeep, ι, env1, st, er2, r2, ?_⟩⟩
      split at hc
      · rename_i st3 ht
        rw [ht]
        intro ι3 H3 b s3 r3 eb
        subst eb
        rw [if_neg (by decide)]
        exact ⟨ι3, st3, (s.trans s2).trans s3, r3, hc⟩
      · rename_i st3 ht
        rw [ht]
        intro ι3 H3 b s3 r3 eb
        subst eb
        rw [if_pos rfl]
        refine ⟨n0, ι3, env1, st3, er2.stp s3, r3, ((s.trans s2).trans s3).get atL, ?_⟩
        split at hc
        · rename_i st4 hy
          exact fun ι4 H4 s4 r4 => ⟨ι4, st4, ((s.trans s2).trans s3).trans s4, r4, hc⟩
        · cases hc
      · cases hc
  · rintro H ⟨ι, st, s, r, hc⟩
    rw [List.drop_length] at hc
    cases hc
    exact q ι H s r
theorem ActOk.imp {B : Cx} {js : List Nat} {act : Sem Unit} {body body' : L2.St → Hp → (Hp → Prop) → Prop} (h : ActOk B js act body) (hi : ∀ σ H Nx, body' σ H Nx → body σ H Nx) : ActOk B js act body' := fun pins s σ H Nx I q => h pins s σ H Nx I (hi σ H Nx q)
/-! ### acts -/
def aApp (e : Env → S → R D) (n0 : Nat) : Env → S → R Unit := fun env st => match e env st with
  | .ok y st2 => match st2[n0]? with
    | some (.lst acc) => if acc.length < sizeLine then .ok () (st2.set n0 (.lst (acc ++ [y]))) else .stuck
    | _ => .stuck
  | _ => .stuck
def aMore (vs : List Nat) (it : Env → S → R (List D)) (f : D → Env → Option Env) (t : Env → S → R Bool) (a : Nat → Env → S → R Unit) (n0 : Nat) : Env → S → R Unit := fun env st => match it env st with
  | .ok ds st1 => lLoop f t (a n0) (wipeE env vs) ds st1
  | _ => .stuck
def sApp (elt : Expr) (acc : Value) (env : PySem.Env) : Sem Unit := do let _ ← call (.builtin "list.append") [acc, ← eval elt env]
theorem ma_app {B : Cx} {elt : Expr} {e : Env → S → R D} {L : Addr} (he : PE (B.wish fun _ _ => False) elt (tM B.K W0 e)) : ActOk B [] (sApp elt (.ref L) B.env) (tAct B.K (aApp e) L) := by
  refine (act_last (L := L) he).imp ?_
  rintro σ H Nx ⟨n0, ι, env, st, er, r, atL, h⟩
  refine ⟨ι, env, st, er, r, ?_⟩
  unfold aApp at h
  cases hy : e env st with
  | stuck => rw [hy] at h; exact h
  | ex c f p st2 => rw [hy] at h; exact h.elim
  | ok y st2 =>
    rw [hy] at h
    intro ι' H' v s r' ev
    have at' := s.get atL
    dsimp only at h
    cases hacc : st2[n0]? with
    | none => rw [hacc] at h; exact h.elim
    | some ob =>
      rw [hacc] at h
      cases ob with
      | lst acc =>
        dsimp only at h
        by_cases hz : acc.length < sizeLine
        · rw [if_pos hz] at h
          obtain ⟨xs, h1, h2⟩ := r'.obs _ L _ at' hacc
          exact ⟨xs, h1, by rw [h2.length]; exact hz, h ι' _ (s.trans (chg_stp at')) (r'.chg at' (ob := .lst (acc ++ [y])) ⟨_, upd_same, (h2.append (.cons ev .nil)).stp (chg_stp at')⟩)⟩
        · rw [if_neg hz] at h; exact h.elim
      | dct _ => exact h.elim
      | dik _ => exact h.elim
      | ins _ _ => exact h.elim
      | tab _ _ => exact h.elim
theorem ma_more {B : Cx} {c0 : Expr} {k : Nat} {acc : Value} {p : Pos} {tg iter : Expr} {ifs : List Expr} {vs js : List Nat} {act : Sem Unit} {it : Env → S → R (List D)} {f : D → Env → Option Env} {t : Env → S → R Bool} {a : Nat → Env → S → R Unit} {L : Addr} (nf : NF c0) (hjs : ∀ j ∈ js, j ∈ vs) (hc : B.calm = true)
    (pi : PI (B.wish fun _ _ => False) tg iter (tMI B.K W0 it)) (hs : ∀ x, foldedSetIterable iter B.env x = pure x)
    (pg : PG (B.wish fun _ _ => False) tg (tMG B.K js f)) (pt : PTs (B.wish fun _ _ => False) ifs (tMT B.K W0 t)) (ha : ActOk B js act (tAct B.K a L)) (eqn : ∀ it, compTurn c0 k it acc B.env = turnOf p tg ifs it B.env act (.compLoop c0 k it acc B.env))
    (begins : ∀ (it : Value) (R : Result → Shared → Prop) (s : Shared), codeAny (model B.prog B.w) B.A (.compLoop c0 k it acc B.env) R s → wpAny (model B.prog B.w) B.A (pyIter it) (fun it' s' => codeAny (model B.prog B.w) B.A (.compLoop c0 k it' acc B.env) R s') (notedBy (model B.prog B.w) B.A B.env fun x s' => R (.error x) s') s →
      codeAny (model B.prog B.w) B.A (.compStart c0 k it acc B.env) R s) :
    ActOk B vs (do let x ← eval iter B.env; standAt iter.pos; let x ← foldedSetIterable iter B.env x; let _ ← runOwn (.compStart c0 k (← holding [x] (pyIter x)) acc B.env) B.env) (tAct B.K (aMore vs it f t a) L) := by
  refine (act_more nf hjs hc pi hs pg pt ha eqn begins).imp ?_
  rintro σ H Nx ⟨n0, ι, env, st, er, r, atL, h⟩
  refine ⟨ι, env, st, er, r, ?_⟩
  unfold aMore at h
  cases hy : it env st with
  | stuck => rw [hy] at h; exact h
  | ex c f p st2 => rw [hy] at h; exact h.elim
  | ok ds st1 =>
    rw [hy] at h
    intro ι' H' J s r' wk
    dsimp only at h
    cases hl : lLoop f t (a n0) (wipeE env vs) ds st1 with
    | stuck => rw [hl] at h; exact h.elim
    | ex c f p st2 => rw [hl] at h; exact h.elim
    | ok u st9 =>
      rw [hl] at h
      exact lLoop_reads hjs wk .refl (er.stp s) r' (s.get atL) hl fun ι2 H2 s2 r2 => h ι2 H2 (s.trans s2) r2
/-! ### the whole -/
def mCo (ob : Ob) (vs : List Nat) (it : Env → S → R (List D)) (f : D → Env → Option Env) (t : Env → S → R Bool) (a : Nat → Env → S → R Unit) : Env → S → R D := fun env st => (it env st).bind fun ds st1 => match lLoop f t (a st1.length) (wipeE env vs) ds (st1 ++ [ob]) with
  | .ok () st2 => fin st1.length (.loc st1.length) st2
  | _ => .stuck
def mCoM (ob : Ob) (vs : List Nat) (it : Env → S → R (List D)) (f : D → Env → Option Env) (t : Env → S → R Bool) (a : Nat → Env → S → R Unit) : Env → S → R D := fun env st => (it env st).bind fun ds st1 => match lLoop f t (a st1.length) (wipeE env vs) ds (st1 ++ [ob]) with
  | .ok () st2 => .ok (.loc st1.length) st2
  | _ => .stuck
section
variable {X : Cx} {W : L2.WX} {c0 tg iter : Expr} {ifs : List Expr} {scope : Scope} {own : List (Str × Nat)} {newAcc : Sem Value} {ho : Addr → HO} {ob : Ob} {it : Env → S → R (List D)} {js : List Nat} {f : D → Env → Option Env} {t : Env → S → R Bool} {a : Nat → Env → S → R Unit}
theorem me_co (act : Value → PySem.Env → Sem Unit) (ce : CompE c0 tg iter ifs scope newAcc) (hA : AccOk X newAcc ho) (hob : ∀ ι H p, ObR X.K (ι ++ [p]) (upd H p (ho p)) p ob) (hc : X.calm = true) (hN : X.N.Nodup) (hi : PI X tg iter (tMI X.K W it)) (ok : BlkOk X.N X.env.scope scope own)
    (hjs : ∀ j ∈ js, j ∈ own.map (·.2)) (hg : ∀ (s : Shared) (H : Hp) (C : Addr) (cl : List (Str × Addr)) (fp : List Addr), PG (X.blk s H scope (compEnvC scope cl C X.env) fp) tg (tMG X.K js f)) (ht : ∀ (s : Shared) (H : Hp) (C : Addr) (cl : List (Str × Addr)) (fp : List Addr), PTs (X.blk s H scope (compEnvC scope cl C X.env) fp) ifs (tMT X.K W0 t))
    (ha : ∀ (s : Shared) (H : Hp) (C : Addr) (cl : List (Str × Addr)) (fp : List Addr) (L : Addr), ActOk (X.blk s H scope (compEnvC scope cl C X.env) fp) js (act (.ref L) (compEnvC scope cl C X.env)) (tAct X.K a L))
    (eqn : ∀ (it acc : Value) (env : PySem.Env), compTurn c0 0 it acc env = turnOf iter.pos tg ifs it env (act acc env) (.compLoop c0 0 it acc env)) (hs : ∀ x, foldedSetIterable iter X.env x = pure x := by intro _; rfl) :
    PE X c0 (tM X.K W (mCo ob (own.map (·.2)) it f t a)) ∧ PE X c0 (tM X.K W (mCoM ob (own.map (·.2)) it f t a)) := by
  have base := pe_levels act ce hA hc hN hi ok hjs hg ht ha eqn hs
  constructor
  · refine base.imp ?_
    rintro σ H Q ⟨ι, env, st, er, r, h⟩
    refine ⟨ι, env, st, er, r, (Post.bind (ρ := fun ι' H' (J : It) ds => WalksD X.K ι' H' J ds) h).mono ?_⟩
    rintro J H1 ⟨ι1, ds, st1, s1, r1, w1, h1⟩ L hL
    split at h1
    · rename_i st9 h9
      have s0 : Stp ι1 H1 (ι1 ++ [L]) (upd H1 L (ho L)) := newl_stp r1 hL
      have atL : (ι1 ++ [L])[st1.length]? = some L := by rw [← r1.len, List.getElem?_append_right (Nat.le_refl _), Nat.sub_self]; rfl
      refine lLoop_reads (n0 := st1.length) hjs w1 s0 ((er.stp s1).stp s0) (r1.newl hL (hob _ _ _)) atL h9 fun ι2 H2 s2 r2 => ?_
      have atL2 := s2.get atL
      rw [← r1.len] at h1 atL2
      exact post_fin (s0.trans s2) r2 (.loc atL2) h1
    · exact h1.elim
  · refine base.imp ?_
    rintro σ H Q ⟨ι, env, st, er, r, h⟩
    refine ⟨ι, env, st, er, r, (Post.bind (ρ := fun ι' H' (J : It) ds => WalksD X.K ι' H' J ds) h).mono ?_⟩
    rintro J H1 ⟨ι1, ds, st1, s1, r1, w1, h1⟩ L hL
    split at h1
    · rename_i st9 h9
      have s0 : Stp ι1 H1 (ι1 ++ [L]) (upd H1 L (ho L)) := newl_stp r1 hL
      have atL : (ι1 ++ [L])[st1.length]? = some L := by rw [← r1.len, List.getElem?_append_right (Nat.le_refl _), Nat.sub_self]; rfl
      refine lLoop_reads (n0 := st1.length) hjs w1 s0 ((er.stp s1).stp s0) (r1.newl hL (hob _ _ _)) atL h9 fun ι2 H2 s2 r2 => ?_
      exact h1 ι2 H2 _ (s0.trans s2) r2 (.loc (s2.get atL))
    · exact h1.elim
end
end MF
end
section
set_option Elab.async false
set_option linter.all false
set_option maxRecDepth 100000
set_option maxHeartbeats 4000000
/-! MXB: dicts. -/
namespace MF
open PySem PySem.Spec PyProof.Rows L2
section
variable {κ : Type} [DecidableEq κ]
def valD (kvs : List (κ × D)) (k : κ) : Option D := match kvs with
  | [] => none
  | p :: r => if p.1 = k then some p.2 else valD r k
def setD (kvs : List (κ × D)) (k : κ) (d : D) : List (κ × D) := match kvs with
  | [] => []
  | p :: r => (if p.1 = k then (p.1, d) else p) :: setD r k d
def putKD (kvs : List (κ × D)) (k : κ) (d : D) : List (κ × D) := match valD kvs k with
  | some _ => setD kvs k d
  | none => kvs ++ [(k, d)]
end
def keyK : D → Option Key
  | .int i => some (.inl i)
  | .str x => some (.inr x)
  | _ => none
def keysK : List D → Option (List Key)
  | [] => some []
  | d :: ds => match keyK d, keysK ds with
    | some k, some ks => some (k :: ks)
    | _, _ => none
def keyT : D → Option (List Key)
  | .tup ds => keysK ds
  | _ => none
section
variable {K : PySem.W.Frag} {ι : List Addr} {H : Hp}
theorem keyK_den {v : V} {d : D} {k : Key} (e : Den K ι H v d) (h : keyK d = some k) : v = kV k := by
  cases e <;> simp only [keyK] at h <;> cases h <;> rfl
theorem keysK_den : ∀ {vs : List V} {ds : List D} {ks : List Key}, DenL K ι H vs ds → keysK ds = some ks → vs = ks.map kV
  | _, _, _, .nil, h => by
    simp only [keysK] at h
    cases h
    rfl
  | _, _, _, .cons (d := d) (ds := ds) e es, h => by
    simp only [keysK] at h
    split at h
    · rename_i k ks h1 h2
      cases h
      rw [List.map_cons, keyK_den e h1, keysK_den es h2]
    · cases h
theorem keyT_den {v : V} {d : D} {k : List Key} (e : Den K ι H v d) (h : keyT d = some k) : ∃ b, v = .ref b ∧ b ∉ ι ∧ H b = some (.tup (k.map kV)) := by
  cases e with
  | tup hq hs =>
    simp only [keyT] at h
    rw [← keysK_den hs h]
    exact ⟨_, rfl, hq.1, hq.2⟩
  | _ => simp only [keyT] at h; cases h
def OD (K : PySem.W.Frag) (ι : List Addr) (H : Hp) (o : Option V) (r : Option D) : Prop := match o, r with
  | some v, some d => Den K ι H v d
  | none, none => True
  | _, _ => False
theorem DenI.val {k : Key} : ∀ {fs : List (Key × V)} {gs : List (Key × D)}, DenI K ι H fs gs → OD K ι H (valV fs k) (valD gs k)
  | _, _, .nil => True.intro
  | _, _, .cons (f := f) e es => by
    unfold valD
    by_cases h : f = k
    · rw [if_pos h, valV_pos (p := (f, _)) h]; exact e
    · rw [if_neg h, valV_neg (p := (f, _)) h]; exact DenI.val es
theorem DenK.val {k : List Key} : ∀ {fs : List (List Key × V)} {gs : List (List Key × D)}, DenK K ι H fs gs → OD K ι H (valV fs k) (valD gs k)
  | _, _, .nil => True.intro
  | _, _, .cons (f := f) e es => by
    unfold valD
    by_cases h : f = k
    · rw [if_pos h, valV_pos (p := (f, _)) h]; exact e
    · rw [if_neg h, valV_neg (p := (f, _)) h]; exact DenK.val es
theorem DenI.length : ∀ {fs : List (Key × V)} {gs : List (Key × D)}, DenI K ι H fs gs → fs.length = gs.length
  | _, _, .nil => rfl
  | _, _, .cons _ es => by rw [List.length_cons, List.length_cons, DenI.length es]
theorem DenK.length : ∀ {fs : List (List Key × V)} {gs : List (List Key × D)}, DenK K ι H fs gs → fs.length = gs.length
  | _, _, .nil => rfl
  | _, _, .cons _ es => by rw [List.length_cons, List.length_cons, DenK.length es]
theorem DenI.set {k : Key} {v : V} {d : D} (e : Den K ι H v d) : ∀ {fs : List (Key × V)} {gs : List (Key × D)}, DenI K ι H fs gs → DenI K ι H (fs.map fun kv => if kv.1 = k then (kv.1, v) else kv) (setD gs k d)
  | _, _, .nil => .nil
  | _, _, .cons (f := f) e1 es => by
    rw [List.map_cons]
    unfold setD
    by_cases h : f = k
    · simp only [if_pos h]; exact .cons e (DenI.set e es)
    · simp only [if_neg h]; exact .cons e1 (DenI.set e es)
theorem DenK.set {k : List Key} {v : V} {d : D} (e : Den K ι H v d) : ∀ {fs : List (List Key × V)} {gs : List (List Key × D)}, DenK K ι H fs gs → DenK K ι H (fs.map fun kv => if kv.1 = k then (kv.1, v) else kv) (setD gs k d)
  | _, _, .nil => .nil
  | _, _, .cons (f := f) e1 es => by
    rw [List.map_cons]
    unfold setD
    by_cases h : f = k
    · simp only [if_pos h]; exact .cons e (DenK.set e es)
    · simp only [if_neg h]; exact .cons e1 (DenK.set e es)
theorem DenI.snoc {k : Key} {v : V} {d : D} (e : Den K ι H v d) : ∀ {fs : List (Key × V)} {gs : List (Key × D)}, DenI K ι H fs gs → DenI K ι H (fs ++ [(k, v)]) (gs ++ [(k, d)])
  | _, _, .nil => .cons e .nil
  | _, _, .cons e1 es => .cons e1 (DenI.snoc e es)
theorem DenK.snoc {k : List Key} {v : V} {d : D} (e : Den K ι H v d) : ∀ {fs : List (List Key × V)} {gs : List (List Key × D)}, DenK K ι H fs gs → DenK K ι H (fs ++ [(k, v)]) (gs ++ [(k, d)])
  | _, _, .nil => .cons e .nil
  | _, _, .cons e1 es => .cons e1 (DenK.snoc e es)
theorem od_some {o : Option V} {r : Option D} (h : OD K ι H o r) : o.isSome = r.isSome := by
  cases o <;> cases r <;> first | rfl | exact h.elim
theorem DenI.put {k : Key} {v : V} {d : D} (e : Den K ι H v d) {fs : List (Key × V)} {gs : List (Key × D)} (h : DenI K ι H fs gs) : DenI K ι H (putK fs k v) (putKD gs k d) := by
  unfold putK putKD
  rw [valV_any, od_some h.val]
  cases hv : valD gs k with
  | none => exact h.snoc e
  | some x => exact h.set e
theorem DenK.put {k : List Key} {v : V} {d : D} (e : Den K ι H v d) {fs : List (List Key × V)} {gs : List (List Key × D)} (h : DenK K ι H fs gs) : DenK K ι H (putK fs k v) (putKD gs k d) := by
  unfold putK putKD
  rw [valV_any, od_some h.val]
  cases hv : valD gs k with
  | none => exact h.snoc e
  | some x => exact h.set e
end
/-- what d holds at k -/
def gVal (st : S) (d k : D) : Option (Option D) := match d with
  | .dik gs => (keyK k).map (valD gs)
  | .dct gs => (keyT k).map (valD gs)
  | .loc n => match st[n]? with
    | some (.dik gs) => (keyK k).map (valD gs)
    | some (.dct gs) => (keyT k).map (valD gs)
    | _ => none
  | _ => none
section
variable {K : PySem.W.Frag} {ι : List Addr} {H : Hp} {st : S}
theorem get_i {a : Addr} {fs : List (Key × V)} {gs : List (Key × D)} {y : V} {k : D} {r : Option D} (ha : H a = some (.dK fs)) (e : DenI K ι H fs gs) (ey : Den K ι H y k) (h : (keyK k).map (valD gs) = some r) : ∃ o, DGet H a y o ∧ OD K ι H o r := by
  cases hk : keyK k with
  | none => rw [hk] at h; cases h
  | some q =>
    rw [hk] at h
    cases h
    rw [keyK_den ey hk]
    exact ⟨_, .k ha, e.val⟩
theorem get_t {a : Addr} {fs : List (List Key × V)} {gs : List (List Key × D)} {y : V} {k : D} {r : Option D} (ha : H a = some (.dT fs)) (e : DenK K ι H fs gs) (ey : Den K ι H y k) (h : (keyT k).map (valD gs) = some r) : ∃ o, DGet H a y o ∧ OD K ι H o r := by
  cases hk : keyT k with
  | none => rw [hk] at h; cases h
  | some q =>
    rw [hk] at h
    cases h
    obtain ⟨b, rfl, _, hb⟩ := keyT_den ey hk
    exact ⟨_, .t ha hb, e.val⟩
theorem dval {x y : V} {d k : D} {r : Option D} (rl : Rel K ι H st) (ex : Den K ι H x d) (ey : Den K ι H y k) (h : gVal st d k = some r) : ∃ a o, x = .ref a ∧ DGet H a y o ∧ OD K ι H o r := by
  cases ex with
  | dik hn ha hs =>
    obtain ⟨o, g, od⟩ := get_i ha hs ey h
    exact ⟨_, o, rfl, g, od⟩
  | dct hn ha hs =>
    obtain ⟨o, g, od⟩ := get_t ha hs ey h
    exact ⟨_, o, rfl, g, od⟩
  | @loc a n hn =>
    simp only [gVal] at h
    cases hst : st[n]? with
    | none => rw [hst] at h; cases h
    | some ob =>
      rw [hst] at h
      cases ob with
      | dik gs =>
        obtain ⟨fs, ha, hs⟩ := rl.obs n _ _ hn hst
        obtain ⟨o, g, od⟩ := get_i ha hs ey h
        exact ⟨_, o, rfl, g, od⟩
      | dct gs =>
        obtain ⟨fs, ha, hs⟩ := rl.obs n _ _ hn hst
        obtain ⟨o, g, od⟩ := get_t ha hs ey h
        exact ⟨_, o, rfl, g, od⟩
      | lst _ => cases h
      | ins _ _ => cases h
      | tab _ _ => cases h
  | _ => simp only [gVal] at h; cases h
end
section
variable {X : Cx} {W : L2.WX} {o i value : Expr} {pos pos' : Pos} {mo mi m : Env → S → R D}
def mDGet (mo mi : Env → S → R D) : Env → S → R D := fun env st => (mo env st).bind fun d st1 => (mi env st1).bind fun k st2 => match gVal st2 d k with
  | some (some v) => .ok v st2
  | _ => .stuck
theorem me_dget (hu : X.A.units + 1 < cLine) (ho : PE X o (tM X.K W mo)) (hi : PE X i (tM X.K W mi)) (hs : NoSl i) : PE X (.Subscript o i pos) (tM X.K W (mDGet mo mi)) :=
  (pe_dget hu ho hi hs).imp fun σ H Q ⟨ι, env, st, er, r, h⟩ => seqM er r h fun ι1 H1 x d st1 er1 s1 r1 e1 h1 => seqM er1 r1 h1 fun ι2 H2 y k st2 er2 s2 r2 e2 h2 => by
    cases hv : gVal st2 d k with
    | none => rw [hv] at h2; exact h2.elim
    | some r0 =>
      rw [hv] at h2
      cases r0 with
      | none => exact h2.elim
      | some dv =>
        obtain ⟨a, ov, rfl, g, od⟩ := dval r2 (e1.stp s2) e2 hv
        cases ov with
        | none => exact od.elim
        | some v => exact ⟨a, v, rfl, g, h2.ok r2 od⟩
def mDIn (neg : Bool) (mi mo : Env → S → R D) : Env → S → R D := fun env st => (mi env st).bind fun k st1 => (mo env st1).bind fun d st2 => match gVal st2 d k with
  | some r => .ok (.bl (if neg then !r.isSome else r.isSome)) st2
  | _ => .stuck
theorem mc_din (hu : X.A.units + 1 < cLine) (hi : PE X i (tM X.K W mi)) (ho : PE X o (tM X.K W mo)) : PC X .In i o (tM X.K W (mDIn false mi mo)) := by
  refine ⟨fun pins s σ H Q I ⟨ι, env, st, er, r, h⟩ => (pc_din hu hi ho).run pins s σ H Q I (seqM er r h fun ι1 H1 y k st1 er1 s1 r1 e1 h1 => seqM er1 r1 h1 fun ι2 H2 x d st2 er2 s2 r2 e2 h2 => ?_)⟩
  cases hv : gVal st2 d k with
  | none => rw [hv] at h2; exact h2.elim
  | some r0 =>
    rw [hv] at h2
    obtain ⟨a, ov, rfl, g, od⟩ := dval r2 e2 (e1.stp s2) hv
    refine ⟨a, ov, rfl, g, ?_⟩
    rw [od_some od]
    exact h2.ok r2 (.bl _)
theorem mc_dnotin (hu : X.A.units + 1 < cLine) (hi : PE X i (tM X.K W mi)) (ho : PE X o (tM X.K W mo)) : PC X .NotIn i o (tM X.K W (mDIn true mi mo)) := by
  refine ⟨fun pins s σ H Q I ⟨ι, env, st, er, r, h⟩ => (pc_dnotin hu hi ho).run pins s σ H Q I (seqM er r h fun ι1 H1 y k st1 er1 s1 r1 e1 h1 => seqM er1 r1 h1 fun ι2 H2 x d st2 er2 s2 r2 e2 h2 => ?_)⟩
  cases hv : gVal st2 d k with
  | none => rw [hv] at h2; exact h2.elim
  | some r0 =>
    rw [hv] at h2
    obtain ⟨a, ov, rfl, g, od⟩ := dval r2 e2 (e1.stp s2) hv
    refine ⟨a, ov, rfl, g, ?_⟩
    rw [od_some od]
    exact h2.ok r2 (.bl _)
def kDPut (d k v : D) (st : S) : Option S := match d with
  | .loc n => match st[n]? with
    | some (.dik gs) => match keyK k with
      | some q => if gs.length < sizeLine then some (st.set n (.dik (putKD gs q v))) else none
      | none => none
    | some (.dct gs) => match keyT k with
      | some q => if gs.length < sizeLine then some (st.set n (.dct (putKD gs q v))) else none
      | none => none
    | _ => none
  | _ => none
theorem dput {K : PySem.W.Frag} {ι : List Addr} {H : Hp} {st st2 : S} {x y v : V} {d k e : D} (rl : Rel K ι H st) (ex : Den K ι H x d) (ey : Den K ι H y k) (ev : Den K ι H v e) (h : kDPut d k e st = some st2) :
    ∃ a H', x = .ref a ∧ DPut H a y v H' ∧ Stp ι H ι H' ∧ Rel K ι H' st2 := by
  cases ex with
  | @loc a n hn =>
    simp only [kDPut] at h
    cases hst : st[n]? with
    | none => rw [hst] at h; cases h
    | some ob =>
      rw [hst] at h
      cases ob with
      | dik gs =>
        dsimp only at h
        cases hk : keyK k with
        | none => rw [hk] at h; cases h
        | some q =>
          rw [hk] at h
          dsimp only at h
          split at h
          · rename_i hz
            cases h
            obtain ⟨fs, ha, hs⟩ := rl.obs n _ _ hn hst
            rw [keyK_den ey hk]
            exact ⟨a, _, rfl, .k ha (by rw [hs.length]; exact hz), chg_stp hn, rl.chg hn (ob := .dik _) ⟨_, upd_same, (hs.put ev).stp (chg_stp hn)⟩⟩
          · cases h
      | dct gs =>
        dsimp only at h
        cases hk : keyT k with
        | none => rw [hk] at h; cases h
        | some q =>
          rw [hk] at h
          dsimp only at h
          split at h
          · rename_i hz
            cases h
            obtain ⟨fs, ha, hs⟩ := rl.obs n _ _ hn hst
            obtain ⟨b, rfl, _, hb⟩ := keyT_den ey hk
            exact ⟨a, _, rfl, .t ha hb (by rw [hs.length]; exact hz), chg_stp hn, rl.chg hn (ob := .dct _) ⟨_, upd_same, (hs.put ev).stp (chg_stp hn)⟩⟩
          · cases h
      | lst _ => cases h
      | ins _ _ => cases h
      | tab _ _ => cases h
  | _ => simp only [kDPut] at h; cases h
def sDPutF (mo mi m : Env → S → R D) : Env → S → R F := fun env st => (m env st).bind fun x st1 => (mo env st1).bind fun d st2 => (mi env st2).bind fun i st3 => match kDPut d i x st3 with
  | some st4 => .ok (.nx env) st4
  | none => .stuck
theorem ms_dput (hu : X.A.units + 1 < cLine) (ho : PE X o (tM X.K W mo)) (hi : PE X i (tM X.K W mi)) (hv : PE X value (tM X.K W m)) (hs : swapsWith value (some (.Subscript o i pos')) pos.line X.env = pure false := by rfl) :
    PS X (.Assign [.Subscript o i pos'] value pos) (tMS X.K W (sDPutF mo mi m)) :=
  (ps_dput hu ho hi hv hs).imp fun Dd σ H ⟨ι, env, st, er, r, h⟩ => seqSM er r h fun ι1 H1 v e st1 er1 s1 r1 e1 h1 => seqSM er1 r1 h1 fun ι2 H2 x d st2 er2 s2 r2 e2 h2 => seqSM er2 r2 h2 fun ι3 H3 y k st3 er3 s3 r3 e3 h3 => by
    cases hp : kDPut d k e st3 with
    | none => rw [hp] at h3; exact h3.elim
    | some st4 =>
      rw [hp] at h3
      obtain ⟨a, H4, rfl, g, s4, r4⟩ := dput r3 (e2.stp s3) e3 ((e1.stp s2).stp s3) hp
      exact ⟨a, H4, rfl, g, h3 ι3 H4 σ s4 r4 (er3.stp s4)⟩
/-- {}: a dict with int and text keys, one with tuple keys -/
def mNewI : Env → S → R D := fun _ st => .ok (.loc st.length) (st ++ [.dik []])
def mNewT : Env → S → R D := fun _ st => .ok (.loc st.length) (st ++ [.dct []])
theorem me_dnewI : PE X (.Dict [] [] pos) (tM X.K W mNewI) := pe_dnewK.imp fun σ H Q ⟨ι, env, st, er, r, h⟩ p hp => h _ _ _ (newl_stp r hp) (r.newl hp (ob := .dik []) ⟨[], upd_same, .nil⟩) (.loc (by rw [← r.len, List.getElem?_append_right (Nat.le_refl _), Nat.sub_self]; rfl))
theorem me_dnewT : PE X (.Dict [] [] pos) (tM X.K W mNewT) := pe_dnewT.imp fun σ H Q ⟨ι, env, st, er, r, h⟩ p hp => h _ _ _ (newl_stp r hp) (r.newl hp (ob := .dct []) ⟨[], upd_same, .nil⟩) (.loc (by rw [← r.len, List.getElem?_append_right (Nat.le_refl _), Nat.sub_self]; rfl))
end
end MF
end
section
set_option Elab.async false
set_option linter.all false
set_option maxRecDepth 100000
set_option maxHeartbeats 4000000
/-! MXC: dict comprehensions, calls over dicts, sums. -/
namespace MF
open PySem PySem.Spec PyProof.Rows L2
/-! ### dict comprehensions -/
theorem d_dictSetG {X : Cx} {pins : List (Addr × Obj)} {σ : L2.St} {H H' : Hp} {s : Shared} {E : Value → Shared → Prop} {a : Addr} {y v : V} {u r : Value} {Q : Unit → Shared → Prop} (hu : X.A.units + 1 < cLine) (I : Inv X pins σ H s) (g : DPut H a y v H') (ry : RelV y u) (rv : RelV v r)
    (h : ∀ s', Inv X pins σ H' s' → Q () s') : wpAny (model X.prog X.w) X.A (dictSet a u r) Q E s := by
  rcases g with ⟨kvs, k, e, rfl, l, rfl⟩ | ⟨kvs, k, b, e, rfl, eb, l, rfl⟩
  · exact d_dictSet I e l ry rv h
  · cases (show u = Value.ref b from ry)
    obtain ⟨z, hd, xs, rel, dd⟩ := dt_of I.hok e
    have hl : (putK kvs k v).length ≤ sizeLine := by have := length_putK kvs k v; omega
    refine wpAny_dictSet_heap (hsz := by rw [← Paired.length rel]; exact z) (show (tupleKind (mixKind X.prog X.w)).room X.A from (show X.A.units < cLine by omega)) (key_of I.hok eb) dd fun h' dd' hs => h _ ?_
    obtain ⟨q, es, ep, hq, h2, h3, h4, _, h5⟩ := dd'
    refine d_write I (by rw [e]; exact True.intro) hs ⟨q, hq⟩ ⟨hl, hd, _, (rel.put k eb rv).keeps fun c ys ec => ?_, q, es, ep, hq, h2, h3, h4, h5⟩
    rw [upd_ne (ne_of ec e (fun z => nomatch z))]
    exact ec
def sDic (k v : Expr) (acc : Value) (env : PySem.Env) : Sem Unit := do
  let kv ← eval k env
  let vv ← holding [kv] (eval v env)
  match acc with
  | .ref d => do
    standAt { k.pos with endLine := v.pos.endLine, endCol := v.pos.endCol }
    holding [kv, vv] (dictSet d kv vv)
  | _ => unsupported "internal:dictcomp"
def aDic (ek ev : Env → S → R D) (n0 : Nat) : Env → S → R Unit := fun env st => match ek env st with
  | .ok k st1 => match ev env st1 with
    | .ok y st2 => match kDPut (.loc n0) k y st2 with
      | some st3 => .ok () st3
      | none => .stuck
    | _ => .stuck
  | _ => .stuck
theorem ma_dic {B : Cx} {k v : Expr} {ek ev : Env → S → R D} {L : Addr} (hu : B.A.units + 1 < cLine) (hk : PE (B.wish fun _ _ => False) k (tM B.K W0 ek)) (hv : PE (B.wish fun _ _ => False) v (tM B.K W0 ev)) : ActOk B [] (sDic k v (.ref L) B.env) (tAct B.K (aDic ek ev) L) := by
  rintro pins s σ H Nx I ⟨n0, ι, env, st, er, r, atL, h⟩
  unfold aDic at h
  cases hy : ek env st with
  | stuck => rw [hy] at h; exact h.elim
  | ex c f p st2 => rw [hy] at h; exact h.elim
  | ok κ st1 =>
    rw [hy] at h
    dsimp only at h
    cases hz : ev env st1 with
    | stuck => rw [hz] at h; exact h.elim
    | ex c f p st2 => rw [hz] at h; exact h.elim
    | ok y st2 =>
      rw [hz] at h
      dsimp only at h
      cases hp : kDPut (.loc n0) κ y st2 with
      | none => rw [hp] at h; exact h.elim
      | some st3 =>
        rw [hp] at h
        dsimp only at h
        unfold sDic
        refine wpAny_bind (never_N (hk.run pins s σ H (fun x H1 => ∃ ι1, Stp ι H ι1 H1 ∧ Rel B.K ι1 H1 st1 ∧ Den B.K ι1 H1 x κ) (I.wish _) ⟨ι, env, st, er, r, by rw [hy]; exact fun ι1 H1 x s1 r1 e1 => ⟨ι1, s1, r1, e1⟩⟩) ?_)
        rintro u s1 ⟨x, H1, I1, ru, ι1, t1, r1, e1⟩
        refine wpAny_bind (wpAny_holding (never_N (hv.run pins s1 σ H1 (fun z H2 => ∃ ι2, Stp ι1 H1 ι2 H2 ∧ Rel B.K ι2 H2 st2 ∧ Den B.K ι2 H2 z y) I1 ⟨ι1, env, st1, er.stp t1, r1, by rw [hz]; exact fun ι2 H2 z s2 r2 e2 => ⟨ι2, s2, r2, e2⟩⟩) ?_))
        rintro w2 s2 ⟨z, H2, I2, rw2, ι2, t2, r2, e2⟩
        obtain ⟨a, H3, ea, g, t3, r3⟩ := dput r2 (.loc (t2.get (t1.get atL))) (e1.stp t2) e2 hp
        cases ea
        refine wpAny_bind (wpAny_standAt (wpAny_holding (d_dictSetG (X := B) hu I2.unwish g ru rw2 fun s3 I3 => ?_)))
        exact ⟨H3, I3, h ι2 H3 ((t1.trans t2).trans t3) r3⟩
section
variable {X : Cx} {W : L2.WX} {k v tg iter : Expr} {ifs : List Expr} {scope : Scope} {own : List (Str × Nat)} {pos : Pos} {it : Env → S → R (List D)} {js : List Nat} {f : D → Env → Option Env} {t : Env → S → R Bool} {ek ev : Env → S → R D}
theorem me_dcI (hu : X.A.units + 1 < cLine) (hc : X.calm = true) (hN : X.N.Nodup) (hi : PI X tg iter (tMI X.K W it)) (ok : BlkOk X.N X.env.scope scope own) (hjs : ∀ j, j ∈ js → j ∈ own.map (·.2))
    (hg : ∀ (s : Shared) (H : Hp) (C : Addr) (cl : List (Str × Addr)) (fp : List Addr), PG (X.blk s H scope (compEnvC scope cl C X.env) fp) tg (tMG X.K js f)) (ht : ∀ (s : Shared) (H : Hp) (C : Addr) (cl : List (Str × Addr)) (fp : List Addr), PTs (X.blk s H scope (compEnvC scope cl C X.env) fp) ifs (tMT X.K W0 t))
    (hk : ∀ (s : Shared) (H : Hp) (C : Addr) (cl : List (Str × Addr)) (fp : List Addr), PE (X.blk s H scope (compEnvC scope cl C X.env) fp) k (tM X.K W0 ek)) (hv : ∀ (s : Shared) (H : Hp) (C : Addr) (cl : List (Str × Addr)) (fp : List Addr), PE (X.blk s H scope (compEnvC scope cl C X.env) fp) v (tM X.K W0 ev)) (hs : ∀ x, foldedSetIterable iter X.env x = pure x := by intro _; rfl) :
    PE X (.DictComp k v [⟨tg, iter, ifs, 0⟩] scope pos) (tM X.K W (mCo (.dik []) (own.map (·.2)) it f t (aDic ek ev))) ∧ PE X (.DictComp k v [⟨tg, iter, ifs, 0⟩] scope pos) (tM X.K W (mCoM (.dik []) (own.map (·.2)) it f t (aDic ek ev))) :=
  me_co (js := js) (sDic k v) compE_dict acc_dK (fun ι H p => ⟨[], upd_same, .nil⟩) hc hN hi ok hjs hg ht (fun s H C cl fp L pins s1 σ H1 Nx I q => by
    have z := ma_dic (B := X.blk s H scope (compEnvC scope cl C X.env) fp) (L := L) hu (hk s H C cl fp) (hv s H C cl fp) pins s1 σ H1 Nx I q
    exact never_N z fun _ s2 ⟨H2, I2, q2⟩ => ⟨H2, I2.weak (by rw [wipe_length]; rfl) (fun j v e => (wipe_some e).1), q2⟩) (fun it acc env => by rfl) hs
theorem me_dcT (hu : X.A.units + 1 < cLine) (hc : X.calm = true) (hN : X.N.Nodup) (hi : PI X tg iter (tMI X.K W it)) (ok : BlkOk X.N X.env.scope scope own) (hjs : ∀ j, j ∈ js → j ∈ own.map (·.2))
    (hg : ∀ (s : Shared) (H : Hp) (C : Addr) (cl : List (Str × Addr)) (fp : List Addr), PG (X.blk s H scope (compEnvC scope cl C X.env) fp) tg (tMG X.K js f)) (ht : ∀ (s : Shared) (H : Hp) (C : Addr) (cl : List (Str × Addr)) (fp : List Addr), PTs (X.blk s H scope (compEnvC scope cl C X.env) fp) ifs (tMT X.K W0 t))
    (hk : ∀ (s : Shared) (H : Hp) (C : Addr) (cl : List (Str × Addr)) (fp : List Addr), PE (X.blk s H scope (compEnvC scope cl C X.env) fp) k (tM X.K W0 ek)) (hv : ∀ (s : Shared) (H : Hp) (C : Addr) (cl : List (Str × Addr)) (fp : List Addr), PE (X.blk s H scope (compEnvC scope cl C X.env) fp) v (tM X.K W0 ev)) (hs : ∀ x, foldedSetIterable iter X.env x = pure x := by intro _; rfl) :
    PE X (.DictComp k v [⟨tg, iter, ifs, 0⟩] scope pos) (tM X.K W (mCo (.dct []) (own.map (·.2)) it f t (aDic ek ev))) ∧ PE X (.DictComp k v [⟨tg, iter, ifs, 0⟩] scope pos) (tM X.K W (mCoM (.dct []) (own.map (·.2)) it f t (aDic ek ev))) :=
  me_co (js := js) (sDic k v) compE_dict acc_dT (fun ι H p => ⟨[], upd_same, .nil⟩) hc hN hi ok hjs hg ht (fun s H C cl fp L pins s1 σ H1 Nx I q => by
    have z := ma_dic (B := X.blk s H scope (compEnvC scope cl C X.env) fp) (L := L) hu (hk s H C cl fp) (hv s H C cl fp) pins s1 σ H1 Nx I q
    exact never_N z fun _ s2 ⟨H2, I2, q2⟩ => ⟨H2, I2.weak (by rw [wipe_length]; rfl) (fun j v e => (wipe_some e).1), q2⟩) (fun it acc env => by rfl) hs
end
/-! ### calls -/
def asI (st : S) : D → Option (List (Key × D))
  | .dik gs => some gs
  | .loc n => match st[n]? with
    | some (.dik gs) => some gs
    | _ => none
  | _ => none
theorem asI_den {K : PySem.W.Frag} {ι : List Addr} {H : Hp} {st : S} {x : V} {d : D} {gs : List (Key × D)} (r : Rel K ι H st) (e : Den K ι H x d) (h : asI st d = some gs) : ∃ a fs, x = .ref a ∧ H a = some (.dK fs) ∧ DenI K ι H fs gs := by
  cases e with
  | dik hn ha hs =>
    cases (Option.some.inj h)
    exact ⟨_, _, rfl, ha, hs⟩
  | @loc a n hn =>
    simp only [asI] at h
    cases hst : st[n]? with
    | none => rw [hst] at h; cases h
    | some ob =>
      rw [hst] at h
      cases ob with
      | dik gs =>
        cases h
        obtain ⟨fs, ha, hs⟩ := r.obs n _ _ hn hst
        exact ⟨_, fs, rfl, ha, hs⟩
      | _ => cases h
  | _ => simp only [asI] at h; cases h
def gLenD (ds : List D) (st : S) : R D := match ds with
  | [d] => match asI st d with
    | some gs => .ok (.int gs.length) st
    | none => .stuck
  | _ => .stuck
theorem cl_lenD {K : PySem.W.Frag} : Cl K (fun xs H Q => ∃ a kvs, xs = [V.ref a] ∧ H a = some (.dK kvs) ∧ Q (.int kvs.length) H) gLenD := by
  intro W σ ι H st vs ds Q r e h
  unfold gLenD at h
  split at h
  · rename_i d
    obtain ⟨v, rfl, ev⟩ := denl1 e
    cases hd : asI st d with
    | none => rw [hd] at h; exact h.elim
    | some gs =>
      rw [hd] at h
      obtain ⟨a, fs, rfl, ha, hs⟩ := asI_den r ev hd
      refine ⟨a, fs, rfl, ha, ?_⟩
      rw [hs.length]
      exact h.ok r (.int _)
  · exact h.elim
def keyD : Key → D
  | .inl i => .int i
  | .inr x => .str x
theorem keyD_den {K : PySem.W.Frag} {ι : List Addr} {H : Hp} (k : Key) : Den K ι H (kV k) (keyD k) := by
  cases k
  · exact .int _
  · exact .str _
theorem keysD_den {K : PySem.W.Frag} {ι : List Addr} {H : Hp} : ∀ {fs : List (Key × V)} {gs : List (Key × D)}, DenI K ι H fs gs → DenL K ι H (fs.map fun kv => kV kv.1) (gs.map fun kv => keyD kv.1)
  | _, _, .nil => .nil
  | _, _, .cons _ es => .cons (keyD_den _) (keysD_den es)
def gListD (ds : List D) (st : S) : R D := match ds with
  | [d] => match asI st d with
    | some gs => .ok (.lst (gs.map fun kv => keyD kv.1)) st
    | none => .stuck
  | _ => .stuck
theorem cl_listD {K : PySem.W.Frag} : Cl K (fun xs H Q => ∃ (a : Addr) (kvs : List (Key × V)), xs = [.ref a] ∧ Rd H a (.dK kvs) ∧ ∀ p, H p = none → Q (.ref p) (upd H p (.lst (kvs.map fun kv => kV kv.1)))) gListD := by
  intro W σ ι H st vs ds Q r e h
  unfold gListD at h
  split at h
  · rename_i d
    obtain ⟨v, rfl, ev⟩ := denl1 e
    cases hd : asI st d with
    | none => rw [hd] at h; exact h.elim
    | some gs =>
      rw [hd] at h
      obtain ⟨a, fs, rfl, ha, hs⟩ := asI_den r ev hd
      exact ⟨a, fs, rfl, .inl ha, post_lst r (keysD_den hs) h⟩
  · exact h.elim
def intsD : List D → Option (List Int)
  | [] => some []
  | .int i :: ds => (intsD ds).map (i :: ·)
  | _ => none
theorem intsD_den {K : PySem.W.Frag} {ι : List Addr} {H : Hp} : ∀ {vs : List V} {ds : List D} {ns : List Int}, DenL K ι H vs ds → intsD ds = some ns → vs = ns.map V.int
  | _, _, _, .nil, h => by
    cases (Option.some.inj h)
    rfl
  | _, _, _, .cons (d := d) (ds := ds) e es, h => by
    cases e with
    | int i =>
      simp only [intsD] at h
      cases hr : intsD ds with
      | none => rw [hr] at h; cases h
      | some ms =>
        rw [hr] at h
        cases h
        rw [List.map_cons, intsD_den es hr]
    | _ => simp only [intsD] at h; cases h
def gSum (ds : List D) (st : S) : R D := match ds with
  | [d] => match asL st d with
    | some xs => match intsD xs with
      | some ns => .ok (.int ns.sum) st
      | none => .stuck
    | none => .stuck
  | _ => .stuck
theorem cl_sum {K : PySem.W.Frag} : Cl K (rSum K) gSum := by
  intro W σ ι H st vs ds Q r e h
  unfold gSum at h
  split at h
  · rename_i d
    obtain ⟨v, rfl, ev⟩ := denl1 e
    cases hd : asL st d with
    | none => rw [hd] at h; exact h.elim
    | some xs =>
      rw [hd] at h
      dsimp only at h
      cases hi : intsD xs with
      | none => rw [hi] at h; exact h.elim
      | some ns =>
        rw [hi] at h
        obtain ⟨a, us, rfl, ha, hs⟩ := asL_den r ev hd
        rw [intsD_den hs hi] at ha
        exact ⟨a, ns, rfl, .inl (.inl ha), h.ok r (.int _)⟩
  · exact h.elim
/-! ### sum(d.values()) -/
def valsO (p d : Addr) : HO := .ext fun h => h.IsValuesView p d
theorem valsO_ok {P : Program} {w : World} {H : Hp} {h : Heap} {p d : Addr} (e : h.get? p = some { cls := .type "dict_values", data := .fields #[.ref d] }) : ObjOk P w H h p (valsO p d) :=
  ⟨⟨_, e, rfl, rfl⟩, ⟨_, e⟩, fun h1 h2 x k => let ⟨o, ho, r⟩ := x; ⟨o, k o ho, r⟩⟩
def tVals (td : TE) : TE := fun σ H Q => td σ H fun x H1 => ∃ a kvs, x = .ref a ∧ H1 a = some (.dK kvs) ∧ ∀ p, H1 p = none → Q (.ref p) (upd H1 p (valsO p a))
theorem pe_vals {X : Cx} {e : Expr} {td : TE} {apos cpos : Pos} (he : PE X e td) (hbase : attributeBase e "values" X.env (eval e X.env) = eval e X.env := by rfl) (hline : (apos.endLine == cpos.line) = true := by rfl) : PE X (.Call (.Attribute e "values" apos) [] [] cpos) (tVals td) := by
  constructor
  intro pins s σ H Q I h
  refine wpAny_Call_method (T := "dict") (id := "dict.values") hbase rfl hline F.plainAttrs_dict F.slot_dict_values F.type_dict_values (thn (he.run pins s σ H _ I h) ?_)
  rintro u s1 ⟨x, H1, I1, rx, d, kvs, rfl, hd, q⟩
  obtain rfl : u = Value.ref d := rx
  obtain ⟨z, hsm, vs, rel, dd⟩ := dk_of I1.hok hd
  refine ⟨dd.typeIs, dd.mapOf.noDict, ?_⟩
  have fin : EP X pins σ Q (.ref s1.heap.objs.size) { s1 with heap := s1.heap.push { cls := .type "dict_values", data := .fields #[.ref d] } } :=
    ⟨.ref s1.heap.objs.size, _, I1.laid (t' := s1.toks) (fun b o e => Heap.get?_push_of_some _ e) (Nat.le_refl _) (valsO_ok (Heap.get?_push_size _ rfl)), rfl, q _ (I1.hok.fresh (Nat.le_refl _))⟩
  show wpAny _ _ (callWith cpos (.builtin "dict.values") [.ref d] [] []) _ X.xe s1
  exact method_meetsIn F.slot_dict_values F.entry_dict_values rfl (PySem.evalArgs_none ⟨rfl, dd.typeIs, F.args_dict_values_1 _, _, meets_dict_values (mixKind X.prog X.w) d hsm, ⟨vs, dd⟩, fin⟩)
def rSumV : List V → Hp → VK → Prop := fun vs H Q => ∃ (p a : Addr) (kvs : List (Key × V)) (ns : List Int), vs = [V.ref p] ∧ H p = some (valsO p a) ∧ H a = some (.dK kvs) ∧ kvs.map Prod.snd = ns.map V.int ∧ Q (.int ns.sum) H
theorem cr_sumV {X : Cx} (hc : X.calm = true) : CallR X (.builtin "sum") rSumV := by
  intro pins s σ H vs us Q I r h
  obtain ⟨p, a, kvs, ns, rfl, hp, ha, hns, q⟩ := h
  rw [Vals.ref1 r]
  have hv : s.heap.IsValuesView p a := (show ObjOk X.prog X.w H s.heap p (valsO p a) from I.hok p _ hp).1
  obtain ⟨z, hsm, ws, rel, dd⟩ := dk_of I.hok ha
  obtain ⟨ep, dat⟩ := dd.dictAt
  have hlen : ws.length = ns.length := by
    have e := congrArg List.length hns
    rw [List.length_map, List.length_map] at e
    rw [← rel.length]; exact e
  have hval : ∀ (i : Nat) (v : Value), (∃ k, ws[i]? = some (k, v)) → ∃ t : Tok, v = Value.int (ns.getD i 0) t := by
    rintro i v ⟨k, hk⟩
    have aux : ∀ (fs : List (Key × V)) (gs : List (Key × Value)), KV fs gs → ∀ (ms : List Int), fs.map Prod.snd = ms.map V.int → ∀ (i : Nat) k v, gs[i]? = some (k, v) → ∃ t : Tok, v = Value.int (ms.getD i 0) t := by
      intro fs gs hkv
      unfold KV at hkv
      induction hkv with
      | nil => intro ms hm i k v hi; simp at hi
      | @cons f g fs gs hfg _ ih =>
        intro ms hm i k v hi
        cases ms with
        | nil => cases hm
        | cons m ms =>
          rw [List.map_cons, List.map_cons] at hm
          have hm1 := (List.cons.inj hm).1
          have hm2 := (List.cons.inj hm).2
          cases i with
          | zero =>
            have e : g = (k, v) := by simpa using hi
            have rv := hfg.2
            rw [hm1, e] at rv
            exact rv
          | succ i =>
            obtain ⟨t, e⟩ := ih ms hm2 i k v (by simpa using hi)
            exact ⟨t, by simpa using e⟩
    exact aux kvs ws rel ns hns i k v hk
  refine call_sum_walkAnyS ?_
  obtain ⟨oI, St, hit, W, st⟩ := (PySem.W.kdl_values (prog := X.prog) (w := X.w) (r := p) (d := a) (knd := mixKind X.prog X.w) (kvs := ws) (ep := ep)).iter X.A.in1 s (I.ok.hd hc) ⟨hv, dat⟩
  refine hit _ _ ⟨s.heap.objs.size, _, _, _, ws.length, _, _, fun i => ns.getD i 0, rfl, W.toS, st, fun b hb => ?_, hval, fun s' t' hm => ?_⟩
  · show b < (s.heap.push oI).objs.size
    rw [Heap.size_push]
    rcases List.mem_cons.mp hb with e | hb
    · rw [e]; exact Nat.lt_succ_self _
    · rw [List.mem_singleton.mp hb]; exact Nat.lt_succ_of_lt dat.lt_size
  · have hk : ∀ b o, s.heap.get? b = some o → s'.heap.get? b = some o := fun b o e =>
      hm.heap b o (fun hI => absurd (Heap.lt_size e) (by rw [List.mem_singleton.mp hI]; exact Nat.lt_irrefl _)) (Heap.get?_push_of_some _ e)
    have es : preSum (fun i => ns.getD i 0) ws.length = ns.sum := by
      have aux : ∀ (ms : List Int) n, n ≤ ms.length → preSum (fun i => ms.getD i 0) n = (ms.take n).sum := by
        intro ms n
        induction n with
        | zero => intro _; rfl
        | succ n ih =>
          intro hn
          have e1 : ms[n]? = some ms[n] := List.getElem?_eq_getElem hn
          rw [preSum, ih (Nat.le_of_succ_le hn), List.take_succ, e1, List.sum_append]
          simp [List.getD, e1]
      rw [aux ns ws.length (by rw [hlen]; exact Nat.le_refl _), hlen, List.take_length]
    rw [es, Moved.eq_with hm]
    exact ⟨.int _, H, I.kept (t' := s'.toks) hk, ⟨_, rfl⟩, q⟩
def mSumV (m : Env → S → R D) : Env → S → R D := fun env st => (m env st).bind fun d st1 => match asI st1 d with
  | some gs => match intsD (gs.map Prod.snd) with
    | some ns => .ok (.int ns.sum) st1
    | none => .stuck
  | none => .stuck
theorem sndD_den {K : PySem.W.Frag} {ι : List Addr} {H : Hp} : ∀ {fs : List (Key × V)} {gs : List (Key × D)}, DenI K ι H fs gs → DenL K ι H (fs.map Prod.snd) (gs.map Prod.snd)
  | _, _, .nil => .nil
  | _, _, .cons e es => .cons e (sndD_den es)
theorem me_sumV {X : Cx} {W : L2.WX} {e : Expr} {m : Env → S → R D} {apos cpos p pos : Pos} (hc : X.calm = true) (hgl : Gl X "sum") (hm : X.mg "sum" = none) (he : PE X e (tM X.K W m)) (hbase : attributeBase e "values" X.env (eval e X.env) = eval e X.env := by rfl) (hline : (apos.endLine == cpos.line) = true := by rfl)
    (hse : starEach [.Call (.Attribute e "values" apos) [] [] cpos] X.env = (false, eval (.Call (.Attribute e "values" apos) [] [] cpos) X.env) :: starEach [] X.env := by rfl) (hpl : (backTo pos (starEach [] X.env)).any (·.1) = false := by rfl) :
    PE X (.Call (.Name "sum" p) [.Call (.Attribute e "values" apos) [] [] cpos] [] pos) (tM X.K W (mSumV m)) :=
  (pe_callB (cr_sumV hc) hgl hm rfl (pa_cons (pe_vals he hbase hline) pa_nil hse) (by decide) (by decide) hse hpl).imp fun σ H Q ⟨ι, env, st, er, r, h⟩ => seqM er r h fun ι1 H1 v d st1 er1 s1 r1 e1 h1 => by
    cases hd : asI st1 d with
    | none => rw [hd] at h1; exact h1.elim
    | some gs =>
      rw [hd] at h1
      dsimp only at h1
      cases hi : intsD (gs.map Prod.snd) with
      | none => rw [hi] at h1; exact h1.elim
      | some ns =>
        rw [hi] at h1
        obtain ⟨a, fs, rfl, ha, hs⟩ := asI_den r1 e1 hd
        refine ⟨a, fs, rfl, ha, fun q hq => ⟨q, a, fs, ns, rfl, upd_same, ?_, intsD_den (sndD_den hs) hi, h1 ι1 _ _ (new_stp hq) (r1.new hq) (.int _)⟩⟩
        rw [upd_ne (ne_of_none ha hq)]
        exact ha
end MF
end
section
set_option Elab.async false
set_option linter.all false
set_option maxRecDepth 100000
set_option maxHeartbeats 4000000
/-! MXD: sets of tuples of ints, sorted. -/
namespace MF
open PySem PySem.Spec PyProof.Rows L2
/-! ### sorted lists of tuples, once each -/
def cd (k : List Int) : Int := TS.code 256 k
def insN (k : List Int) : List (List Int) → List (List Int)
  | [] => [k]
  | x :: xs => if cd k = cd x then x :: xs else if cd k < cd x then k :: x :: xs else x :: insN k xs
def sortN : List (List Int) → List (List Int)
  | [] => []
  | k :: ks => insN k (sortN ks)
/-- tuples of d ints, 0 to 255 -/
def okN (d : Nat) (ks : List (List Int)) : Bool := ks.all fun k => k.length == d && k.all fun i => decide (0 ≤ i) && decide (i < 256)
theorem okN_mem {d : Nat} {ks : List (List Int)} (h : okN d ks = true) {k : List Int} (hk : k ∈ ks) : k.length = d ∧ TS.Bd 256 k := by
  unfold okN at h
  have z := List.all_eq_true.mp h k hk
  rw [Bool.and_eq_true, beq_iff_eq] at z
  refine ⟨z.1, fun m hm => ?_⟩
  have y := List.all_eq_true.mp z.2 m hm
  rw [Bool.and_eq_true, decide_eq_true_eq, decide_eq_true_eq] at y
  exact y
theorem code_inj {B : Int} : ∀ {xs ys : List Int}, xs.length = ys.length → TS.Bd B xs → TS.Bd B ys → TS.code B xs = TS.code B ys → xs = ys
  | [], [], _, _, _, _ => rfl
  | x :: xs, y :: ys, hl, hx, hy, h => by
    have hl' : xs.length = ys.length := by simpa using hl
    rcases Int.lt_trichotomy x y with c | c | c
    · exact absurd h (Int.ne_of_lt (TS.code_lt hl' hx.tail hy.tail c))
    · subst c
      have e : TS.code B xs = TS.code B ys := by
        have h' : x * B ^ xs.length + TS.code B xs = x * B ^ ys.length + TS.code B ys := h
        rw [hl'] at h'
        omega
      rw [code_inj hl' hx.tail hy.tail e]
    · exact absurd h.symm (Int.ne_of_lt (TS.code_lt hl'.symm hy.tail hx.tail c))
theorem mem_insN {k a : List Int} : ∀ {xs : List (List Int)}, (∀ x ∈ xs, cd k = cd x → k = x) → (a ∈ insN k xs ↔ a = k ∨ a ∈ xs)
  | [], _ => by simp [insN]
  | x :: xs, h => by
    unfold insN
    split
    · rename_i e
      have ek := h x (List.mem_cons_self ..) e
      subst ek
      simp
    · split
      · simp
      · rw [List.mem_cons, mem_insN fun y hy => h y (List.mem_cons_of_mem _ hy), List.mem_cons]
        constructor
        · rintro (c | c | c)
          · exact .inr (.inl c)
          · exact .inl c
          · exact .inr (.inr c)
        · rintro (c | c | c)
          · exact .inr (.inl c)
          · exact .inl c
          · exact .inr (.inr c)
theorem pw_insN {k : List Int} : ∀ {xs : List (List Int)}, (∀ x ∈ xs, cd k = cd x → k = x) → xs.Pairwise (fun a b => cd a < cd b) → (insN k xs).Pairwise fun a b => cd a < cd b
  | [], _, _ => by simp [insN]
  | x :: xs, h, p => by
    rw [List.pairwise_cons] at p
    unfold insN
    split
    · exact List.pairwise_cons.mpr p
    · rename_i hne
      split
      · rename_i hlt
        refine List.pairwise_cons.mpr ⟨fun a ha => ?_, List.pairwise_cons.mpr p⟩
        rcases List.mem_cons.mp ha with c | c
        · rw [c]; exact hlt
        · exact Int.lt_trans hlt (p.1 a c)
      · rename_i hge
        have h' : ∀ y ∈ xs, cd k = cd y → k = y := fun y hy => h y (List.mem_cons_of_mem _ hy)
        refine List.pairwise_cons.mpr ⟨fun a ha => ?_, pw_insN h' p.2⟩
        rcases (mem_insN h').mp ha with c | c
        · rw [c]; omega
        · exact p.1 a c
theorem sortN_ok {d : Nat} : ∀ {ks : List (List Int)}, okN d ks = true → (∀ a, a ∈ sortN ks ↔ a ∈ ks) ∧ (sortN ks).Pairwise fun a b => cd a < cd b
  | [], _ => ⟨fun a => Iff.rfl, .nil⟩
  | k :: ks, h => by
    have hk := okN_mem h (List.mem_cons_self ..)
    have h' : okN d ks = true := by
      unfold okN at h ⊢
      rw [List.all_cons, Bool.and_eq_true] at h
      exact h.2
    obtain ⟨m, p⟩ := sortN_ok h'
    have inj : ∀ x ∈ sortN ks, cd k = cd x → k = x := fun x hx e => by
      have hx' := okN_mem h' ((m x).mp hx)
      exact code_inj (hk.1.trans hx'.1.symm) hk.2 hx'.2 e
    refine ⟨fun a => ?_, pw_insN inj p⟩
    unfold sortN
    rw [mem_insN inj, m, List.mem_cons]
theorem strict_unique {α : Type} (f : α → Int) : ∀ {xs ys : List α}, xs.Pairwise (fun a b => f a < f b) → ys.Pairwise (fun a b => f a < f b) → (∀ a, a ∈ xs ↔ a ∈ ys) → xs = ys
  | [], [], _, _, _ => rfl
  | [], y :: ys, _, _, h => absurd ((h y).mpr (List.mem_cons_self ..)) (by simp)
  | x :: xs, [], _, _, h => absurd ((h x).mp (List.mem_cons_self ..)) (by simp)
  | x :: xs, y :: ys, p, q, h => by
    rw [List.pairwise_cons] at p q
    have exy : x = y := by
      rcases List.mem_cons.mp ((h x).mp (List.mem_cons_self ..)) with c | c
      · exact c
      · rcases List.mem_cons.mp ((h y).mpr (List.mem_cons_self ..)) with c' | c'
        · exact c'.symm
        · have a := q.1 x c
          have b := p.1 y c'
          omega
    subst exy
    congr 1
    refine strict_unique f p.2 q.2 fun a => ?_
    constructor
    · intro ha
      rcases List.mem_cons.mp ((h a).mp (List.mem_cons_of_mem _ ha)) with c | c
      · subst c
        exact absurd (p.1 a ha) (Int.lt_irrefl _)
      · exact c
    · intro ha
      rcases List.mem_cons.mp ((h a).mpr (List.mem_cons_of_mem _ ha)) with c | c
      · subst c
        exact absurd (q.1 a ha) (Int.lt_irrefl _)
      · exact c
/-- what sorted makes of a set's tuples -/
theorem sorted_is {d : Nat} {acc : List (List Int)} {L' : List (Addr × List Int)} (ok : okN d acc = true) (hm : ∀ k, k ∈ L'.map (·.2) ↔ k ∈ acc) (hn : (L'.map (·.2)).Nodup) (hp : L'.Pairwise fun q r => TS.code 256 q.2 ≤ TS.code 256 r.2) : L'.map (·.2) = sortN acc := by
  obtain ⟨m, p⟩ := sortN_ok ok
  refine strict_unique cd ?_ p fun a => (hm a).trans (m a).symm
  have hp' : (L'.map (·.2)).Pairwise fun a b => cd a ≤ cd b := List.pairwise_map.mpr hp
  have both := hp'.and hn
  refine both.imp_of_mem ?_
  rintro a b ha hb ⟨h1, h2⟩
  have oa := okN_mem ok ((hm a).mp ha)
  have ob := okN_mem ok ((hm b).mp hb)
  rcases Int.lt_or_lt_of_ne (fun e => h2 (code_inj (oa.1.trans ob.1.symm) oa.2 ob.2 e) : cd a ≠ cd b) with c | c
  · exact c
  · omega
end MF
end
section
set_option Elab.async false
set_option linter.all false
set_option maxRecDepth 100000
set_option maxHeartbeats 4000000
/-! MXE: sorted({tuple for ..}), sorted(set(xs)). -/
namespace MF
open PySem PySem.Spec PyProof.Rows L2
/-- the heap without the thing at L -/
def msk (H : Hp) (L : Addr) : Hp := fun a => if a = L then none else H a
theorem msk_ne {H : Hp} {L a : Addr} (h : a ≠ L) : msk H L a = H a := by unfold msk; rw [if_neg h]
theorem msk_some {H : Hp} {L a : Addr} {o : HO} (h : msk H L a = some o) : a ≠ L ∧ H a = some o := by
  unfold msk at h
  split at h
  · cases h
  · rename_i hn; exact ⟨hn, h⟩
theorem msk_upd {H : Hp} {L : Addr} {o : HO} : msk (upd H L o) L = msk H L := by
  funext a
  unfold msk
  split
  · rfl
  · rename_i hn; exact upd_ne hn
/-- a set of tuples stands at L -/
def HasSet (H : Hp) (L : Addr) : Prop := ∃ P w ks, H L = some (SetTO P w L ks)
theorem exw_ne {P : Program} {w : World} {L C d : Addr} {ks : List (Addr × List Int)} (e : exw L C d = SetTO P w L ks) : False := by
  unfold exw SetTO at e
  injection e with e
  let oe : Obj := { cls := .ref C, dict := some d, data := .fields #[.none, .none, .none] }
  let h : Heap := { objs := Array.replicate (L + 1) oe }
  have hg : h.get? L = some oe := by
    show (match (Array.replicate (L + 1) oe)[L]? with
      | some ⟨_, _, .freed, _⟩ => none
      | o => o) = some oe
    rw [Array.getElem?_replicate, if_pos (Nat.lt_succ_self L)]
  have f := congrFun e h
  have t : SetT0 P w h L ks := by
    rw [← f]
    exact ⟨oe, #[.none, .none, .none], hg, rfl, rfl, rfl, rfl⟩
  obtain ⟨es, ep, tt, ⟨o, ho, hx, _⟩, _⟩ := t.ex
  rw [hg] at ho
  cases ho
  have := hx.1
  cases this
/-- a thing that is known by its one object, at which no set stands -/
theorem ext_ne {P : Program} {w : World} {L : Addr} {ks : List (Addr × List Int)} {φ : Heap → Prop} {o : Obj} (hf : o.isFreed = false) (hφ : ∀ h : Heap, h.get? L = some o → φ h) (hx : ∀ es ep t, o.data ≠ .set es ep t) (e : HO.ext φ = SetTO P w L ks) : False := by
  unfold SetTO at e
  injection e with e
  let h : Heap := { objs := Array.replicate (L + 1) o }
  have hg : h.get? L = some o := by
    show (match (Array.replicate (L + 1) o)[L]? with
      | some ⟨_, _, .freed, _⟩ => none
      | o => o) = some o
    rw [Array.getElem?_replicate, if_pos (Nat.lt_succ_self L)]
    obtain ⟨c, d, dt, sl⟩ := o
    cases dt <;> first | rfl | (cases hf)
  have f := congrFun e h
  have t : SetT0 P w h L ks := by
    rw [← f]
    exact hφ h hg
  obtain ⟨es, ep, tt, ⟨o', ho, _, hd⟩, _⟩ := t.ex
  rw [hg] at ho
  cases ho
  exact hx _ _ _ hd
theorem relv_ex (v : V) : ∃ u, RelV v u := by
  cases v
  · exact ⟨.none, rfl⟩
  · rename_i b; exact ⟨.bool b, rfl⟩
  · rename_i i; exact ⟨.int i 0, 0, rfl⟩
  · rename_i x; exact ⟨.str x 0, 0, rfl⟩
  · rename_i b; exact ⟨.bytes b 0, 0, rfl⟩
  · rename_i b; exact ⟨.float b 0, 0, rfl⟩
  · rename_i a; exact ⟨.ref a, rfl⟩
  · rename_i n; exact ⟨.type n, rfl⟩
theorem cell_ne {P : Program} {w : World} {L : Addr} {ks : List (Addr × List Int)} {v : V} (e : cellO L v = SetTO P w L ks) : False := by
  obtain ⟨u, hu⟩ := relv_ex v
  exact ext_ne (o := { cls := .type "cell", data := .cell (some u) }) rfl (fun h hg => ⟨_, u, hg, rfl, hu⟩) (fun _ _ _ z => by cases z) e
theorem code_ne {P : Program} {w : World} {L : Addr} {ks : List (Addr × List Int)} {q : Str} (e : LamX.CodeO L q = SetTO P w L ks) : False :=
  ext_ne (o := { cls := .none, data := .fields #[.none, .str q 0] }) rfl (fun h hg => ⟨_, _, 0, hg, rfl, rfl⟩) (fun _ _ _ z => by cases z) e
theorem fun_ne {P : Program} {w : World} {L : Addr} {ks : List (Addr × List Int)} {a b : Str} {p : Arguments} {bd : Expr} {sc : Scope} {cl : List (Str × Addr)} {pm ctv : Value} {c' : Addr} (e : atO L (PySem.W.kla_obj a b p bd sc cl pm c' ctv) = SetTO P w L ks) : False :=
  ext_ne (o := PySem.W.kla_obj a b p bd sc cl pm c' ctv) rfl (fun h hg => hg) (fun _ _ _ z => by cases z) e
section
variable {K : PySem.W.Frag} {ι : List Addr} {H : Hp} {L : Addr}
theorem hs_ne2 (hs : HasSet H L) {a : Addr} {o : HO} (h : H a = some o) (hn : a = L → ∀ P w ks, o = SetTO P w L ks → False) : a ≠ L := by
  intro e
  obtain ⟨P, w, ks, q⟩ := hs
  rw [e, q] at h
  exact hn e P w ks (Option.some.inj h).symm
theorem hs_ne (hs : HasSet H L) {a : Addr} {o : HO} (h : H a = some o) (hn : ∀ P w ks, o ≠ SetTO P w L ks) : a ≠ L := by
  rintro rfl
  obtain ⟨P, w, ks, e⟩ := hs
  rw [h] at e
  exact hn P w ks (Option.some.inj e)
theorem hs_rd (hs : HasSet H L) {a : Addr} {xs : List V} (h : Rd H a (.lst xs)) : Rd (msk H L) a (.lst xs) := by
  rcases h with h | ⟨o, h⟩
  · exact .inl ((msk_ne (hs_ne hs h fun P w ks e => by cases e)).trans h)
  · exact .inr ⟨o, (msk_ne (hs_ne hs h fun P w ks e => by cases e)).trans h⟩
mutual
theorem Den.msk (hs : HasSet H L) : ∀ {v : V} {d : D}, Den K ι H v d → Den K ι (MF.msk H L) v d
  | _, _, .non => .non
  | _, _, .bl b => .bl b
  | _, _, .int i => .int i
  | _, _, .str x => .str x
  | _, _, .lst hn h he => .lst hn ((msk_ne (hs_ne hs h fun P w ks e => by cases e)).trans h) (DenL.msk hs he)
  | _, _, .scr h he => .scr (by
      rcases h with ⟨n, h⟩ | h
      · exact .inl ⟨n, hs_rd hs h⟩
      · exact .inr h) (DenL.msk hs he)
  | _, _, .tup h he => .tup ⟨h.1, (msk_ne (hs_ne hs h.2 fun P w ks e => by cases e)).trans h.2⟩ (DenL.msk hs he)
  | _, _, .ctp h he => .ctp h (DenL.msk hs he)
  | _, _, .loc h => .loc h
  | _, _, .ins hn h he => .ins hn ((msk_ne (hs_ne hs h fun P w ks e => by cases e)).trans h) (DenF.msk hs he)
  | _, _, .dct hn h he => .dct hn ((msk_ne (hs_ne hs h fun P w ks e => by cases e)).trans h) (DenK.msk hs he)
  | _, _, .dik hn h he => .dik hn ((msk_ne (hs_ne hs h fun P w ks e => by cases e)).trans h) (DenI.msk hs he)
  | _, _, .exc (a := a) (C := C) (dx := dx) hn h hx h2 hd => .exc hn ((msk_ne (by
      rintro rfl
      obtain ⟨P, w, ks, e⟩ := hs
      rw [h] at e
      exact exw_ne (Option.some.inj e))).trans h) hx ((msk_ne (hs_ne hs h2 fun P w ks e => by cases e)).trans h2) (Den.msk hs hd)
  | _, _, .clo hn h hn1 h1 hn2 h2 hd => .clo hn ((msk_ne (hs_ne2 hs h fun e P w ks q => by subst e; exact fun_ne q)).trans h) hn1 ((msk_ne (hs_ne2 hs h1 fun e P w ks q => by subst e; exact code_ne q)).trans h1) hn2 ((msk_ne (hs_ne2 hs h2 fun e P w ks q => by subst e; exact cell_ne q)).trans h2) (Den.msk hs hd)
  | _, _, .adr a => .adr a
theorem DenL.msk (hs : HasSet H L) : ∀ {v : List V} {d : List D}, DenL K ι H v d → DenL K ι (MF.msk H L) v d
  | _, _, .nil => .nil
  | _, _, .cons h he => .cons (Den.msk hs h) (DenL.msk hs he)
theorem DenF.msk (hs : HasSet H L) : ∀ {v : List (Str × V)} {d : List (Str × D)}, DenF K ι H v d → DenF K ι (MF.msk H L) v d
  | _, _, .nil => .nil
  | _, _, .cons h he => .cons (Den.msk hs h) (DenF.msk hs he)
theorem DenK.msk (hs : HasSet H L) : ∀ {v : List (List Key × V)} {d : List (List Key × D)}, DenK K ι H v d → DenK K ι (MF.msk H L) v d
  | _, _, .nil => .nil
  | _, _, .cons h he => .cons (Den.msk hs h) (DenK.msk hs he)
theorem DenI.msk (hs : HasSet H L) : ∀ {v : List (Key × V)} {d : List (Key × D)}, DenI K ι H v d → DenI K ι (MF.msk H L) v d
  | _, _, .nil => .nil
  | _, _, .cons h he => .cons (Den.msk hs h) (DenI.msk hs he)
end
theorem Rel.msk {st : S} (r : Rel K ι H st) (hs : HasSet H L) (hn : L ∉ ι) : Rel K ι (MF.msk H L) st := ⟨r.len, r.nd, fun n a ob h1 h2 => by
  have q := r.obs n a ob h1 h2
  have ne : a ≠ L := fun e => hn (e ▸ List.mem_of_getElem? h1)
  cases ob with
  | lst ds => obtain ⟨xs, h, hd⟩ := q; exact ⟨xs, (msk_ne ne).trans h, hd.msk hs⟩
  | dct gs => obtain ⟨xs, h, hd⟩ := q; exact ⟨xs, (msk_ne ne).trans h, hd.msk hs⟩
  | dik gs => obtain ⟨xs, h, hd⟩ := q; exact ⟨xs, (msk_ne ne).trans h, hd.msk hs⟩
  | ins C gs => obtain ⟨dx, xs, h, hd⟩ := q; exact ⟨dx, xs, (msk_ne ne).trans h, hd.msk hs⟩
  | tab p0 q0 =>
    obtain ⟨ea, ps, h, t, d⟩ := q
    refine ⟨ea, ps, (msk_ne ne).trans h, t, fun pos cv hc => ?_⟩
    obtain ⟨c, e1, e2, e3⟩ := d pos cv hc
    exact ⟨c, e1, e2, (msk_ne (hs_ne2 hs e3 fun e P w ks q => by subst e; exact code_ne q)).trans e3⟩⟩
theorem msk_stp (H : Hp) (L : Addr) : Stp ι (MF.msk H L) ι H := ⟨List.prefix_refl _, fun a o n _ h => ⟨n, (msk_some h).2⟩⟩
theorem Stp.msk {ι' : List Addr} {H' : Hp} (s : Stp ι H ι' H') (L : Addr) : Stp ι (MF.msk H L) ι' (MF.msk H' L) := ⟨s.pre, fun a o n t h => by
  obtain ⟨h1, h2⟩ := msk_some h
  obtain ⟨n2, h3⟩ := s.keep a o n t h2
  exact ⟨n2, (msk_ne h1).trans h3⟩⟩
theorem Rel.up {st : S} (r : Rel K ι (MF.msk H L) st) (hn : L ∉ ι) : Rel K ι H st := ⟨r.len, r.nd, fun n a ob h1 h2 => (r.obs n a ob h1 h2).stp (msk_stp H L) (msk_ne fun (e : a = L) => hn (e ▸ List.mem_of_getElem? h1)).symm⟩
end
/-! ### set.add of a tuple -/
theorem addT_ok {X : Cx} {pins : List (Addr × Obj)} {σ : L2.St} {H : Hp} {s : Shared} {E : Value → Shared → Prop} {D b : Addr} {L : List (Addr × List Int)} {k : List Int} {Q : Value → Shared → Prop} (hu : X.A.units + 1 < cLine) (I : Inv X pins σ H s) (hD : H D = some (SetTO X.prog X.w D L)) (hk : ∀ p ∈ L, SqT X.K H p.1 (p.2.map V.int))
    (hb : SqT X.K H b (k.map V.int)) (few : L.length + 1 < 64) (h : ∀ L' s', (k ∈ L.map (·.2) → L' = L) → (k ∉ L.map (·.2) → L'.Perm ((b, k) :: L)) → Inv X pins σ (upd H D (SetTO X.prog X.w D L')) s' → Q .none s') : wpAny (model X.prog X.w) X.A (call (.builtin "set.add") [.ref D, .ref b]) Q E s := by
  have R0 : SetT0 X.prog X.w s.heap D L := (I.hok D _ hD).1
  obtain ⟨es, ep, t, R⟩ := R0.full fun p hp => I.isT (hk p hp)
  have hT : s.TypeIs (.ref D) "set" := by
    obtain ⟨o, ho, hx, _⟩ := R.ob
    exact ⟨o, ho, hx.1⟩
  refine wpAny_call_entry F.slot_set_add hT F.entry_set_add ?_ (F.args_set_add_2 _ _)
  unfold Builtin.«set.add» Builtin.Frozenset.oneOther
  simp only [List.isEmpty_nil, bind_assoc]
  unfold Builtin.Frozenset.addrOf setAdd
  refine wpAny_bind (wpAny_pure ?_)
  try dsimp only
  refine wpAny_bind (wpAny_pure ?_)
  try dsimp only
  refine wpAny_bind ?_
  refine wpAny_holding ?_
  have hx := I.isT hb
  refine wpAny_bind (wpAny_pyHash_tuple (by show X.A.units + 1 < cLine; exact hu) hx ?_)
  refine add_at (s := { s with toks := s.toks + (k.length + 1) }) R hx (by show X.A.units + 1 < cLine; exact hu) few ?_
  intro b' h' L' es' ep' t' hsb hS2 c1 c2
  show wpAny _ _ (ret Value.none) _ _ _
  refine wpAny_pure ⟨_, rfl, h L' _ c1 c2 ?_⟩
  have he : ∃ u, h'.get? D = some u := by
    obtain ⟨o, ho, _⟩ := hS2.ob
    exact ⟨o, ho⟩
  exact I.write (e := D) (t' := s.toks + (k.length + 1)) (by rw [hD]; trivial) (.inl rfl) (fun c u hc hu => (hsb.2 c hc).trans hu) he (setTO_new hS2.t0)
theorem acc_setT {X : Cx} : AccOk X (newSet (.type "set")) fun a => SetTO X.prog X.w a [] := ⟨{ cls := .type "set", dict := none, data := .set #[] 0 (.fresh 0 0 (!X.w.params.followText "set-order")) },
  fun s Q E h => PpSet.newSet_ok h, fun H h hb => setTO_new (setTR_fresh (Heap.get?_push_size _ rfl)).t0⟩
def sSet (elt : Expr) (acc : Value) (env : PySem.Env) : Sem Unit := do let v ← eval elt env; standAt elt.pos; let _ ← call (.builtin "set.add") [acc, v]
def tSetB (K : PySem.W.Frag) (P : Program) (w : World) (te : TE) (L : Addr) : L2.St → Hp → (Hp → Prop) → Prop := fun σ H Nx => te σ H fun y H4 => ∃ ks b k, y = .ref b ∧ H4 L = some (SetTO P w L ks) ∧ (∀ p ∈ ks, SqT K H4 p.1 (p.2.map V.int)) ∧ SqT K H4 b (k.map V.int) ∧ ks.length + 1 < 64 ∧
    ∀ ks', (k ∈ ks.map (·.2) → ks' = ks) → (k ∉ ks.map (·.2) → ks'.Perm ((b, k) :: ks)) → Nx (upd H4 L (SetTO P w L ks'))
theorem act_set {B : Cx} {elt : Expr} {te : TE} {L : Addr} (hu : B.A.units + 1 < cLine) (pe : PE (B.wish fun _ _ => False) elt te) : ActOk B [] (sSet elt (.ref L) B.env) (tSetB B.K B.prog B.w te L) := by
  intro pins s σ H Nx I h
  unfold sSet
  refine wpAny_bind (never_N (pe.run pins s σ H _ (I.wish _) h) ?_)
  rintro v s1 ⟨y, H1, I1, ry, ks, b, k, rfl, h1, h2, h3, h4, q⟩
  cases ry
  refine wpAny_bind (wpAny_standAt (wpAny_bind (addT_ok (X := B) hu I1.unwish h1 h2 h3 h4 fun ks' s2 c1 c2 I2 => ?_)))
  exact wpAny_pure ⟨_, I2, q ks' c1 c2⟩
/-! ### sorted({e for ..}) of functions -/
def keyN : D → Option (List Int)
  | .tup ds => intsD ds
  | _ => none
def sLoop (f : D → Env → Option Env) (t : Env → S → R Bool) (e : Env → S → R D) (env : Env) : List D → List (List Int) → S → R (List (List Int))
  | [], acc, st => .ok acc st
  | d :: ds, acc, st => match f d env with
    | none => .stuck
    | some env1 => match t env1 st with
      | .ok false st1 => sLoop f t e env ds acc st1
      | .ok true st1 => match e env1 st1 with
        | .ok y st2 => match keyN y with
          | some k => if acc.length < 63 then sLoop f t e env ds (acc ++ [k]) st2 else .stuck
          | none => .stuck
        | _ => .stuck
      | _ => .stuck
def tupN (k : List Int) : D := .tup (k.map .int)
def gSortN (d : Nat) (acc : List (List Int)) (st : S) : R D := if 1 ≤ d ∧ okN d acc = true then .ok (.lst ((sortN acc).map tupN)) st else .stuck
def dimN (acc : List (List Int)) : Nat := match acc with
  | [] => 1
  | k :: _ => k.length
def mSorC (vs : List Nat) (it : Env → S → R (List D)) (f : D → Env → Option Env) (t : Env → S → R Bool) (e : Env → S → R D) : Env → S → R D := fun env st => (it env st).bind fun ds st1 => match sLoop f t e (wipeE env vs) ds [] st1 with
  | .ok acc st2 => gSortN (dimN acc) acc st2
  | _ => .stuck
theorem keyN_den {K : PySem.W.Frag} {ι : List Addr} {H : Hp} {v : V} {d : D} {k : List Int} (e : Den K ι H v d) (h : keyN d = some k) : ∃ b, v = .ref b ∧ FzT K ι H b (k.map V.int) := by
  cases e with
  | tup hq hs =>
    simp only [keyN] at h
    rw [← intsD_den hs h]
    exact ⟨_, rfl, hq⟩
  | _ => simp only [keyN] at h; cases h
theorem tupN_den {K : PySem.W.Frag} {ι : List Addr} {H : Hp} {b : Addr} {k : List Int} (h : FzT K ι H b (k.map V.int)) : Den K ι H (.ref b) (tupN k) := by
  refine .tup h ?_
  clear h
  induction k with
  | nil => exact .nil
  | cons i k ih => exact .cons (.int i) ih
/-- the sorted list of a set -/
theorem post_sorN {X : Cx} {W : L2.WX} {σ : L2.St} {ι : List Addr} {H : Hp} {st : S} {L : Addr} {ks : List (Addr × List Int)} {acc : List (List Int)} {d : Nat} {Q : VK} (r : Rel X.K ι H st) (hL : H L = some (SetTO X.prog X.w L ks)) (hf : ∀ p ∈ ks, FzT X.K ι H p.1 (p.2.map V.int))
    (hm : ∀ k, k ∈ ks.map (·.2) ↔ k ∈ acc) (h : Post X.K W (Den X.K) σ ι H (gSortN d acc st) Q) : rSortedT X.K X.prog X.w [V.ref L] H Q := by
  unfold gSortN at h
  split at h
  · rename_i hd
    obtain ⟨h1, h2⟩ := hd
    refine ⟨L, ks, d, 256, rfl, hL, fun p hp => (hf p hp).sq, h1, fun p hp => okN_mem h2 ((hm _).mp (List.mem_map_of_mem hp)), fun L' p pm nd few pw hp => ?_⟩
    have e := sorted_is h2 (fun k => ((pm.map (·.2)).mem_iff).trans (hm k)) nd pw
    refine h ι _ _ (new_stp hp) (r.new hp) (.lst (r.fresh hp) upd_same ?_)
    rw [← e]
    have all : ∀ q ∈ L', FzT X.K ι (upd H p (.lst (L'.map fun q => V.ref q.1))) q.1 (q.2.map V.int) := fun q hq => (hf q (pm.mem_iff.mp hq)).imp id fun z => by
      rw [upd_ne (ne_of_none z hp)]
      exact z
    generalize upd H p (.lst (L'.map fun q => V.ref q.1)) = H9 at all ⊢
    clear e pw nd few pm
    induction L' with
    | nil => exact .nil
    | cons q L' ih => exact .cons (tupN_den (all q (List.mem_cons_self ..))) (ih fun x hx => all x (List.mem_cons_of_mem _ hx))
  · exact h.elim
section
variable {X : Cx} {W : L2.WX} {elt tg iter : Expr} {ifs : List Expr} {scope : Scope} {own : List (Str × Nat)} {pos p : Pos} {pos2 : Pos} {it : Env → S → R (List D)} {js : List Nat} {f : D → Env → Option Env} {t : Env → S → R Bool} {e : Env → S → R D}
theorem sLoop_reads {K : PySem.W.Frag} {P : Program} {w : World} {σ : L2.St} {ι1 : List Addr} {H1 : Hp} {st1 : S} {env : Env} {vs js : List Nat} {J : It} {ds : List D} {f : D → Env → Option Env} {t : Env → S → R Bool} {e : Env → S → R D} {L : Addr} {Nx : Hp → Prop} {acc9 : List (List Int)} {st9 : S} (hjs : ∀ j, j ∈ js → j ∈ vs)
    (wk0 : WalksD K ι1 H1 J ds) (er : EnvR K ι1 H1 σ env) (r1 : Rel K ι1 H1 st1) (nL : H1 L = none) (hl : sLoop f t e (wipeE env vs) ds [] st1 = .ok acc9 st9)
    (q : ∀ ι H ks, Stp ι1 H1 ι H → Rel K ι H st9 → H L = some (SetTO P w L ks) → (∀ p ∈ ks, FzT K ι H p.1 (p.2.map V.int)) → (∀ k, k ∈ ks.map (·.2) ↔ k ∈ acc9) → Nx H) :
    readLevel J (tMG K js f) (tMT K W0 t) vs (tSetB K P w (tM K W0 e) L) σ (upd H1 L (SetTO P w L [])) Nx := by
  obtain ⟨G, Y, wk, hG, hY⟩ := wk0.ex
  have fL : L ∉ ι1 := r1.fresh nL
  have up0 : ∀ {ι : List Addr} {H : Hp}, Stp ι1 H1 ι (msk H L) → Stp ι1 H1 ι H := fun s => s.trans (msk_stp _ L)
  refine rd_it wk (fun i H => ∃ ι st acc ks, Stp ι1 H1 ι (msk H L) ∧ Rel K ι (msk H L) st ∧ L ∉ ι ∧ H L = some (SetTO P w L ks) ∧ (∀ p ∈ ks, FzT K ι (msk H L) p.1 (p.2.map V.int)) ∧ (∀ k, k ∈ ks.map (·.2) ↔ k ∈ acc) ∧ ks.length ≤ acc.length ∧ sLoop f t e (wipeE env vs) (ds.drop i) acc st = .ok acc9 st9)
    ⟨ι1, st1, [], [], ?_, ?_, fL, upd_same, fun p hp => (by cases hp), fun k => Iff.rfl, Nat.le_refl _, by rw [List.drop_zero]; exact hl⟩ (fun i H _ ⟨ι, st, acc, ks, s, _⟩ => hG ι H (up0 s)) ?_ ?_
  · refine ⟨List.prefix_refl _, fun a o n _ h => ⟨n, ?_⟩⟩
    rw [msk_upd, msk_ne (ne_of_none h nL)]
    exact h
  · rw [msk_upd]
    exact ⟨r1.len, r1.nd, fun n a ob h1 h2 => by
      have ne : a ≠ L := fun (e : a = L) => fL (e ▸ List.mem_of_getElem? h1)
      refine (r1.obs n a ob h1 h2).stp ⟨List.prefix_refl _, fun b o nb _ hb => ⟨nb, ?_⟩⟩ (msk_ne ne)
      rw [msk_ne (ne_of_none hb nL)]
      exact hb⟩
  · rintro i x H H' hi ⟨ι, st, acc, ks, s, r, nL2, hs, hf, hm, hlen, hc⟩ y
    have rU := r.up nL2
    obtain ⟨s2, r2, d, hd, ed⟩ := hY ι H i x H' st (up0 s) rU hi y
    have hdrop : ds.drop i = d :: ds.drop (i + 1) := by
      rw [List.drop_eq_getElem_cons hi]
      congr 1
      rw [List.getElem?_eq_getElem hi] at hd
      exact Option.some.inj hd
    rw [hdrop] at hc
    unfold sLoop at hc
    have pack : ∀ {ι3 : List Addr} {H3 : Hp} {st3 : S}, Stp ι H ι3 H3 → Rel K ι3 H3 st3 → L ∉ ι3 ∧ H3 L = some (SetTO P w L ks) ∧ Stp ι1 H1 ι3 (msk H3 L) ∧ Rel K ι3 (msk H3 L) st3 ∧ (∀ p ∈ ks, FzT K ι3 (msk H3 L) p.1 (p.2.map V.int)) := by
      intro ι3 H3 st3 s3 r3
      obtain ⟨n3, h3⟩ := s3.keep L _ nL2 (fun _ => ext_tbl) hs
      exact ⟨n3, h3, s.trans (s3.msk L), r3.msk ⟨P, w, ks, h3⟩ n3, fun p hp => (s3.msk L).fzt (hf p hp)⟩
    split at hc
    · cases hc
    · rename_i env1 he
      refine ⟨ι, wipeE env vs, d, env1, (((er.stp (up0 s))).stp s2).wipe vs, ed, he, fun σ2 er2 hlen2 hkeep => ⟨wipe_back hjs hlen2 hkeep, ι, env1, st, er2, r2, ?_⟩⟩
      split at hc
      · rename_i st3 ht
        rw [ht]
        intro ι3 H3 b s3 r3 eb
        subst eb
        rw [if_neg (by decide)]
        obtain ⟨n3, h3, s3', r3', f3⟩ := pack (s2.trans s3) r3
        exact ⟨ι3, st3, acc, ks, s3', r3', n3, h3, f3, hm, hlen, hc⟩
      · rename_i st3 ht
        rw [ht]
        intro ι3 H3 b s3 r3 eb
        subst eb
        rw [if_pos rfl]
        refine ⟨ι3, env1, st3, er2.stp s3, r3, ?_⟩
        split at hc
        · rename_i yv st4 hy
          rw [hy]
          intro ι4 H4 v s4 r4 ev
          split at hc
          · rename_i k hk
            split at hc
            · rename_i h63
              obtain ⟨n4, h4, s4', r4', f4⟩ := pack ((s2.trans s3).trans s4) r4
              obtain ⟨bk, rfl, fb⟩ := keyN_den ev hk
              refine ⟨ks, bk, k, rfl, h4, fun p hp => ((msk_stp H4 L).fzt (f4 p hp)).sq, fb.sq, by omega, fun ks' c1 c2 => ?_⟩
              have fbm : FzT K ι4 (msk H4 L) bk (k.map V.int) := ⟨fb.1, (msk_ne (hs_ne ⟨P, w, ks, h4⟩ fb.2 fun P w ks e => by cases e)).trans fb.2⟩
              refine ⟨ι4, st4, acc ++ [k], ks', ?_, ?_, n4, upd_same, ?_, ?_, ?_, hc⟩
              · rw [msk_upd]; exact s4'
              · rw [msk_upd]; exact r4'
              · rw [msk_upd]
                intro p hp
                rcases Classical.em (k ∈ ks.map (·.2)) with c | c
                · rw [c1 c] at hp; exact f4 p hp
                · rcases List.mem_cons.mp ((c2 c).mem_iff.mp hp) with z | z
                  · rw [z]; exact fbm
                  · exact f4 p z
              · intro k'
                rcases Classical.em (k ∈ ks.map (·.2)) with c | c
                · rw [c1 c, hm, List.mem_append, List.mem_singleton]
                  exact ⟨.inl, fun z => z.elim id fun z => by rw [z]; exact (hm k).mp c⟩
                · rw [((c2 c).map (·.2)).mem_iff, List.map_cons, List.mem_cons, hm, List.mem_append, List.mem_singleton]
                  exact ⟨fun z => z.symm, fun z => z.symm⟩
              · rw [List.length_append, List.length_singleton]
                rcases Classical.em (k ∈ ks.map (·.2)) with c | c
                · rw [c1 c]; omega
                · rw [(c2 c).length_eq, List.length_cons]; omega
            · cases hc
          · cases hc
        · cases hc
      · cases hc
  · rintro H ⟨ι, st, acc, ks, s, r, nL2, hs, hf, hm, hlen, hc⟩
    rw [List.drop_length] at hc
    cases hc
    exact q ι H ks (up0 s) (r.up nL2) hs (fun p hp => (msk_stp H L).fzt (hf p hp)) hm
theorem me_sorC (hu : X.A.units + 1 < cLine) (hc : X.calm = true) (hN : X.N.Nodup) (hgl : Gl X "sorted") (hm : X.mg "sorted" = none) (hi : PI X tg iter (tMI X.K W it)) (ok : BlkOk X.N X.env.scope scope own) (hjs : ∀ j, j ∈ js → j ∈ own.map (·.2))
    (hg : ∀ (s : Shared) (H : Hp) (C : Addr) (cl : List (Str × Addr)) (fp : List Addr), PG (X.blk s H scope (compEnvC scope cl C X.env) fp) tg (tMG X.K js f)) (ht : ∀ (s : Shared) (H : Hp) (C : Addr) (cl : List (Str × Addr)) (fp : List Addr), PTs (X.blk s H scope (compEnvC scope cl C X.env) fp) ifs (tMT X.K W0 t))
    (he : ∀ (s : Shared) (H : Hp) (C : Addr) (cl : List (Str × Addr)) (fp : List Addr), PE (X.blk s H scope (compEnvC scope cl C X.env) fp) elt (tM X.K W0 e)) (hs : ∀ x, foldedSetIterable iter X.env x = pure x := by intro _; rfl)
    (hse : starEach [.SetComp elt [⟨tg, iter, ifs, 0⟩] scope pos] X.env = (false, eval (.SetComp elt [⟨tg, iter, ifs, 0⟩] scope pos) X.env) :: starEach [] X.env := by rfl) (hpl : (backTo pos2 (starEach [] X.env)).any (·.1) = false := by rfl) :
    PE X (.Call (.Name "sorted" p) [.SetComp elt [⟨tg, iter, ifs, 0⟩] scope pos] [] pos2) (tM X.K W (mSorC (own.map (·.2)) it f t e)) := by
  have base := pe_levels (X := X) (c0 := .SetComp elt [⟨tg, iter, ifs, 0⟩] scope pos) (body := tSetB X.K X.prog X.w (tM X.K W0 e)) (js := js) (sSet elt) compE_set acc_setT hc hN hi ok hjs hg ht (fun s H C cl fp L pins s1 σ H1 Nx I q => by
    have z := act_set (B := X.blk s H scope (compEnvC scope cl C X.env) fp) (L := L) hu (he s H C cl fp) pins s1 σ H1 Nx I q
    exact never_N z fun _ s2 ⟨H2, I2, q2⟩ => ⟨H2, I2.weak (by rw [wipe_length]; rfl) (fun j v e => (wipe_some e).1), q2⟩) (fun it acc env => by rfl) hs
  refine (pe_callB (cr_sortedT hc) hgl hm rfl (pa_cons base pa_nil hse) (by decide) (by decide) hse hpl).imp ?_
  rintro σ H Q ⟨ι, env, st, er, r, h⟩
  refine ⟨ι, env, st, er, r, (Post.bind (ρ := fun ι' H' (J : It) ds => WalksD X.K ι' H' J ds) h).mono ?_⟩
  rintro J H1 ⟨ι1, ds, st1, s1, r1, w1, h1⟩ L hL
  split at h1
  · rename_i acc9 st9 h9
    exact sLoop_reads hjs w1 (er.stp s1) r1 hL h9 fun ι2 H2 ks s2 r2 hL2 hf hm => post_sorN r2 hL2 hf hm (h1.step s2)
  · exact h1.elim
end
end MF
end
section
set_option Elab.async false
set_option linter.all false
set_option maxRecDepth 100000
set_option maxHeartbeats 4000000
/-! MXF: sorted(set(xs)), name = [..] that changes, bits, is None, tests by comparison. -/
namespace MF
open PySem PySem.Spec PyProof.Rows L2
/-! ### int operators -/
def gI0 (g : Int → Int → Int) (d e : D) (st : S) : R D := match d, e with
  | .int i, .int j => .ok (.int (g i j)) st
  | _, _ => .stuck
theorem op2_i0 {K : PySem.W.Frag} {g : Int → Int → Int} : Op2 K (rI0 fun i j => .int (g i j)) (gI0 g) := by
  intro W σ ι H st x y d e Q r hx hy h
  unfold gI0 at h
  split at h
  · rename_i i j
    have e1 := int_den hx
    have e2 := int_den hy
    subst e1 e2
    exact ⟨i, j, rfl, rfl, h.ok r (.int _)⟩
  · exact h.elim
def gShl (d e : D) (st : S) : R D := match d, e with
  | .int i, .int j => if 0 ≤ j ∧ j ≤ 1000000 ∧ i.natAbs < 2 ^ 64 then .ok (.int (i * 2 ^ j.toNat)) st else .stuck
  | _, _ => .stuck
theorem op2_shl {K : PySem.W.Frag} : Op2 K (rI CPow fun i j => .int (i * 2 ^ j.toNat)) gShl := by
  intro W σ ι H st x y d e Q r hx hy h
  unfold gShl at h
  split at h
  · rename_i i j
    have e1 := int_den hx
    have e2 := int_den hy
    subst e1 e2
    obtain ⟨hc, h⟩ := h.ite
    exact ⟨i, j, rfl, rfl, hc, h.ok r (.int _)⟩
  · exact h.elim
/-! ### is None -/
def isNonD : D → Bool
  | .non => true
  | _ => false
theorem isNon_den {K : PySem.W.Frag} {ι : List Addr} {H : Hp} {v : V} {d : D} (e : Den K ι H v d) : decide (v = .non) = isNonD d := by cases e <;> first | rfl | exact decide_eq_false (by intro z; cases z)
def gIsN (neg : Bool) (d e : D) (st : S) : R D := match e with
  | .non => .ok (.bl (if neg then !isNonD d else isNonD d)) st
  | _ => .stuck
theorem op2_isN {K : PySem.W.Frag} : Op2 K (fun x y H Q => y = .non ∧ Q (.bl (decide (x = .non))) H) (gIsN false) := by
  intro W σ ι H st x y d e Q r hx hy h
  unfold gIsN at h
  split at h
  · cases hy
    refine ⟨rfl, ?_⟩
    rw [isNon_den hx]
    exact h.ok r (.bl _)
  · exact h.elim
theorem op2_notN {K : PySem.W.Frag} : Op2 K (fun x y H Q => y = .non ∧ Q (.bl (!decide (x = .non))) H) (gIsN true) := by
  intro W σ ι H st x y d e Q r hx hy h
  unfold gIsN at h
  split at h
  · cases hy
    refine ⟨rfl, ?_⟩
    rw [isNon_den hx]
    exact h.ok r (.bl _)
  · exact h.elim
section
variable {X : Cx} {W : L2.WX} {a b : Expr} {pos : Pos}
theorem me_pc {op : CmpOp} {m : Env → S → R D} (h : PC X op a b (tM X.K W m)) (h1 : behindInMarks op b = false := by first | exact nobehind _ (by decide) (by decide) | rfl) : PE X (.Compare a [op] [b] pos) (tM X.K W m) := pe_cmp h h1
theorem mt_pc {op : CmpOp} {m : Env → S → R D} (h : PC X op a b (tM X.K W m)) (h1 : behindInMarks op b = false := by first | exact nobehind _ (by decide) (by decide) | rfl) : PT X (.Compare a [op] [b] pos) (tMT X.K W (mTest m)) := (pt_cmp h h1).imp fun σ H Q ⟨ι, env, st, er, r, h⟩ => seqM er r h fun ι1 H1 v d st1 er1 s1 r1 e1 h1 => by
  obtain ⟨k, e, q⟩ := Post.test r1 e1 h1
  first
    | exact ⟨k, e, q⟩
    | (subst e; exact ⟨k, rfl, q⟩)
end
/-! ### sorted(set(xs)) -/
def insI (k : Int) : List Int → List Int
  | [] => [k]
  | x :: xs => if k = x then x :: xs else if k < x then k :: x :: xs else x :: insI k xs
def sortI : List Int → List Int
  | [] => []
  | k :: ks => insI k (sortI ks)
theorem mem_insI {k a : Int} : ∀ {xs : List Int}, a ∈ insI k xs ↔ a = k ∨ a ∈ xs
  | [] => by simp [insI]
  | x :: xs => by
    unfold insI
    split
    · rename_i e
      subst e
      simp
    · split
      · simp
      · rw [List.mem_cons, mem_insI, List.mem_cons]
        constructor
        · rintro (c | c | c)
          · exact .inr (.inl c)
          · exact .inl c
          · exact .inr (.inr c)
        · rintro (c | c | c)
          · exact .inr (.inl c)
          · exact .inl c
          · exact .inr (.inr c)
theorem pw_insI {k : Int} : ∀ {xs : List Int}, xs.Pairwise (· < ·) → (insI k xs).Pairwise (· < ·)
  | [], _ => by simp [insI]
  | x :: xs, p => by
    rw [List.pairwise_cons] at p
    unfold insI
    split
    · exact List.pairwise_cons.mpr p
    · rename_i hne
      split
      · rename_i hlt
        refine List.pairwise_cons.mpr ⟨fun a ha => ?_, List.pairwise_cons.mpr p⟩
        rcases List.mem_cons.mp ha with c | c
        · rw [c]; exact hlt
        · exact Int.lt_trans hlt (p.1 a c)
      · rename_i hge
        refine List.pairwise_cons.mpr ⟨fun a ha => ?_, pw_insI p.2⟩
        rcases mem_insI.mp ha with c | c
        · rw [c]; omega
        · exact p.1 a c
theorem sortI_ok : ∀ (ks : List Int), (∀ a, a ∈ sortI ks ↔ a ∈ ks) ∧ (sortI ks).Pairwise (· < ·)
  | [] => ⟨fun a => Iff.rfl, .nil⟩
  | k :: ks => ⟨fun a => by unfold sortI; rw [mem_insI, (sortI_ok ks).1, List.mem_cons], pw_insI (sortI_ok ks).2⟩
def rSetTI (K : PySem.W.Frag) (w : World) : List V → Hp → VK → Prop := fun xs H Q => ∃ (l : Addr) (ns : List Int), xs = [V.ref l] ∧ SqT K H l (ns.map V.int) ∧ ns.length < 64 ∧ ∀ a c, H a = none → c ≤ ns.length → Q (.ref a) (upd H a (SetO w a (fun j => decide (j ∈ ns)) c))
theorem cr_setTI {X : Cx} (hc : X.calm = true) : CallR X (.type "set") (rSetTI X.K X.w) := by
  intro pins s σ H vs us Q I r h
  obtain ⟨l, ns, rfl, hq, hf, q⟩ := h
  rw [Vals.ref1 r]
  obtain ⟨its, rv, pt, hz⟩ := I.tuple hq
  refine call_set_tupI ns (I.ok.hd hc) (show s.heap.IsTuple l its.toArray from pt) (by simpa using ints_of_vals rv) (by unfold scanBound; omega) fun h' tk c R1 hcn k => ?_
  exact ⟨.ref s.heap.objs.size, _, I.laid (t' := tk) k (Nat.le_refl _) (setO_new R1), rfl, q _ c (I.hok.fresh (Nat.le_refl _)) hcn⟩
def keysN : List D → Option (List (List Int))
  | [] => some []
  | d :: ds => match keyN d, keysN ds with
    | some k, some ks => some (k :: ks)
    | _, _ => none
theorem keysN_den {K : PySem.W.Frag} {ι : List Addr} {H : Hp} : ∀ {vs : List V} {ds : List D} {acc : List (List Int)}, DenL K ι H vs ds → keysN ds = some acc → ∃ ks : List (Addr × List Int), vs = ks.map (fun p => V.ref p.1) ∧ ks.map (·.2) = acc ∧ ∀ p ∈ ks, FzT K ι H p.1 (p.2.map V.int)
  | _, _, _, .nil, h => by
    cases (Option.some.inj h)
    exact ⟨[], rfl, rfl, fun p hp => by cases hp⟩
  | _, _, _, .cons e es, h => by
    simp only [keysN] at h
    split at h
    · rename_i k ks h1 h2
      cases h
      obtain ⟨b, rfl, hb⟩ := keyN_den e h1
      obtain ⟨qs, rfl, rfl, hq⟩ := keysN_den es h2
      exact ⟨(b, k) :: qs, rfl, rfl, fun p hp => by
        rcases List.mem_cons.mp hp with z | z
        · rw [z]; exact hb
        · exact hq p z⟩
    · cases h
def gSorS (d : D) (st : S) : R D := match d with
  | .tup ds => match intsD ds with
    | some ns => if ns.length < 64 then .ok (.lst ((sortI ns).map .int)) st else .stuck
    | none => .stuck
  | d => match asL st d with
    | some ds => match keysN ds with
      | some acc => if acc.length < 64 then gSortN (dimN acc) acc st else .stuck
      | none => .stuck
    | none => .stuck
def mSorS (m : Env → S → R D) : Env → S → R D := fun env st => (m env st).bind gSorS
theorem intsL_den {K : PySem.W.Frag} {ι : List Addr} {H : Hp} : ∀ (ns : List Int), DenL K ι H (ns.map V.int) (ns.map .int)
  | [] => .nil
  | n :: ns => .cons (.int n) (intsL_den ns)
section
variable {X : Cx} {W : L2.WX} {e : Expr} {p p2 pos pos2 : Pos} {m : Env → S → R D}
theorem me_sorS (hu : X.A.units + 64 < cLine) (hc : X.calm = true) (hgl : Gl X "sorted") (hm : X.mg "sorted" = none) (hgl2 : Gl X "set") (hm2 : X.mg "set" = none) (he : PE X e (tM X.K W m))
    (h1 : starEach [e] X.env = (false, eval e X.env) :: starEach [] X.env := by rfl) (h2 : (backTo pos2 (starEach [] X.env)).any (·.1) = false := by rfl)
    (h3 : starEach [.Call (.Name "set" p2) [e] [] pos2] X.env = (false, eval (.Call (.Name "set" p2) [e] [] pos2) X.env) :: starEach [] X.env := by rfl) (h4 : (backTo pos (starEach [] X.env)).any (·.1) = false := by rfl) :
    PE X (.Call (.Name "sorted" p) [.Call (.Name "set" p2) [e] [] pos2] [] pos) (tM X.K W (mSorS m)) := by
  have inner := pe_callTy (pos := pos2) (p := p2) (callr_or (cr_setOfT hc hu) (cr_setTI hc)) hgl2 hm2 (show bootBuiltins "set" = some (.type "set") from rfl) (pa_cons he pa_nil h1) (by decide) (by decide) h1 h2
  refine (pe_callB (callr_or (cr_sortedT hc) (cr_sortedSet hc)) hgl hm rfl (pa_cons inner pa_nil h3) (by decide) (by decide) h3 h4).imp ?_
  rintro σ H Q ⟨ι, env, st, er, r, h⟩
  refine seqM er r h fun ι1 H1 v d st1 er1 s1 r1 e1 h1 => ?_
  unfold gSorS at h1
  have lists : ∀ {d : D} {ds : List D}, Den X.K ι1 H1 v d → asL st1 d = some ds → Post X.K W (Den X.K) σ ι1 H1 (match keysN ds with
      | some acc => if acc.length < 64 then gSortN (dimN acc) acc st1 else .stuck
      | none => .stuck) Q → rSetOfT X.K X.prog X.w [v] H1 fun x H2 => rSortedT X.K X.prog X.w [x] H2 Q := by
    intro d ds e1 ha h1
    split at h1
    · rename_i acc hk
      obtain ⟨hf, h1⟩ := h1.ite
      obtain ⟨a, us, rfl, hl, hs⟩ := asL_den r1 e1 ha
      obtain ⟨ks, rfl, rfl, hks⟩ := keysN_den hs hk
      refine ⟨a, ks, rfl, .inl (.inl hl), fun q hq => (hks q hq).sq, by simpa using hf, fun b L hb hsub hall => ?_⟩
      have fz : ∀ q ∈ L, FzT X.K ι1 (upd H1 b (SetTO X.prog X.w b L)) q.1 (q.2.map V.int) := fun q hq => (new_stp hb).fzt (hks q (hsub q hq))
      refine post_sorN (r1.new hb) upd_same fz (fun k => ⟨fun z => ?_, fun z => ?_⟩) (h1.step (new_stp hb))
      · obtain ⟨q, hq, rfl⟩ := List.mem_map.mp z
        exact List.mem_map_of_mem (hsub q hq)
      · obtain ⟨q, hq, rfl⟩ := List.mem_map.mp z
        exact hall q hq
    · exact h1.elim
  split at h1
  · rename_i ds
    split at h1
    · rename_i ns hn
      obtain ⟨hf, h1⟩ := h1.ite
      cases e1 with
      | @tup a xs _ hq hs =>
        rw [intsD_den hs hn] at hq
        refine .inr ⟨a, ns, rfl, hq.sq, hf, fun b c hb hcn => .inr ⟨b, _, c, rfl, upd_same, by omega, fun ns' q2 pw hm hl hq2 => ?_⟩⟩
        have e : ns' = sortI ns := strict_unique id pw (sortI_ok ns).2 fun a => by rw [hm, decide_eq_true_eq, (sortI_ok ns).1]
        rw [e]
        exact post_lst (r1.new hb) (intsL_den _) (h1.step (new_stp hb)) q2 hq2
    · exact h1.elim
  · split at h1
    · rename_i ds ha
      exact .inl (by
        have z := lists e1 ha h1
        obtain ⟨l, ks, e1, e2, e3, e4, q⟩ := z
        exact ⟨l, ks, e1, e2, e3, e4, fun a L n1 n2 n3 => .inl (q a L n1 n2 n3)⟩)
    · exact h1.elim
end
/-! ### name = [..], the list changeable -/
section
variable {X : Cx} {W : L2.WX} {elt tg iter : Expr} {ifs : List Expr} {scope : Scope} {own : List (Str × Nat)} {pos : Pos} {it : Env → S → R (List D)} {js : List Nat} {f : D → Env → Option Env} {t : Env → S → R Bool} {e : Env → S → R D}
theorem ms_setLcM {i : Nat} {y : Str} {py spos : Pos} (hc : X.calm = true) (hN : X.N.Nodup) (hy : X.N[i]? = some y) (hyl : X.env.scope.names.lookup y = some .local)
    (hsw : swapsWith (.ListComp elt [⟨tg, iter, ifs, 0⟩] scope pos) (some (.Name y py)) spos.line X.env = pure true) (hi : PI X tg iter (tMI X.K W it)) (ok : BlkOk X.N X.env.scope scope own) (hjs : ∀ j, j ∈ js → j ∈ own.map (·.2))
    (hg : ∀ (s : Shared) (H : Hp) (C : Addr) (cl : List (Str × Addr)) (fp : List Addr), PG (X.blk s H scope (compEnvC scope cl C X.env) fp) tg (tMG X.K js f)) (ht : ∀ (s : Shared) (H : Hp) (C : Addr) (cl : List (Str × Addr)) (fp : List Addr), PTs (X.blk s H scope (compEnvC scope cl C X.env) fp) ifs (tMT X.K W0 t))
    (he : ∀ (s : Shared) (H : Hp) (C : Addr) (cl : List (Str × Addr)) (fp : List Addr), PE (X.blk s H scope (compEnvC scope cl C X.env) fp) elt (tM X.K W0 e)) (hs : ∀ x, foldedSetIterable iter X.env x = pure x := by intro _; rfl) :
    PS X (.Assign [.Name y py] (.ListComp elt [⟨tg, iter, ifs, 0⟩] scope pos) spos) (tMS X.K W (sAsg (gN i) (mCompM (own.map (·.2)) it f t e))) :=
  (ps_setLc hc hN hy hyl hsw hi ok hg ht he hs).imp fun Dd σ H ⟨ι, env, st, er, r, h⟩ => ⟨ι, env, st, er, r, by
    have as3 : ∀ {α β γ : Type} (x : R α) (f : α → S → R β) (k : β → S → R γ), (x.bind f).bind k = x.bind fun d st => (f d st).bind k := fun x f k => by cases x <;> rfl
    unfold sAsg mCompM at h
    rw [as3] at h
    refine (seqS (ρ := fun ι' H' (J : It) ds => WalksD X.K ι' H' J ds) (σ := σ) h).mono fun J H1 ⟨ι1, ds, st1, s1, r1, w1, h1⟩ => ?_
    split at h1
    · rename_i st9 h9
      refine cLoop_reads (Q := fun L H => gName i (.ref L) σ H Dd.nx) hjs (er.stp s1) r1 w1 h9 fun ι2 H2 L hL s2 r2 => ?_
      exact h1 ι2 H2 _ s2 r2 (((er.stp s1).stp s2).set i (.loc hL))
    · exact h1.elim⟩
end
end MF
end
section
set_option Elab.async false
set_option linter.all false
set_option maxRecDepth 100000
set_option maxHeartbeats 4000000
/-! MXG: texts. -/
namespace MF
open PySem PySem.Spec PyProof.Rows L2
section
variable {X : Cx} {W : L2.WX} {o e : Expr} {apos cpos pos : Pos} {mo me : Env → S → R D}
def mS0 (g : Str → D) (mo : Env → S → R D) : Env → S → R D := fun env st => (mo env st).bind fun d st1 => match d with
  | .str a => .ok (g a) st1
  | _ => .stuck
def mS1 (g : Str → Str → Option D) (mo me : Env → S → R D) : Env → S → R D := fun env st => (mo env st).bind fun d st1 => match d with
  | .str a => (me env st1).bind fun d2 st2 => match d2 with
    | .str b => match g a b with
      | some r => .ok r st2
      | none => .stuck
    | _ => .stuck
  | _ => .stuck
theorem me_s0b {id : String} {name : Str} {f : Str → Bool} (slot : Slot "str" name id) (ty : typeOf (.builtin id) = pure (.type "method_descriptor")) (rule : MtR X id fun x xs H Q => ∃ a, x = .str a ∧ xs = [] ∧ True ∧ Q (.bl (f a)) H) (ho : PE X o (tM X.K W mo))
    (hbase : attributeBase o name X.env (eval o X.env) = eval o X.env := by rfl) (hline : (apos.endLine == cpos.line) = true := by rfl) : PE X (.Call (.Attribute o name apos) [] [] cpos) (tM X.K W (mS0 (fun a => .bl (f a)) mo)) :=
  (pe_m0 slot ty rule ho hbase hline).imp fun σ H Q ⟨ι, env, st, er, r, h⟩ => seqM er r h fun ι1 H1 v d st1 er1 s1 r1 e1 h1 => by
    split at h1
    · rename_i a
      obtain rfl := str_den e1
      exact ⟨⟨a, rfl⟩, a, rfl, rfl, trivial, h1.ok r1 (.bl _)⟩
    · exact h1.elim
theorem me_isdigit (ho : PE X o (tM X.K W mo)) (hbase : attributeBase o "isdigit" X.env (eval o X.env) = eval o X.env := by rfl) (hline : (apos.endLine == cpos.line) = true := by rfl) : PE X (.Call (.Attribute o "isdigit" apos) [] [] cpos) (tM X.K W (mS0 (fun a => .bl (Txt.isdigit a)) mo)) :=
  me_s0b PySem.F.slot_str_isdigit PySem.F.type_str_isdigit mt_isdigit ho hbase hline
theorem me_isascii (ho : PE X o (tM X.K W mo)) (hbase : attributeBase o "isascii" X.env (eval o X.env) = eval o X.env := by rfl) (hline : (apos.endLine == cpos.line) = true := by rfl) : PE X (.Call (.Attribute o "isascii" apos) [] [] cpos) (tM X.K W (mS0 (fun a => .bl (Txt.isascii a)) mo)) :=
  me_s0b PySem.F.slot_str_isascii PySem.F.type_str_isascii mt_isascii ho hbase hline
def gStarts (a b : Str) : Option D := some (.bl (Txt.startswith a b))
theorem me_starts (ho : PE X o (tM X.K W mo)) (he : PE X e (tM X.K W me)) (hs : starEach [e] X.env = [(false, eval e X.env)] := by rfl) (hbase : attributeBase o "startswith" X.env (eval o X.env) = eval o X.env := by rfl) (hline : (apos.endLine == cpos.line) = true := by rfl) :
    PE X (.Call (.Attribute o "startswith" apos) [e] [] cpos) (tM X.K W (mS1 gStarts mo me)) :=
  (pe_m1 PySem.F.slot_str_startswith PySem.F.type_str_startswith mt_startswith ho he hs hbase hline).imp fun σ H Q ⟨ι, env, st, er, r, h⟩ => seqM er r h fun ι1 H1 v d st1 er1 s1 r1 e1 h1 => by
    split at h1
    · rename_i a
      obtain rfl := str_den e1
      refine ⟨⟨a, rfl⟩, seqM er1 r1 h1 fun ι2 H2 y d2 st2 er2 s2 r2 e2 h2 => ?_⟩
      split at h2
      · rename_i b
        obtain rfl := str_den e2
        exact ⟨a, b, rfl, rfl, h2.ok r2 (.bl _)⟩
      · exact h2.elim
    · exact h1.elim
theorem strs_den {K : PySem.W.Frag} {ι : List Addr} {H : Hp} : ∀ (ys : List Str), DenL K ι H (ys.map V.str) (ys.map .str)
  | [] => .nil
  | y :: ys => .cons (.str y) (strs_den ys)
def gSplit (a b : Str) : Option D := if (b.length == 0) = false ∧ a.length + 2 ≤ sizeLine then some (.lst ((Txt.split a b).map .str)) else none
theorem me_split (ho : PE X o (tM X.K W mo)) (he : PE X e (tM X.K W me)) (hs : starEach [e] X.env = [(false, eval e X.env)] := by rfl) (hbase : attributeBase o "split" X.env (eval o X.env) = eval o X.env := by rfl) (hline : (apos.endLine == cpos.line) = true := by rfl) :
    PE X (.Call (.Attribute o "split" apos) [e] [] cpos) (tM X.K W (mS1 gSplit mo me)) :=
  (pe_split ho he hs hbase hline).imp fun σ H Q ⟨ι, env, st, er, r, h⟩ => seqM er r h fun ι1 H1 v d st1 er1 s1 r1 e1 h1 => by
    split at h1
    · rename_i a
      obtain rfl := str_den e1
      refine ⟨⟨a, rfl⟩, seqM er1 r1 h1 fun ι2 H2 y d2 st2 er2 s2 r2 e2 h2 => ?_⟩
      split at h2
      · rename_i b
        obtain rfl := str_den e2
        unfold gSplit at h2
        split at h2
        · rename_i r0 hr
          split at hr
          · rename_i hc
            cases hr
            exact ⟨a, b, rfl, rfl, hc.1, hc.2, post_lst r2 (strs_den _) h2⟩
          · cases hr
        · exact h2.elim
      · exact h2.elim
    · exact h1.elim
def gPart (a b : Str) : Option D := if (b.length == 0) = false ∧ a.length ≤ sizeLine then some (.tup [.str (Txt.partition a b).1, .str (Txt.partition a b).2.1, .str (Txt.partition a b).2.2]) else none
theorem me_part (ho : PE X o (tM X.K W mo)) (he : PE X e (tM X.K W me)) (hs : starEach [e] X.env = [(false, eval e X.env)] := by rfl) (hbase : attributeBase o "partition" X.env (eval o X.env) = eval o X.env := by rfl) (hline : (apos.endLine == cpos.line) = true := by rfl) :
    PE X (.Call (.Attribute o "partition" apos) [e] [] cpos) (tM X.K W (mS1 gPart mo me)) :=
  (pe_partition ho he hs hbase hline).imp fun σ H Q ⟨ι, env, st, er, r, h⟩ => seqM er r h fun ι1 H1 v d st1 er1 s1 r1 e1 h1 => by
    split at h1
    · rename_i a
      obtain rfl := str_den e1
      refine ⟨⟨a, rfl⟩, seqM er1 r1 h1 fun ι2 H2 y d2 st2 er2 s2 r2 e2 h2 => ?_⟩
      split at h2
      · rename_i b
        obtain rfl := str_den e2
        unfold gPart at h2
        split at h2
        · rename_i r0 hr
          split at hr
          · rename_i hc
            cases hr
            exact ⟨a, b, rfl, rfl, hc.1, hc.2, post_tup r2 (.cons (.str _) (.cons (.str _) (.cons (.str _) .nil))) h2⟩
          · cases hr
        · exact h2.elim
      · exact h2.elim
    · exact h1.elim
/-! ### int(text) -/
def gIntS (ds : List D) (st : S) : R D := match ds with
  | [.str a] => match PySem.intText? a with
    | some n => if a.length ≤ 640 then .ok (.int n) st else .stuck
    | none => .stuck
  | _ => .stuck
theorem cl_intS {K : PySem.W.Frag} : Cl K (fun xs H Q => ∃ a n, xs = [V.str a] ∧ PySem.intText? a = some n ∧ a.length ≤ 640 ∧ Q (.int n) H) gIntS := by
  intro W σ ι H st vs ds Q r e h
  unfold gIntS at h
  split at h
  · rename_i a
    obtain ⟨v, rfl, ev⟩ := denl1 e
    obtain rfl := str_den ev
    split at h
    · rename_i n hn
      obtain ⟨hc, h⟩ := h.ite
      exact ⟨a, n, rfl, hn, hc, h.ok r (.int _)⟩
    · exact h.elim
  · exact h.elim
/-! ### slices of texts -/
def gSlS (d : D) (lo hi : Option Int) (st : S) : R D := match d with
  | .str z => if z.length ≤ sizeLine then .ok (.str (cutS z lo hi)) st else .stuck
  | _ => .stuck
def mSlS (m : Env → S → R D) (l h : Env → S → R (Option Int)) : Env → S → R D := fun env st => (m env st).bind fun d st1 => (l env st1).bind fun lo st2 => (h env st2).bind fun hi st3 => gSlS d lo hi st3
theorem me_slS {lo hi : Option Expr} {p2 : Pos} {m : Env → S → R D} {l u : Env → S → R (Option Int)} (he : PE X e (tM X.K W m)) (hl : PO X lo (tMO X.K W l)) (hu : PO X hi (tMO X.K W u)) : PE X (.Subscript e (.Slice lo hi none p2) pos) (tM X.K W (mSlS m l u)) :=
  (pe_slice sl_str he hl hu).imp fun σ H Q ⟨ι, env, st, er, r, h⟩ => seqM er r h fun ι1 H1 v d st1 er1 s1 r1 e1 h1 => seqO er1 r1 h1 fun ι2 H2 lo st2 er2 s2 r2 h2 => seqO er2 r2 h2 fun ι3 H3 hi st3 er3 s3 r3 h3 => by
    unfold gSlS at h3
    split at h3
    · rename_i z
      obtain rfl := str_den ((e1.stp s2).stp s3)
      obtain ⟨hc, h3⟩ := h3.ite
      exact ⟨z, rfl, hc, h3.ok r3 (.str _)⟩
    · exact h3.elim
/-! ### text * int -/
def mulS (a : Str) (n : Int) : Str := if n < 1 then Str.empty else if (n == 1 || a.length == 0) = true then a else ⟨(List.replicate n.toNat a.cps).foldl (· ++ ·) #[]⟩
def rMulS : R2 := fun x y H Q => ∃ a k, x = .str a ∧ y = .int k ∧ 0 ≤ k ∧ k ≤ 1000 ∧ a.length ≤ 1000 ∧ Q (.str (mulS a k)) H
theorem rep_size (x : Array Nat) : ∀ (m : Nat) (acc : Array Nat), ((List.replicate m x).foldl (· ++ ·) acc).size = acc.size + m * x.size
  | 0, acc => by simp
  | m + 1, acc => by
    rw [List.replicate_succ, List.foldl_cons, rep_size x m, Array.size_append, Nat.succ_mul]
    omega
theorem op_mulS : OpR X (binaryOp .Mult) rMulS := by
  intro pins s σ H x y v u Q I rx ry h
  obtain ⟨a, k, rfl, rfl, h0, h1, hz, q⟩ := h
  obtain ⟨t, rfl⟩ := rx
  obtain ⟨t2, rfl⟩ := ry
  refine PySem.P.mul_str (by rw [decide_eq_false (by omega), decide_eq_false (by omega)]; rfl) (fun h2 _ h3 => ?_) (fun h2 _ => ?_) ?_
  · have hk : 1 ≤ k := by omega
    have : (2 ^ 63 - 1) / 1000 ≤ ((2 : Int) ^ 63 - 1) / k := by
      refine Int.le_ediv_of_mul_le (by omega) ?_
      have : (2 ^ 63 - 1) / 1000 * k ≤ ((2 : Int) ^ 63 - 1) / 1000 * 1000 := Int.mul_le_mul_of_nonneg_left h1 (by decide)
      refine Int.le_trans this (by decide)
    have e : ((2 : Int) ^ 63 - 1) / 1000 = 9223372036854775 := by decide
    omega
  · unfold PySem.Builtin.Str.tooLong
    have : a.length * k.toNat ≤ 1000 * 1000 := Nat.mul_le_mul hz (by omega)
    simp only [decide_eq_false_iff_not, sizeLine_eq]
    omega
  · unfold mulS at q
    split
    · rename_i h2
      rw [if_pos h2] at q
      exact ⟨by decide, .str _, H, I.tok _, ⟨_, rfl⟩, q⟩
    · rename_i h2
      rw [if_neg h2] at q
      split
      · rename_i h3
        rw [if_pos h3] at q
        exact ⟨.str a, H, I, ⟨_, rfl⟩, q⟩
      · rename_i h3
        rw [if_neg h3] at q
        refine ⟨?_, .str _, H, I.tok _, ⟨_, rfl⟩, q⟩
        show ((List.replicate k.toNat a.cps).foldl (· ++ ·) #[]).size ≤ sizeLine
        rw [rep_size]
        have h4 : k.toNat * a.cps.size ≤ 1000 * 1000 := Nat.mul_le_mul (by omega) hz
        rw [sizeLine_eq]
        simp only [Array.size_empty]
        omega
def gMulS (d e : D) (st : S) : R D := match d, e with
  | .str a, .int k => if 0 ≤ k ∧ k ≤ 1000 ∧ a.length ≤ 1000 then .ok (.str (mulS a k)) st else .stuck
  | _, _ => .stuck
theorem op2_mulS {K : PySem.W.Frag} : Op2 K rMulS gMulS := by
  intro W σ ι H st x y d e Q r hx hy h
  unfold gMulS at h
  split at h
  · rename_i a k
    obtain rfl := str_den hx
    obtain rfl := int_den hy
    obtain ⟨hc, h⟩ := h.ite
    exact ⟨a, k, rfl, rfl, hc.1, hc.2.1, hc.2.2, h.ok r (.str _)⟩
  · exact h.elim
/-! ### over a text -/
theorem walk_str {x : Str} : Walk (Its x) x.cps.size (fun _ => True) (fun i H v H' => H' = H ∧ ∃ c, x.cps[i]? = some c ∧ v = .str ⟨#[c]⟩) :=
  ⟨fun i _ hi _ => hi, fun _ _ => Nat.le_refl _, fun _ _ _ _ _ _ y => y⟩
def chars (x : Str) : List D := x.cps.toList.map fun c => .str ⟨#[c]⟩
theorem walks_str {K : PySem.W.Frag} {ι : List Addr} {H : Hp} (x : Str) : WalksD K ι H (Its x) (chars x) := by
  have hl : (chars x).length = x.cps.size := by unfold chars; rw [List.length_map, Array.length_toList]
  refine ⟨_, _, hl ▸ walk_str, fun _ _ _ => trivial, fun ι1 H1 i v H2 st s r hi y => ?_⟩
  obtain ⟨rfl, c, hc, rfl⟩ := y
  refine ⟨.refl, r, .str ⟨#[c]⟩, ?_, .str _⟩
  unfold chars
  rw [List.getElem?_map, Array.getElem?_toList, hc]
  rfl
def itStr (m : Env → S → R D) : Env → S → R (List D) := fun env st => (m env st).bind fun d st1 => match d with
  | .str x => .ok (chars x) st1
  | _ => .stuck
theorem mi_str {tg l : Expr} {m : Env → S → R D} (hl : PE X l (tM X.K W m)) : PI X tg l (tMI X.K W (itStr m)) :=
  MF.PI.imp (pi_str hl) fun σ H R ⟨ι, env, st, er, r, h⟩ => seqM er r h fun ι1 H1 v d st1 er1 s1 r1 e1 h1 => by
    split at h1
    · rename_i x
      obtain rfl := str_den e1
      exact ⟨x, rfl, h1.ok r1 (walks_str x)⟩
    · exact h1.elim
end
end MF
end
section
set_option Elab.async false
set_option linter.all false
set_option maxRecDepth 100000
set_option maxHeartbeats 4000000
/-! MXH: nested targets, x, y = a, b, reversed. -/
namespace MF
open PySem PySem.Spec PyProof.Rows L2 RT
section
variable {X : Cx} {W : L2.WX} {e a b : Expr} {es : List Expr} {pos : Pos}
def gCo (f : D → Env → Option Env) (fs : List D → Env → Option Env) : List D → Env → Option Env
  | d :: ds, env => match f d env with
    | some env1 => fs ds env1
    | none => none
  | [], _ => none
theorem mgs_co {js ks : List Nat} {f : D → Env → Option Env} {fs : List D → Env → Option Env} (h1 : PG X e (tMG X.K js f)) (hr : PGs X es (tMGs X.K ks fs)) (hs : (assignEach (e :: es) X.env).map (·.2) = assign e X.env :: (assignEach es X.env).map (·.2) := by rfl) :
    PGs X (e :: es) (tMGs X.K (js ++ ks) (gCo f fs)) := ⟨fun pins s σ H vs us Q I rv ⟨ι, env, ds, env', er, ed, h, q⟩ => by
  cases ed with
  | nil => cases h
  | @cons v vs d ds e1 e2 =>
    simp only [gCo] at h
    cases hf : f d env with
    | none => rw [hf] at h; cases h
    | some env1 =>
      rw [hf] at h
      exact (pgs_cons h1 hr hs).run pins s σ H _ us Q I rv ⟨_, _, rfl, ι, env, d, env1, er, e1, hf, fun σ1 er1 hl hj => ⟨ι, env1, ds, env', er1, e2, h, fun σ2 er2 hl2 hj2 => q σ2 er2 (hl2.trans hl) fun j nj => (hj2 j fun z => nj (List.mem_append_right _ z)).trans (hj j fun z => nj (List.mem_append_left _ z))⟩⟩⟩
def gTG (n : Nat) (fs : List D → Env → Option Env) (d : D) (env : Env) : Option Env := match d with
  | .tup ds => if ds.length = n then fs ds env else none
  | .lst ds => if ds.length = n then fs ds env else none
  | _ => none
theorem mg_tupG {js : List Nat} {fs : List D → Env → Option Env} {n k : Nat} (hc : X.calm = true) (h : PGs X es (tMGs X.K js fs)) (hn : (assignEach es X.env).length = n := by rfl) (hst : (assignEach es X.env).findIdx? (·.1) = none := by rfl) : PG X (.Tuple es k pos) (tMG X.K js (gTG n fs)) :=
  MF.PG.imp (MF.PG.or (pg_tup hc h hn hst) (pg_unl hc h hn hst)) fun v σ H Q ⟨ι, env, d, env', er, e, hd, q⟩ => by
    cases e with
    | tup hq hs =>
      simp only [gTG] at hd
      split at hd
      · rename_i hl
        exact .inl ⟨_, _, rfl, hq.sq, by rw [hs.length]; exact hl, ι, env, _, env', er, hs, hd, q⟩
      · cases hd
    | lst hn ha hs =>
      simp only [gTG] at hd
      split at hd
      · rename_i hl
        exact .inr ⟨_, _, rfl, .of ha, by rw [hs.length]; exact hl, ι, env, _, env', er, hs, hd, q⟩
      · cases hd
    | _ => cases hd
def sPar (i j : Nat) (ms : Env → S → R (List D)) : Env → S → R F := fun env st => (ms env st).bind fun ds st1 => match ds with
  | [d, e] => .ok (.nx ((env.set i (some d)).set j (some e))) st1
  | _ => .stuck
theorem ms_par {i j : Nat} {x y : Str} {px py pt : Pos} {kt k2 : Nat} {pt2 : Pos} {ms : Env → S → R (List D)} (hc : X.calm = true) (hN : X.N.Nodup) (hi : X.N[i]? = some x) (hj : X.N[j]? = some y) (hij : i ≠ j) (hx : X.env.scope.names.lookup x = some .local) (hy : X.env.scope.names.lookup y = some .local)
    (ha : PA X [a, b] (tMA X.K W ms)) (hw : swappedStores [.Tuple [.Name x px, .Name y py] kt pt] (.Tuple [a, b] k2 pt2) X.env = pure (some [x, y])) (hs : swapsWithSole [.Tuple [.Name x px, .Name y py] kt pt] (.Tuple [a, b] k2 pt2) pos.line X.env = pure false := by rfl) :
    PS X (.Assign [.Tuple [.Name x px, .Name y py] kt pt] (.Tuple [a, b] k2 pt2) pos) (tMS X.K W (sPar i j ms)) :=
  (ps_par hc hN hi hj hij hx hy ha hw hs).imp fun Dd σ H ⟨ι, env, st, er, r, h⟩ => ⟨ι, env, st, er, r, (seqS (ρ := DenL X.K) (σ := σ) h).mono fun vs H1 ⟨ι1, ds, st1, s1, r1, e1, h1⟩ => by
    split at h1
    · rename_i d e
      obtain ⟨v, w, rfl, ev, ew⟩ := denl2 e1
      exact ⟨v, w, rfl, h1 ι1 H1 _ .refl r1 (((er.stp s1).set i ev).set j ew)⟩
    · exact h1.elim⟩
/-! ### reversed -/
theorem walk_rv {K : PySem.W.Frag} {a : Addr} {xs : List V} : Walk (Itv K a xs.length) xs.length (fun H => SqL K H a xs) (fun i H v H' => H' = H ∧ xs.reverse[i]? = some v) := by
  refine ⟨fun i H hi q => ⟨hi, xs, xs[xs.length - 1 - i]'(by omega), q, List.getElem?_eq_getElem _⟩, fun H q => Nat.le_refl _, fun i H x H' hi q y => ⟨y.1, ?_⟩⟩
  rw [List.getElem?_reverse hi]
  exact y.2 xs q
theorem walk_rt {K : PySem.W.Frag} {a : Addr} {xs : List V} : Walk (ItvT K a xs.length) xs.length (fun H => SqT K H a xs) (fun i H v H' => H' = H ∧ xs.reverse[i]? = some v) := by
  refine ⟨fun i H hi q => ⟨hi, xs, xs[xs.length - 1 - i]'(by omega), q, List.getElem?_eq_getElem _⟩, fun H q => Nat.le_refl _, fun i H x H' hi q y => ⟨y.1, ?_⟩⟩
  rw [List.getElem?_reverse hi]
  exact y.2 xs q
theorem DenL.reverse {K : PySem.W.Frag} {ι : List Addr} {H : Hp} : ∀ {vs : List V} {ds : List D}, DenL K ι H vs ds → DenL K ι H vs.reverse ds.reverse
  | _, _, .nil => .nil
  | _, _, .cons e es => by
    rw [List.reverse_cons, List.reverse_cons]
    exact (DenL.reverse es).append (.cons e .nil)
theorem walks_of {K : PySem.W.Frag} {ι : List Addr} {H : Hp} {J : It} {G : Hp → Prop} {xs : List V} {ds : List D} (w : Walk J xs.length G (fun i H v H' => H' = H ∧ xs[i]? = some v)) (hG : ∀ ι' H', Stp ι H ι' H' → G H') (hs : DenL K ι H xs ds) : WalksD K ι H J ds := by
  have hl := hs.length
  refine ⟨G, _, hl ▸ w, hG, fun ι1 H1 i v H2 st s r hi y => ?_⟩
  obtain ⟨rfl, hv⟩ := y
  obtain ⟨d, hd, ed⟩ := hs.getV hv
  exact ⟨.refl, r, d, hd, ed.stp s⟩
def itRev (m : Env → S → R D) : Env → S → R (List D) := fun env st => (m env st).bind fun d st1 => match d with
  | .lst ds => .ok ds.reverse st1
  | .tup ds => .ok ds.reverse st1
  | _ => .stuck
theorem mi_rev {tg e : Expr} {p : Pos} {m : Env → S → R D} (hg : Gl X "reversed") (hm : X.mg "reversed" = none) (he : PE X e (tM X.K W m)) (hs : starEach [e] X.env = (false, eval e X.env) :: starEach [] X.env := by rfl) : PI X tg (.Call (.Name "reversed" p) [e] [] pos) (tMI X.K W (itRev m)) :=
  MF.PI.imp (pi_revA hg hm he hs) fun σ H R ⟨ι, env, st, er, r, h⟩ => seqM er r h fun ι1 H1 v d st1 er1 s1 r1 e1 h1 => by
    split at h1
    · rename_i ds
      cases e1 with
      | @lst a xs _ hn ha hs =>
        refine ⟨a, xs, rfl, .inl ⟨.inl (.inl ha), h1.ok r1 (walks_of (xs := xs.reverse) (G := fun H => SqL X.K H a xs) (by rw [List.length_reverse]; exact walk_rv) (fun ι' H' s => .inl (.inl (s.keep _ _ hn (by intro _ z; cases z) ha).2)) hs.reverse)⟩⟩
    · rename_i ds
      cases e1 with
      | @tup a xs _ hq hs =>
        refine ⟨a, xs, rfl, .inr ⟨hq.sq, h1.ok r1 (walks_of (xs := xs.reverse) (G := fun H => SqT X.K H a xs) (by rw [List.length_reverse]; exact walk_rt) (fun ι' H' s => (s.fzt hq).sq) hs.reverse)⟩⟩
    · exact h1.elim
end
end MF
end
section
set_option Elab.async false
set_option linter.all false
set_option maxRecDepth 100000
set_option maxHeartbeats 4000000
/-! MXI: both branches together; small words for the printed terms. -/
namespace MF
open PySem PySem.Spec PyProof.Rows L2
theorem _root_.L2.Room.u1 {k : Nat} {A : Around} (h : Room k A) : A.units + 1 < cLine := by have := h.un; omega
theorem _root_.L2.Room.u64 {k : Nat} {A : Around} (h : Room k A) : A.units + 64 < cLine := by have := h.un; omega
theorem _root_.L2.Room.u66 {k : Nat} {A : Around} (h : Room k A) : A.units + 66 < cLine := by have := h.un; omega
theorem takesN {X : Cx} : L2N.Takes X W0 := fun u s' ⟨_, _, _, _, _, _, _, _, _, _, _, _, _, _, _, _, z⟩ => z.elim
/-- a def of the program: where it stands, its name, how arguments come by position -/
structure Df (K : PySem.W.Frag) (mg : Str → Option Value) (x qual : Str) (st : Stmt) (f : Addr) (fd : FuncData) (ps : List Str) : Prop where
  fn : L2.Fun K x qual st f fd
  mg : mg x = some (.ref f)
  kp : PySem.W.keepIn K (.ref f) = true
  bi : Binds K fd ps []
/-- the rule of a def with defaults -/
theorem fnG_ofD {P : Program} {w : World} {K : PySem.W.Frag} {mg : Str → Option Value} {base : Heap} {k : Nat} {x qual : Str} {st0 : Stmt} {f : Addr} {fd : FuncData} {N ps : List Str} {m : Env → S → R F} {dvs : List V} {kws : List (Str × V)} (Fn : FunD K x qual (defArgs st0) (defBody st0) (defScope st0) dvs kws f fd) (Sc : FnScope N ps (defScope st0))
    (body : ∀ (cdv : Value) (A : Around) (outer : List PySem.Env) (s : Shared) (H : Hp) (E : XK), Room k (A.deeper (envOfC qual (defScope st0) s.heap.objs.size f cdv)) → (A.deeper (envOfC qual (defScope st0) s.heap.objs.size f cdv)).guards = some [] →
      PSs (cxOf (L2N.CX P w) P w K mg base N qual (defScope st0) f cdv A outer s H E) (defBody st0) (tMS K (fun c d _ H' => E c d H') m)) : FnG P w K mg base (k + 1) f fd ps (fnD N.length m) := by
  obtain ⟨oc, od, dV, kV, doc, pm, an, cdv, ct, osl, rfl, lk, hcd, _, _⟩ := Fn.ex
  constructor
  intro A outer s H args us vs Q E room hgd e0 hbind rv hsp
  have nv : vs.length = ps.length := hsp.1
  have inK : K.In s.heap := e0.mod.kin.keeps fun b o hbo => (e0.bs b o hbo).1
  have nolim : s.heap.NoLimit := e0.mod.nolimit.keeps fun b o hbo => (e0.bs b o hbo).1
  have cells : ∀ y ∈ ps.zip us, (defScope st0).names.lookup y.1 = some .local ∨ ((defScope st0).names.lookup y.1 = some .cell ∧ ((cellsFrom (s.heap.objs.size + 1) (defScope st0).names []).lookup y.1).isSome = true) := by
    rintro ⟨n, v⟩ hy
    have hp := Sc.par n (List.of_mem_zip hy).1
    exact hp.elim .inl fun q => .inr ⟨q, PySem.W.cellsFrom_some _ _ _ (.inl q)⟩
  apply codeAny_call_function room.depth (inK _ _ lk) rfl Sc.co Sc.gen rfl (PySem.W.codeRec_of inK hcd)
  apply hbind
  apply wpAny_newFunctionEnv_cells Sc.kind cells
  intro env henv s1 hx
  subst henv
  refine ⟨nolim.keeps hx.toInCall.keep, codeAny_func ?_⟩
  have hI := inv_start (CX := L2N.CX P w) (P := P) (w := w) (mg := mg) (E := E) Sc room.hd e0 nv rv hx
  have run := (body cdv A outer s H E (room.deeper _) hgd).run [] s1 _ H _ hI (body_reads hsp)
  refine wpAny_mono run ?_ fun e s' hs => hs
  intro fl s' hs
  have ends : ∀ {σ' : L2.St} {H' : Hp} {v : V} {u : Value}, Inv (cxOf (L2N.CX P w) P w K mg base N qual (defScope st0) f cdv A outer s H E) [] σ' H' s' → RelV v u → Q v H' → CE outer P w H s Q u s' :=
    fun {_ _ v _} J r q => ⟨v, _, J.os, J.bare, J.base, J.hok, r, q⟩
  cases fl with
  | next =>
    obtain ⟨_, _, J, q⟩ := hs
    exact ends (v := V.non) (u := Value.none) J rfl q
  | ret u =>
    obtain ⟨_, _, _, J, r, q⟩ := hs
    exact ends J r q
  | brk => exact hs.elim fun _ z => z.elim fun _ z => z.2.elim
  | cont => exact hs.elim fun _ z => z.elim fun _ z => z.2.elim
section
variable {X : Cx} {W : L2.WX} {k n np nk : Nat} {f C : Addr} {fd : FuncData} {ps ks : List Str} {gD : List D → List D → List D} {g : List D → S → R D} {x m : Str} {p pos apos : Pos} {e o : Expr} {es : List Expr} {kws : List Keyword}
theorem me_callN {ms : Env → S → R (List D)} (Fn : FnG X.prog X.w X.K X.mg X.base k f fd ps g) (hr : Room k X.A) (hgd : X.A.guards = some []) (tk : L2N.Takes X W) (hg : Gl X x) (hm : X.mg x = some (.ref f)) (hk : PySem.W.keepIn X.K (.ref f) = true) (hb : Binds X.K fd ps [])
    (ha : PA X (e :: es) (tMA X.K W ms)) (hnp : ps.length = np := by rfl) (hdb : (x == ("__debug__" : Str)) = false := by decide) (he : starEach (e :: es) X.env = (false, eval e X.env) :: starEach es X.env := by rfl) (hpl : (backTo pos (starEach es X.env)).any (·.1) = false := by rfl) :
    PE X (.Call (.Name x p) (e :: es) [] pos) (tM X.K W (mCall (kCall np g) ms)) := by
  subst hnp
  exact me_call Fn hr hgd tk hg hm hk hb ha hdb he hpl
theorem me_makeN {ms mk : Env → S → R (List D)} (M : Mk X.K C f) (Fn : FnG X.prog X.w X.K X.mg X.base k f fd ps g) (hr : Room (k + 1) X.A) (hgd : X.A.guards = some []) (tk : L2N.Takes X W) (hg : Gl X x) (hm : X.mg x = some (.ref C)) (hb : Kb X.K fd ps (n + 1) ks gD)
    (ha : PA X (e :: es) (tMA X.K W ms)) (hkw : PK X kws (tMA X.K W mk)) (hnp : ps.length = np := by rfl) (hnk : ks.length = nk := by rfl) (hall : (backToKw pos (keywordEach kws X.env)).all (·.1.isSome) = true := by rfl) (hks : (backToKw pos (keywordEach kws X.env)).filterMap (·.1) = ks := by rfl) (hdb : (x == ("__debug__" : Str)) = false := by decide)
    (he : starEach (e :: es) X.env = (false, eval e X.env) :: starEach es X.env := by rfl) (hpl : ((backTo pos (starEach (e :: es) X.env)).any (·.1) || (backToKw pos (keywordEach kws X.env)).any (·.1.isNone)) = false := by rfl) :
    PE X (.Call (.Name x p) (e :: es) kws pos) (tM X.K W (mMakeK C n nk np gD g ms mk)) := by
  subst hnp hnk
  exact me_makeK M Fn hr hgd tk hg hm hb ha hkw hall hks hdb he hpl
theorem me_methN {pl : Sem Bool} {mo : Env → S → R D} {ms : Env → S → R (List D)} (c : Cls X.K C) (hm : Meth X.K C m f) (Fn : FnG X.prog X.w X.K X.mg X.base k f fd ps g) (hr : Room k X.A) (hgd : X.A.guards = some []) (tk : L2N.Takes X W) (hb : Kb X.K fd ps (n + 1) [] gD)
    (ho : PE X o (tM X.K W mo)) (ha : PA X (e :: es) (tMA X.K W ms)) (hnp : ps.length = np := by rfl) (hst : starEach (e :: es) X.env = (false, eval e X.env) :: starEach es X.env := by rfl) (hpl : (backTo pos (starEach es X.env)).any (·.1) = false := by rfl)
    (ht : eval (.Call (.Attribute o m apos) (e :: es) [] pos) X.env = (do
      let self ← eval o X.env
      standAt apos.atName
      let (fn, fst) ← holding [self] (getMethod self m pl)
      callWith pos fn fst (backTo pos (starEach (e :: es) X.env)) (backToKw pos (keywordEach [] X.env))) := by rfl) :
    PE X (.Call (.Attribute o m apos) (e :: es) [] pos) (tM X.K W (mMethK C m n np gD g mo ms)) := by
  subst hnp
  exact me_methK c hm Fn hr hgd tk hb ho ha hst hpl ht
end
/-- not e, by truth -/
def mNotT (m : Env → S → R D) : Env → S → R D := fun env st => (m env st).bind fun d st1 => match gTru st1 d with
  | some k => .ok (.bl (!k)) st1
  | none => .stuck
theorem me_notT {X : Cx} {W : L2.WX} {e : Expr} {pos : Pos} {m : Env → S → R D} (he : PE X e (tM X.K W m)) : PE X (.UnaryOp .Not e pos) (tM X.K W (mNotT m)) :=
  (pe_notT he).imp fun σ H Q ⟨ι, env, st, er, r, h⟩ => seqM er r h fun ι1 H1 v d st1 er1 s1 r1 e1 h1 => by
    split at h1
    · rename_i k hk
      exact ⟨k, tru_den r1 e1 hk, h1.ok r1 (.bl _)⟩
    · exact h1.elim
/-- a block cut in two -/
theorem ms_cut {X : Cx} {W : L2.WX} {a : List Stmt} {m u : Env → S → R F} (n : Nat) (h1 : PSs X (a.take n) (tMS X.K W m)) (h2 : PSs X (a.drop n) (tMS X.K W u)) : PSs X a (tMS X.K W (sSeq m u)) := by
  have z := ms_app h1 h2
  rw [List.take_append_drop] at z
  exact z
end MF
end
section
set_option Elab.async false
set_option linter.all false
set_option maxRecDepth 100000
set_option maxHeartbeats 4000000
/-! MXJ: a lambda is made. -/
namespace MF
open PySem PySem.Spec PyProof.Rows L2
/-- a thing made since the def was entered is known from now on -/
theorem trackO {X : Cx} {pins : List (Addr × Obj)} {σ : L2.St} {H : Hp} {s : Shared} {a : Addr} {oe : Obj} {ob : HO} (I : Inv X pins σ H s) (ha : s.heap.get? a = some oe) (hd : ∀ v, oe.data ≠ .cell v) (na : H a = none) (nL : a ≠ X.env.locals) (n0 : X.s_0.heap.get? a = none)
    (hp : ∀ p ∈ X.pn ++ pins, p.1 ≠ a) (ok : ObjOk X.prog X.w (upd H a ob) s.heap a ob) : Inv X pins σ (upd H a ob) s := by
  have nt : ∀ {b : Addr} {o : HO}, H b = some o → b ≠ a := fun {b o} e => ne_of_none e na
  have nc : ∀ x c, X.env.cells.lookup x = some c → c ≠ a := by
    rintro x c e rfl
    obtain ⟨v, o, ho, hv⟩ := I.cell x c e
    rw [ha] at ho
    cases ho
    exact hd v hv
  refine ⟨I.ok, I.os, I.bare, ⟨I.base.keep, I.base.slot, ?_, I.base.there, ?_, ?_, ?_⟩, I.loc, I.cell, ?_, ?_, ?_, ?_, I.len⟩
  · intro b o e n hx
    have hb : b ≠ a := fun z => by
      rw [z, n0] at e
      cases e
    rw [upd_ne hb]
    exact I.base.free b o e n hx
  · intro b xs e
    have q := I.base.tups b xs e
    rw [upd_ne (nt q)]
    exact q
  · intro b o u e
    have q := I.base.frzs b o u e
    rw [upd_ne (nt q)]
    exact q
  · intro b ps e
    obtain ⟨m, q⟩ := I.base.tbls b ps e
    refine ⟨m, ?_⟩
    rw [upd_ne (nt q)]
    exact q
  · rw [upd_ne (Ne.symm nL)]
    exact I.free
  · intro x c e
    rw [upd_ne (nc x c e)]
    exact I.freeC x c e
  · intro p hq
    obtain ⟨e, n, q⟩ := I.pin p hq
    exact ⟨e, by rw [upd_ne (hp p hq)]; exact n, q⟩
  · intro b u e
    by_cases hb : b = a
    · subst hb
      rw [upd_same] at e
      cases e
      exact ok
    · rw [upd_ne hb] at e
      exact (I.hok b u e).stay (fun c v _ q => q) (fun c q => by rw [upd_ne (nt q)]; exact q) fun c xs q => by rw [upd_ne (nt q)]; exact q
section
variable {X : Cx} {pins : List (Addr × Obj)} {σ : L2.St} {H : Hp} {s : Shared} {c P : Addr} {q : Str} {params : Arguments} {body : Expr} {scope : Scope} {pos : Pos}
/-- the function object -/
abbrev lamObj (X : Cx) (q : Str) (params : Arguments) (body : Expr) (scope : Scope) (pm : Value) (c' : Addr) (ctv : Value) : Obj := PySem.W.kla_obj "<lambda>" q params body scope (cloFrom X.env.cells scope.names []) pm c' ctv
theorem lam_new {E Q : Value → Shared → Prop} (I : Inv X pins σ H s) (TB : LamX.TabB X.base X.mg c P) (hcode : X.env.code = .ref c) (hq : X.env.qual ++ "<lambda>" = q) (hT : LamX.TabS H P q) (hdef : defaultsOf params X.env = ([], [])) (hfree : ∀ y ∈ scope.names, y.2 = .free → ∃ c, X.env.cells.lookup y.1 = some c)
    (h : ∀ (f c' : Addr) (pm ctv : Value) (H1 : Hp) (s' : Shared), Inv X pins σ H1 s' → LamX.ExtN H H1 → (∀ b o, b ≠ P → H b = some o → H1 b = some o) → LamX.TabS H1 P q → s'.heap.get? f = some (lamObj X q params body scope pm c' ctv) → s.heap.objs.size ≤ f → H1 f = none → H1 c' = some (LamX.CodeO c' q) → Q (.ref f) s') :
    wpAny (model X.prog X.w) X.A (eval (.Lambda params body scope pos) X.env) Q E s := by
  subst hq
  obtain ⟨ps, hP, tri, among⟩ := id hT
  have hPh : s.heap.get? P = some { cls := .none, data := .fields ps } := I.hok P _ hP
  refine PySem.W.kla_eval hdef ?_
  cases hc : codeAmong pos ps.toList with
  | some cv =>
    obtain ⟨c', rfl, hco⟩ := among pos cv hc
    refine PySem.W.kla_makeFunctionHit (mg := X.mg) (c := c) (P := P) (ps := ps) (closure_ok hfree) I.ok.glob (I.mod.glob.keeps I.bk) hcode (TB.code.keeps I.bk) hPh tri hc (TB.bm.keeps I.bk) ?_
    intro ctv h' tk old grew
    refine h h'.objs.size c' _ ctv H _ (I.kept (t' := tk) fun b o e => Heap.get?_push_of_some _ (old b o e)) (.refl H) (fun _ _ _ e => e) hT (Heap.get?_push_size _ rfl) grew (I.hok.fresh grew) hco
  | none =>
    refine PySem.W.kla_makeFunction (mg := X.mg) (c := c) (P := P) (ps := ps) (closure_ok hfree) I.ok.glob (I.mod.glob.keeps I.bk) hcode (TB.code.keeps I.bk) hPh tri hc TB.gP (TB.bm.keeps I.bk) ?_
    intro c' ctv h' tk old hge hlt rec tab
    obtain ⟨c2, oc, vs, t, e2, hoc, hd, hv⟩ := rec
    cases e2
    have grew : s.heap.objs.size ≤ h'.objs.size := Nat.le_trans hge (Nat.le_of_lt hlt)
    have nC : H c' = none := I.hok.fresh hge
    have hPc : P ≠ c' := ne_of_none hP nC
    let H1 := upd (upd H P (.tbl (ps ++ #[rawInt pos.line, rawInt pos.col, .ref c']))) c' (LamX.CodeO c' (X.env.qual ++ "<lambda>"))
    have keepP : ∀ b o, b ≠ P → H b = some o → H1 b = some o := by
      intro b o hb e
      show upd _ c' _ b = _
      rw [upd_ne (ne_of_none e nC), upd_ne hb]
      exact e
    have ext : LamX.ExtN H H1 := fun b o e n => keepP b o (fun z => n ps (by rw [z, hP] at e; exact (Option.some.inj e).symm)) e
    have I1 := LamX.inv_table (t' := tk) (more := #[rawInt pos.line, rawInt pos.col, .ref c']) (h' := h'.push (lamObj X (X.env.qual ++ "<lambda>") params body scope ((X.mg "__name__").getD .none) c' ctv)) I hP
      (fun b o hb e => Heap.get?_push_of_some _ (old b o hb e)) (Heap.get?_push_of_some _ tab) hge ⟨oc, vs, t, Heap.get?_push_of_some _ hoc, hd, hv⟩
    have eL : (ps ++ #[rawInt pos.line, rawInt pos.col, .ref c']).toList = ps.toList ++ [rawInt pos.line, rawInt pos.col, .ref c'] := by simp
    refine h h'.objs.size c' _ ctv H1 _ I1 ext keepP ⟨ps ++ #[rawInt pos.line, rawInt pos.col, .ref c'], ?_, ?_, ?_⟩ (Heap.get?_push_size _ rfl) grew ?_ upd_same
    · show upd _ c' _ P = _
      rw [upd_ne hPc, upd_same]
    · rw [eL]
      exact PySem.TriplesOk_snoc _ _ _ _ tri
    · intro p' cv hcv
      rw [eL] at hcv
      rcases LamX.among_app _ tri hcv with z | z
      · obtain ⟨c0, e1, e3⟩ := among p' cv z
        exact ⟨c0, e1, ext _ _ e3 LamX.codeO_ne⟩
      · exact ⟨c', z, upd_same⟩
    · show upd _ c' _ _ = _
      have n2 : h'.objs.size ≠ P := Nat.ne_of_gt (Nat.lt_of_lt_of_le (Heap.lt_size hPh) grew)
      rw [upd_ne (Nat.ne_of_gt hlt), upd_ne n2]
      exact I.hok.fresh grew
/-- lambda ..: its object is known -/
def tLamF (X : Cx) (P : Addr) (q : Str) (params : Arguments) (body : Expr) (scope : Scope) : TE := fun σ H Q => LamX.TabS H P q ∧ ∀ f c' pm ctv H1, (∀ b o, b ≠ P → H b = some o → H1 b = some o) → LamX.TabS H1 P q → H1 f = none → H1 c' = some (LamX.CodeO c' q) → Q (.ref f) (upd H1 f (atO f (lamObj X q params body scope pm c' ctv)))
theorem pe_lamF (hx : X.ex = []) (TB : LamX.TabB X.base X.mg c P) (hcode : X.env.code = .ref c) (hq : X.env.qual ++ "<lambda>" = q) (hdef : defaultsOf params X.env = ([], [])) (hfree : ∀ {pins : List (Addr × Obj)} {σ : L2.St} {H : Hp} {s : Shared}, Inv X pins σ H s → ∀ y ∈ scope.names, y.2 = .free → ∃ c, X.env.cells.lookup y.1 = some c) :
    PE X (.Lambda params body scope pos) (tLamF X P q params body scope) := by
  constructor
  intro pins s σ H Q I h
  refine lam_new I TB hcode hq h.1 hdef (hfree I) ?_
  intro f c' pm ctv H1 s' I1 ext keepP tab hf grew nf hco
  have old : ∀ {b : Addr} {o : Obj}, s.heap.get? b = some o → b ≠ f := fun {b o} e z => by
    rw [z] at e
    exact Nat.lt_irrefl _ (Nat.lt_of_lt_of_le (Heap.lt_size e) grew)
  refine ⟨.ref f, upd H1 f (atO f (lamObj X q params body scope pm c' ctv)), trackO I1 hf (fun v z => by cases z) nf ?_ ?_ ?_ ⟨hf, ⟨_, hf⟩, fun h1 h2 p k => k _ p⟩, rfl, h.2 f c' pm ctv H1 keepP tab nf hco⟩
  · intro z
    obtain ⟨m, hn, _⟩ := I.loc
    obtain ⟨ob, es, ep, ho, _⟩ := hn
    exact old ho z.symm
  · cases hg : X.s_0.heap.get? f with
    | none => rfl
    | some o =>
      obtain ⟨o', ho'⟩ := I.base.there f o hg (by rw [hx]; simp)
      exact absurd rfl (old ho')
  · intro p hpp
    obtain ⟨e, _⟩ := I.pin p hpp
    exact old e
end
end MF
end
section
set_option Elab.async false
set_option linter.all false
set_option maxRecDepth 100000
set_option maxHeartbeats 4000000
/-! MXK: a def that hands back a lambda of its own. -/
namespace MF
open PySem PySem.Spec PyProof.Rows L2
theorem cellsFrom_ge {m : Nat} {x : Str} {c : Addr} : ∀ (names : List (Str × NameKind)) (n : Nat) (acc : List (Str × Addr)), m ≤ n → (∀ p ∈ acc, m ≤ p.2) → (cellsFrom n names acc).lookup x = some c → m ≤ c
  | [], n, acc, _, h, e => h _ (PySem.mem_of_lookup e)
  | (y, k) :: r, n, acc, hn, h, e => by
    unfold cellsFrom at e
    split at e
    · refine cellsFrom_ge r (n + 1) _ (Nat.le_succ_of_le hn) (fun p hp => ?_) e
      rcases List.mem_cons.mp hp with z | z
      · rw [z]; exact hn
      · exact h p z
    · exact cellsFrom_ge r n acc hn h e
def hasTab (p : Addr) (q : Str) (st : S) : Bool := st.any fun o => match o with
  | .tab p' q' => p' == p && decide (q' = q)
  | _ => false
theorem hasTab_at {K : PySem.W.Frag} {ι : List Addr} {H : Hp} {st : S} {p : Addr} {q : Str} (r : Rel K ι H st) (h : hasTab p q st = true) : ∃ j : Nat, ι[j]? = some p ∧ st[j]? = some (Ob.tab p q) := by
  obtain ⟨o, ho, e⟩ := List.any_eq_true.mp h
  cases o with
  | tab p' q' =>
    simp only [Bool.and_eq_true, beq_iff_eq, decide_eq_true_eq] at e
    obtain ⟨rfl, rfl⟩ := e
    obtain ⟨j, hj⟩ := List.getElem?_of_mem ho
    have hl : j < ι.length := by rw [r.len]; exact (List.getElem?_eq_some_iff.mp hj).1
    have ha := List.getElem?_eq_getElem hl
    have q := r.obs j _ _ ha hj
    obtain ⟨e1, _⟩ := q
    rw [e1] at ha
    exact ⟨j, ha, hj⟩
  | _ => cases e
/-- what is known by its one object is none that may change -/
theorem Rel.ext_out {K : PySem.W.Frag} {ι : List Addr} {H : Hp} {st : S} (r : Rel K ι H st) {a : Addr} {φ : Heap → Prop} (h : H a = some (.ext φ)) : a ∉ ι := fun hm => by
  obtain ⟨n, ob, _, _, q⟩ := r.at hm
  cases ob with
  | lst _ => obtain ⟨_, e, _⟩ := q; rw [h] at e; cases e
  | dct _ => obtain ⟨_, e, _⟩ := q; rw [h] at e; cases e
  | dik _ => obtain ⟨_, e, _⟩ := q; rw [h] at e; cases e
  | ins _ _ => obtain ⟨_, _, e, _⟩ := q; rw [h] at e; cases e
  | tab _ _ => obtain ⟨_, _, e, _⟩ := q; rw [h] at e; cases e
/-- the store behind the making of a lambda -/
theorem Rel.table {K : PySem.W.Frag} {ι : List Addr} {H H1 : Hp} {st : S} {p : Addr} {q : Str} (r : Rel K ι H st) (ht : hasTab p q st = true) (keep : ∀ b o, b ≠ p → H b = some o → H1 b = some o) (T : LamX.TabS H1 p q) : Stp ι H ι H1 ∧ Rel K ι H1 st := by
  obtain ⟨j, hj, hs⟩ := hasTab_at r ht
  obtain ⟨_, ps0, hP, _, _⟩ := r.obs j _ _ hj hs
  have s : Stp ι H ι H1 := ⟨List.prefix_refl _, fun a o n t e => ⟨n, keep a o (fun z => n (z ▸ List.mem_of_getElem? hj)) e⟩⟩
  refine ⟨s, r.len, r.nd, fun m a ob h1 h2 => ?_⟩
  by_cases ha : a = p
  · subst ha
    have hm : m = j := (List.getElem?_inj (List.getElem?_eq_some_iff.mp h1).1 r.nd).mp (h1.trans hj.symm)
    subst hm
    rw [hs] at h2
    cases h2
    obtain ⟨ps, e1, e2, e3⟩ := T
    refine ⟨rfl, ps, e1, e2, fun pos cv hc => ?_⟩
    obtain ⟨c, c1, c2⟩ := e3 pos cv hc
    refine ⟨c, c1, fun hm => ?_, c2⟩
    obtain ⟨n', ob, _, _, q'⟩ := r.at hm
    by_cases hcp : c = a
    · rw [hcp, e1] at c2
      cases c2
    · obtain ⟨u, hu⟩ := q'.some
      have := keep c u hcp hu
      rw [c2] at this
      cases this
      exact r.ext_out hu hm
  · have q' := r.obs m a ob h1 h2
    obtain ⟨u, hu⟩ := q'.some
    exact q'.stp s ((keep a u ha hu).trans hu.symm)
/-- a def whose code object is known -/
structure FunL (K : PySem.W.Frag) (x qual : Str) (st : Stmt) (f : Addr) (fd : FuncData) (c : Addr) : Prop where
  ex : ∃ (oc : Value) (od : Option Addr) (kV doc pm : Value) (an : Option Addr) (ct : Value) (osl : Array (Option Value)),
    fd = PySem.W.fnOf x qual (defArgs st) (defBody st) (defScope st) .none kV doc pm an (.ref c) ct ∧ K.lookup f = some ⟨oc, od, .func fd, osl⟩ ∧ PySem.W.codeIn K (.ref c) qual = true
def gLam (nl i n : Nat) (y : Str) (p : Addr) (t : Env → S → R Bool) (ds : List D) (st : S) : R D := match t (ds.map some ++ List.replicate (nl - ds.length) none) st with
  | .ok true st1 => match ds[i]? with
    | some d => if hasTab p (LT n).qual st1 = true then .ok (.clo n y d) st1 else .stuck
    | none => .stuck
  | _ => .stuck
theorem fnG_lam {P : Program} {w : World} {K : PySem.W.Frag} {mg : Str → Option Value} {base : Heap} {k n i : Nat} {x qual y : Str} {st0 : Stmt} {f c0 p0 : Addr} {fd : FuncData} {N ps : List Str} {t : Env → S → R Bool} {test : Expr} {params : Arguments} {body : Expr} {scope : Scope} {lpos rp ip : Pos} {orelse rest : List Stmt}
    (Fn : FunL K x qual st0 f fd c0) (TB : LamX.TabB base mg c0 p0) (Sc : FnScope N ps (defScope st0)) (hb : defBody st0 = .If test [.Return (some (.Lambda params body scope lpos)) rp] orelse ip :: rest) (hL : LT n = ⟨qual ++ ".<locals>." ++ "<lambda>", params, body, scope⟩) (hN : N[i]? = some y) (hy : (defScope st0).names.lookup y = some .cell)
    (hcl : ∀ cells : List (Str × Addr), cloFrom cells scope.names [] = [(y, (cells.lookup y).getD 0)]) (hfree : ∀ z ∈ scope.names, z.2 = .free → z.1 = y) (hdef : ∀ env, defaultsOf params env = ([], []))
    (ht : ∀ (A : Around) (outer : List PySem.Env) (s : Shared) (H : Hp) (E : XK), Room k (A.deeper (envOfC qual (defScope st0) s.heap.objs.size f (.ref c0))) → (A.deeper (envOfC qual (defScope st0) s.heap.objs.size f (.ref c0))).guards = some [] →
      PT (cxOf (L2N.CX P w) P w K mg base N qual (defScope st0) f (.ref c0) A outer s H E) test (tMT K (fun c d _ H' => E c d H') t)) : FnG P w K mg base (k + 1) f fd ps (gLam N.length i n y p0 t) := by
  obtain ⟨oc, od, kV, doc, pm0, an, ct, osl, rfl, lk, hcd⟩ := Fn.ex
  constructor
  intro A outer s H args us vs Q E room hgd e0 hbind rv hsp
  have nv : vs.length = ps.length := hsp.1
  have inK : K.In s.heap := e0.mod.kin.keeps fun b o hbo => (e0.bs b o hbo).1
  have nolim : s.heap.NoLimit := e0.mod.nolimit.keeps fun b o hbo => (e0.bs b o hbo).1
  have cells : ∀ y ∈ ps.zip us, (defScope st0).names.lookup y.1 = some .local ∨ ((defScope st0).names.lookup y.1 = some .cell ∧ ((cellsFrom (s.heap.objs.size + 1) (defScope st0).names []).lookup y.1).isSome = true) := by
    rintro ⟨n, v⟩ hy
    have hp := Sc.par n (List.of_mem_zip hy).1
    exact hp.elim .inl fun q => .inr ⟨q, PySem.W.cellsFrom_some _ _ _ (.inl q)⟩
  apply codeAny_call_function room.depth (inK _ _ lk) rfl Sc.co Sc.gen rfl (PySem.W.codeRec_of inK hcd)
  apply hbind
  apply wpAny_newFunctionEnv_cells Sc.kind cells
  intro env henv s1 hx
  subst henv
  refine ⟨nolim.keeps hx.toInCall.keep, codeAny_func ?_⟩
  have hI := inv_start (CX := L2N.CX P w) (P := P) (w := w) (mg := mg) (E := E) Sc room.hd e0 nv rv hx
  obtain ⟨_, ι, ds, st, ed, r, post⟩ := hsp
  have hl := ed.length
  unfold gLam at post
  cases hte : t (ds.map some ++ List.replicate (N.length - ds.length) none) st with
  | stuck => rw [hte] at post; exact post.elim
  | ex c f p st2 => rw [hte] at post; exact post.elim
  | ok b st1 =>
  rw [hte] at post
  cases b with
  | false => exact post.elim
  | true =>
  dsimp only at post
  cases hd : ds[i]? with
  | none => rw [hd] at post; exact post.elim
  | some d =>
  rw [hd] at post
  dsimp only at post
  obtain ⟨hT, post⟩ := post.ite
  have run : wpAny (model P w) (A.deeper (envOfC qual (defScope st0) s.heap.objs.size f (.ref c0))) (execs (defBody st0) (envOfC qual (defScope st0) s.heap.objs.size f (.ref c0))) (fun fl s' => ∃ u, fl = .ret u ∧ CE outer P w H s Q u s')
      (cxOf (L2N.CX P w) P w K mg base N qual (defScope st0) f (.ref c0) A outer s H E).xe s1 := by
    rw [hb]
    refine wpAny_execs_cons (wpAny_If (thn ((ht A outer s H E (room.deeper _) hgd).run [] s1 (L2.start N vs) H (fun b H1 => b = true ∧ ∃ ι1, Stp ι H ι1 H1 ∧ Rel K ι1 H1 st1) hI ⟨ι, _, st, EnvR.start ed, r, ?_⟩) ?_))
    · rw [hte]
      exact fun ι1 H1 b s1 r1 eb => ⟨eb, ι1, s1, r1⟩
    · rintro b s2 ⟨H1, I1, rfl, ι1, t1, r1⟩
      rw [if_pos rfl]
      obtain ⟨j, hj, hsj⟩ := hasTab_at r1 hT
      obtain ⟨_, ps1, g1, g2, g3⟩ := r1.obs j _ _ hj hsj
      have tab1 : LamX.TabS H1 p0 (LT n).qual := ⟨ps1, g1, g2, fun pos cv hc => let ⟨c, a1, _, a3⟩ := g3 pos cv hc; ⟨c, a1, a3⟩⟩
      have lam := pe_lamF (X := cxOf (L2N.CX P w) P w K mg base N qual (defScope st0) f (.ref c0) A outer s H E) (c := c0) (P := p0) (q := (LT n).qual) (params := params) (body := body) (scope := scope) (pos := lpos) rfl TB rfl (by rw [hL]; rfl) (hdef _) (fun {pins σ H' s'} I' z hz hf => by
        have e := hfree z hz hf
        rw [e]
        exact I'.ok.has _ (.inl hy))
      refine wpAny_execs_cons (wpAny_Return_some (thn (lam.run [] s2 (L2.start N vs) H1 (fun v H2 => ∃ f' c' pm ctv H3, v = .ref f' ∧ H2 = upd H3 f' (atO f' (lamObj (cxOf (L2N.CX P w) P w K mg base N qual (defScope st0) f (.ref c0) A outer s H E) (LT n).qual params body scope pm c' ctv)) ∧ (∀ b o, b ≠ p0 → H1 b = some o → H3 b = some o) ∧ LamX.TabS H3 p0 (LT n).qual ∧ H3 f' = none ∧ H3 c' = some (LamX.CodeO c' (LT n).qual)) I1
        ⟨tab1, fun f' c' pm ctv H3 kp T nf hco => ⟨f', c', pm, ctv, H3, rfl, rfl, kp, T, nf, hco⟩⟩) ?_))
      rintro u s3 ⟨v, H2, J, rv2, f', c', pm, ctv, H3, rfl, rfl, kp, T, nf, hco⟩
      refine ⟨u, rfl, ?_⟩
      obtain ⟨vc, hvc, edc⟩ := ed.get hd
      have slot : (L2.start N vs)[i]? = some (some vc) := by
        unfold L2.start
        rw [List.getElem?_append_left (by rw [List.length_map]; exact (List.getElem?_eq_some_iff.mp hvc).1), List.getElem?_map, hvc]
        rfl
      obtain ⟨m, hns, look⟩ := J.loc
      obtain ⟨uc, ruc, lk'⟩ := look i y vc hN slot (.inr (.inl hy))
      rcases lk' with ⟨z, _⟩ | ⟨_, c, hc, cellc⟩
      · have z' : (defScope st0).names.lookup y = some .local := z
        rw [hy] at z'
        cases z'
      have hcell : cloFrom (cellsFrom (s.heap.objs.size + 1) (defScope st0).names []) scope.names [] = [(y, c)] := by
        rw [hcl, show (cellsFrom (s.heap.objs.size + 1) (defScope st0).names []).lookup y = some c from hc]
        rfl
      have hge : s.heap.objs.size + 1 ≤ c := cellsFrom_ge _ _ [] (Nat.le_refl _) (fun p hp => by cases hp) hc
      have cn := J.freeC y c hc
      obtain ⟨sT, rT⟩ := r1.table hT kp T
      have s1' := sT.trans (new_stp (o := atO f' (lamObj (cxOf (L2N.CX P w) P w K mg base N qual (defScope st0) f (.ref c0) A outer s H E) (LT n).qual params body scope pm c' ctv)) nf)
      have r2 := rT.new (o := atO f' (lamObj (cxOf (L2N.CX P w) P w K mg base N qual (defScope st0) f (.ref c0) A outer s H E) (LT n).qual params body scope pm c' ctv)) nf
      have s3' := (t1.trans s1').trans (new_stp (o := cellO c vc) cn)
      have r3 := r2.new (o := cellO c vc) cn
      have nfc : f' ≠ c := fun z => by
        rw [← z, upd_same] at cn
        cases cn
      have nc'f : c' ≠ f' := fun z => by
        rw [z, nf] at hco
        cases hco
      have nc'c : c' ≠ c := fun z => by
        rw [← z, upd_ne nc'f, hco] at cn
        cases cn
      have den : Den K ι1 (upd (upd H3 f' (atO f' (lamObj (cxOf (L2N.CX P w) P w K mg base N qual (defScope st0) f (.ref c0) A outer s H E) (LT n).qual params body scope pm c' ctv))) c (cellO c vc)) (.ref f') (.clo n y d) := by
        refine .clo (c := c) (c' := c') (pm := pm) (ctv := ctv) (v := vc) (rT.fresh nf) ?_ (rT.ext_out hco) ?_ (r2.fresh cn) upd_same (edc.stp s3')
        · rw [upd_ne nfc, upd_same]
          unfold lamObj
          rw [show (cxOf (L2N.CX P w) P w K mg base N qual (defScope st0) f (.ref c0) A outer s H E).env.cells = cellsFrom (s.heap.objs.size + 1) (defScope st0).names [] from rfl, hcell, hL]
        · rw [upd_ne nc'c, upd_ne nc'f]
          exact hco
      refine ⟨.ref f', _, J.os, J.bare, ⟨J.base.keep, J.base.slot, ?_, J.base.there, ?_, ?_, ?_⟩, ?_, rv2, post ι1 _ _ s3' r3 den⟩
      · intro b o e n0 hx0
        rw [upd_ne (fun z => by rw [z] at e; exact absurd (Heap.lt_size e) (Nat.not_lt.mpr (Nat.le_of_succ_le hge)))]
        exact J.base.free b o e n0 hx0
      · intro b xs e
        have z := J.base.tups b xs e
        rw [upd_ne (ne_of_none z cn)]
        exact z
      · intro b o u0 e
        have z := J.base.frzs b o u0 e
        rw [upd_ne (ne_of_none z cn)]
        exact z
      · intro b qs e
        obtain ⟨mo, z⟩ := J.base.tbls b qs e
        refine ⟨mo, ?_⟩
        rw [upd_ne (ne_of_none z cn)]
        exact z
      · intro b u0 e
        by_cases hbc : b = c
        · subst hbc
          rw [upd_same] at e
          cases e
          obtain ⟨oc2, ho2, hd2⟩ := cellc
          exact ⟨⟨oc2, uc, ho2, hd2, ruc⟩, ⟨oc2, ho2⟩, fun h1 h2 ⟨o9, u9, a1, a2, a3⟩ kk => ⟨o9, u9, kk _ a1, a2, a3⟩⟩
        · rw [upd_ne hbc] at e
          exact (J.hok b u0 e).stay (fun c v _ q => q) (fun c9 q9 => by rw [upd_ne (ne_of_none q9 cn)]; exact q9) fun c9 xs q9 => by rw [upd_ne (ne_of_none q9 cn)]; exact q9
  refine wpAny_mono run ?_ fun e s' hs => hs
  rintro fl s' ⟨u, rfl, ce⟩
  exact ce
end MF
end
section
set_option Elab.async false
set_option linter.all false
set_option maxRecDepth 100000
set_option maxHeartbeats 4000000
/-! MXL: data without closures stand while a cell is hidden. -/
namespace MF
open PySem PySem.Spec PyProof.Rows L2
mutual
def D.noclo : D → Bool
  | .clo _ _ _ => false
  | .lst xs => nocloL xs
  | .tup xs => nocloL xs
  | .scr xs => nocloL xs
  | .ctp xs => nocloL xs
  | .ins _ fs => nocloF fs
  | .dct fs => nocloK fs
  | .dik fs => nocloI fs
  | .exc _ _ d => d.noclo
  | _ => true
def nocloL : List D → Bool
  | [] => true
  | d :: ds => d.noclo && nocloL ds
def nocloF : List (Str × D) → Bool
  | [] => true
  | (_, d) :: ds => d.noclo && nocloF ds
def nocloK : List (List Key × D) → Bool
  | [] => true
  | (_, d) :: ds => d.noclo && nocloK ds
def nocloI : List (Key × D) → Bool
  | [] => true
  | (_, d) :: ds => d.noclo && nocloI ds
end
def Ob.noclo : Ob → Bool
  | .lst ds => nocloL ds
  | .dct ds => nocloK ds
  | .dik ds => nocloI ds
  | .ins _ ds => nocloF ds
  | .tab _ _ => true
theorem ext_apart {L : Addr} {φ ψ : Heap → Prop} {o : Obj} (hf : o.isFreed = false) (hφ : ∀ h : Heap, h.get? L = some o → φ h) (hψ : ∀ h : Heap, h.get? L = some o → ¬ ψ h) (e : HO.ext φ = HO.ext ψ) : False := by
  injection e with e
  let h : Heap := { objs := Array.replicate (L + 1) o }
  have hg : h.get? L = some o := by
    show (match (Array.replicate (L + 1) o)[L]? with
      | some ⟨_, _, .freed, _⟩ => none
      | o => o) = some o
    rw [Array.getElem?_replicate, if_pos (Nat.lt_succ_self L)]
    obtain ⟨c, d, dt, sl⟩ := o
    cases dt <;> first | rfl | (cases hf)
  refine hψ h hg ?_
  rw [← congrFun e h]
  exact hφ h hg
theorem exw_cell {L C d : Addr} {v : V} (e : exw L C d = cellO L v) : False :=
  ext_apart (o := { cls := .ref C, dict := some d, data := .fields #[.none, .none, .none] }) rfl (fun h hg => ⟨_, _, hg, rfl, rfl, rfl, rfl⟩) (fun h hg ⟨o, u, ho, hd, _⟩ => by
    rw [hg] at ho
    cases ho
    cases hd) e
theorem code_cell {L : Addr} {q : Str} {v : V} (e : LamX.CodeO L q = cellO L v) : False :=
  ext_apart (o := { cls := .none, data := .fields #[.none, .str q 0] }) rfl (fun h hg => ⟨_, _, 0, hg, rfl, rfl⟩) (fun h hg ⟨o, u, ho, hd, _⟩ => by
    rw [hg] at ho
    cases ho
    cases hd) e
section
variable {K : PySem.W.Frag} {ι : List Addr} {H : Hp} {L : Addr} {w : V}
theorem hc_ne (hs : H L = some (cellO L w)) {a : Addr} {o : HO} (h : H a = some o) (hn : a = L → o = cellO L w → False) : a ≠ L := by
  intro e
  rw [e, hs] at h
  exact hn e (Option.some.inj h).symm
theorem hc_rd (hs : H L = some (cellO L w)) {a : Addr} {xs : List V} (h : Rd H a (.lst xs)) : Rd (msk H L) a (.lst xs) := by
  rcases h with h | ⟨o, h⟩
  · exact .inl ((msk_ne (hc_ne hs h fun _ e => by cases e)).trans h)
  · exact .inr ⟨o, (msk_ne (hc_ne hs h fun _ e => by cases e)).trans h⟩
mutual
theorem Den.mskC (hs : H L = some (cellO L w)) : ∀ {v : V} {d : D}, Den K ι H v d → d.noclo = true → Den K ι (MF.msk H L) v d
  | _, _, .non, _ => .non
  | _, _, .bl b, _ => .bl b
  | _, _, .int i, _ => .int i
  | _, _, .str x, _ => .str x
  | _, _, .lst hn h he, b => .lst hn ((msk_ne (hc_ne hs h fun _ e => by cases e)).trans h) (DenL.mskC hs he (by simpa only [D.noclo] using b))
  | _, _, .scr h he, b => .scr (by
      rcases h with ⟨n, h⟩ | h
      · exact .inl ⟨n, hc_rd hs h⟩
      · exact .inr h) (DenL.mskC hs he (by simpa only [D.noclo] using b))
  | _, _, .tup h he, b => .tup ⟨h.1, (msk_ne (hc_ne hs h.2 fun _ e => by cases e)).trans h.2⟩ (DenL.mskC hs he (by simpa only [D.noclo] using b))
  | _, _, .ctp h he, b => .ctp h (DenL.mskC hs he (by simpa only [D.noclo] using b))
  | _, _, .loc h, _ => .loc h
  | _, _, .ins hn h he, b => .ins hn ((msk_ne (hc_ne hs h fun _ e => by cases e)).trans h) (DenF.mskC hs he (by simpa only [D.noclo] using b))
  | _, _, .dct hn h he, b => .dct hn ((msk_ne (hc_ne hs h fun _ e => by cases e)).trans h) (DenK.mskC hs he (by simpa only [D.noclo] using b))
  | _, _, .dik hn h he, b => .dik hn ((msk_ne (hc_ne hs h fun _ e => by cases e)).trans h) (DenI.mskC hs he (by simpa only [D.noclo] using b))
  | _, _, .exc hn h hx h2 hd, b => .exc hn ((msk_ne (hc_ne hs h fun z e => by subst z; exact exw_cell e)).trans h) hx ((msk_ne (hc_ne hs h2 fun _ e => by cases e)).trans h2) (Den.mskC hs hd (by simpa only [D.noclo] using b))
  | _, _, .clo .., b => by simp only [D.noclo] at b; cases b
  | _, _, .adr a, _ => .adr a
theorem DenL.mskC (hs : H L = some (cellO L w)) : ∀ {v : List V} {d : List D}, DenL K ι H v d → nocloL d = true → DenL K ι (MF.msk H L) v d
  | _, _, .nil, _ => .nil
  | _, _, .cons h he, b => by
    simp only [nocloL, Bool.and_eq_true] at b
    exact .cons (Den.mskC hs h b.1) (DenL.mskC hs he b.2)
theorem DenF.mskC (hs : H L = some (cellO L w)) : ∀ {v : List (Str × V)} {d : List (Str × D)}, DenF K ι H v d → nocloF d = true → DenF K ι (MF.msk H L) v d
  | _, _, .nil, _ => .nil
  | _, _, .cons h he, b => by
    simp only [nocloF, Bool.and_eq_true] at b
    exact .cons (Den.mskC hs h b.1) (DenF.mskC hs he b.2)
theorem DenK.mskC (hs : H L = some (cellO L w)) : ∀ {v : List (List Key × V)} {d : List (List Key × D)}, DenK K ι H v d → nocloK d = true → DenK K ι (MF.msk H L) v d
  | _, _, .nil, _ => .nil
  | _, _, .cons h he, b => by
    simp only [nocloK, Bool.and_eq_true] at b
    exact .cons (Den.mskC hs h b.1) (DenK.mskC hs he b.2)
theorem DenI.mskC (hs : H L = some (cellO L w)) : ∀ {v : List (Key × V)} {d : List (Key × D)}, DenI K ι H v d → nocloI d = true → DenI K ι (MF.msk H L) v d
  | _, _, .nil, _ => .nil
  | _, _, .cons h he, b => by
    simp only [nocloI, Bool.and_eq_true] at b
    exact .cons (Den.mskC hs h b.1) (DenI.mskC hs he b.2)
end
theorem Rel.mskC {st : S} (r : Rel K ι H st) (hs : H L = some (cellO L w)) (b : st.all (·.noclo) = true) : Rel K ι (MF.msk H L) st := ⟨r.len, r.nd, fun n a ob h1 h2 => by
  have q := r.obs n a ob h1 h2
  have hn : L ∉ ι := r.ext_out hs
  have ne : a ≠ L := fun e => hn (e ▸ List.mem_of_getElem? h1)
  have nb := List.all_eq_true.mp b _ (List.mem_of_getElem? h2)
  cases ob with
  | lst ds => obtain ⟨xs, h, hd⟩ := q; exact ⟨xs, (msk_ne ne).trans h, hd.mskC hs nb⟩
  | dct gs => obtain ⟨xs, h, hd⟩ := q; exact ⟨xs, (msk_ne ne).trans h, hd.mskC hs nb⟩
  | dik gs => obtain ⟨xs, h, hd⟩ := q; exact ⟨xs, (msk_ne ne).trans h, hd.mskC hs nb⟩
  | ins C gs => obtain ⟨dx, xs, h, hd⟩ := q; exact ⟨dx, xs, (msk_ne ne).trans h, hd.mskC hs nb⟩
  | tab p0 q0 =>
    obtain ⟨ea, ps, h, t, d⟩ := q
    refine ⟨ea, ps, (msk_ne ne).trans h, t, fun pos cv hc => ?_⟩
    obtain ⟨c, e1, e2, e3⟩ := d pos cv hc
    exact ⟨c, e1, e2, (msk_ne (hc_ne hs e3 fun z e => by subst z; exact code_cell e)).trans e3⟩⟩
/-- the cell is known again -/
theorem Stp.unmsk {ι' : List Addr} {H' : Hp} (s : Stp ι (MF.msk H L) ι' H') (hs : H L = some (cellO L w)) (hn : L ∉ ι') : Stp ι H ι' (upd H' L (cellO L w)) := ⟨s.pre, fun a o n t e => by
  by_cases ha : a = L
  · subst ha
    rw [hs] at e
    cases e
    exact ⟨hn, upd_same⟩
  · obtain ⟨n1, h1⟩ := s.keep a o n t ((msk_ne ha).trans e)
    exact ⟨n1, (upd_ne ha).trans h1⟩⟩
end
end MF
end
section
set_option Elab.async false
set_option linter.all false
set_option maxRecDepth 100000
set_option maxHeartbeats 4000000
/-! MXM: a lambda that has left its maker is called. -/
namespace MF
open PySem PySem.Spec PyProof.Rows L2
/-- its words, as HandS.Nested wants them -/
abbrev lamF (n : Nat) (y : Str) (c c' : Addr) : NdefX.NF := ⟨"<lambda>", (LT n).qual, (LT n).params, [], (LT n).scope, [(y, c)], c'⟩
abbrev lamO (n : Nat) (y : Str) (c c' : Addr) (pm ctv : Value) : Obj := PySem.W.kla_obj "<lambda>" (LT n).qual (LT n).params (LT n).body (LT n).scope [(y, c)] pm c' ctv
def fnL (nl : Nat) (m : Env → S → R D) (d : D) (ds : List D) (st : S) : R D := match m (ds.map some ++ (some d :: List.replicate (nl - ds.length - 1) none)) st with
  | .ok r st' => fin st.length r st'
  | .ex c f p st' => finX st.length c f p st'
  | .stuck => .stuck
def spL (K : PySem.W.Frag) (np : Nat) (g : D → List D → S → R D) (vc : V) : Sp := fun vs H Q E => vs.length = np ∧ ∃ ι d ds st, Den K ι H vc d ∧ DenL K ι H vs ds ∧ Rel K ι H st ∧ Post K (fun c d _ H' => E c d H') (Den K) [] ι H (g d ds st) Q
structure LmG (P : Program) (w : World) (K : PySem.W.Frag) (mg : Str → Option Value) (base : Heap) (k n : Nat) (ps : List Str) (y : Str) (g : D → List D → S → R D) : Prop where
  go : ∀ (f c c' : Addr) (pm ctv : Value) (A : Around) (outer : List PySem.Env) (s : Shared) (H : Hp) (us : List Value) (vs : List V) (vc : V) (Q : VK) (E : XK), Room k A → A.guards = some [] → Env0 P w K mg base A outer s H → s.heap.get? f = some (lamO n y c c' pm ctv) → s.heap.CodeRec (.ref c') (LT n).qual →
    H c = none → (∃ u, s.heap.IsCell c (some u) ∧ RelV vc u) → Vals vs us → spL K ps.length g vc vs H Q E → codeAny (model P w) A (.call (.ref f) ⟨us, []⟩) (CR (L2N.CX P w) outer P w H s Q E) s
theorem lm_of {P : Program} {w : World} {K : PySem.W.Frag} {mg : Str → Option Value} {base : Heap} {k n : Nat} {N ps : List Str} {y : Str} {m : Env → S → R D} (Sc : NdefX.NScope N ps [y] (LT n).scope)
    (hb : ∀ (c c' : Addr) (pm ctv : Value) (us : List Value), us.length = ps.length → bindArgs (PySem.W.kla_fn "<lambda>" (LT n).qual (LT n).params (LT n).body (LT n).scope [(y, c)] pm (.ref c') ctv) ⟨us, []⟩ = pure (ps.zip us))
    (hbody : ∀ (f c c' : Addr) (A : Around) (outer : List PySem.Env) (s : Shared) (H : Hp) (E : XK), Room k (A.deeper (NdefX.envF (lamF n y c c') f s.heap.objs.size)) → (A.deeper (NdefX.envF (lamF n y c c') f s.heap.objs.size)).guards = some [] →
      PE (NdefX.ncx (L2N.CX P w) P w K mg base N (lamF n y c c') f A outer s H E) (LT n).body (tM K (fun c d _ H' => E c d H') m)) : LmG P w K mg base (k + 1) n ps y (fnL N.length m) := by
  constructor
  intro f c c' pm ctv A outer s H us vs vc Q E hr hgd e0 ho hcr hc hcell rv hsp
  obtain ⟨hl, ι, d, ds, st, edc, ed, r, post⟩ := hsp
  obtain ⟨uc, hcu, ruc⟩ := hcell
  have lim : s.heap.NoLimit := e0.mod.nolimit.keeps fun b o e => (e0.bs b o e).1
  have C : NdefX.CellsAt (lamF n y c c').cl [y] [some vc] s.heap H := by
    refine ⟨rfl, fun z a e => ?_, fun a b z e1 e2 => ?_, fun i z e => ?_⟩
    · have h1 : List.lookup z [(y, c)] = some a := e
      by_cases hz : z = y
      · subst hz
        have : a = c := by simpa using h1.symm
        rw [this]
        exact ⟨hc, some uc, hcu⟩
      · simp [List.lookup, hz, beq_eq_false_iff_ne.mpr hz] at h1
    · have h1 : List.lookup a [(y, c)] = some z := e1
      have h2 : List.lookup b [(y, c)] = some z := e2
      have p1 := PySem.mem_of_lookup h1
      have p2 := PySem.mem_of_lookup h2
      simp at p1 p2
      rw [p1.1, p2.1]
    · cases i with
      | zero =>
        have : y = z := by simpa using e
        subst this
        exact ⟨c, by simp [List.lookup], fun v hv => by
          have : vc = v := by simpa using hv
          subst this
          exact ⟨uc, ruc, hcu⟩⟩
      | succ i => simp at e
  refine PySem.W.kla_callFunE hr.depth ho rfl Sc.co Sc.gen rfl hcr ?_
  rw [hb c c' pm ctv us (by rw [← rv.length]; exact hl)]
  refine wpAny_pure (wpAny_newFunctionEnv Sc.nocell (fun ⟨n, _⟩ hy => Sc.par n (List.of_mem_zip hy).1) (fun h₁ hns hsb => ⟨lim.fresh _ hsb, ?_⟩) Sc.kind)
  show codeAny _ _ (.expr (LT n).body (NdefX.envF (lamF n y c c') f s.heap.objs.size)) _ _
  have kp : ∀ b o, s.heap.get? b = some o → h₁.get? b = some o := fun b o e => hsb.extBut b o (Nat.ne_of_lt (Heap.lt_size e)) (Heap.get?_push_of_some _ e)
  have I := NdefX.inv_startN (CX := L2N.CX P w) (P := P) (w := w) (K := K) (mg := mg) (base := base) (F := lamF n y c c') (f := f) (E := E) (tk := s.toks + (ps.zip us).length) Sc hr.hd e0 hl rv C hns kp
  have er : EnvR K ι H (NdefX.startF N vs [some vc]) (ds.map some ++ (some d :: List.replicate (N.length - ds.length - 1) none)) := by
    have e2 := ed.length
    refine ⟨?_, fun i d' hi => ?_⟩
    · unfold NdefX.startF
      simp [e2]
    · unfold NdefX.startF
      by_cases h1 : i < ds.length
      · rw [List.getElem?_append_left (by simpa using h1), List.getElem?_map] at hi
        obtain ⟨d2, h2, h3⟩ := Option.map_eq_some_iff.mp hi
        cases h3
        obtain ⟨v, h4, h5⟩ := ed.get h2
        refine ⟨v, ?_, h5⟩
        rw [List.getElem?_append_left (by rw [List.length_map, e2]; exact h1), List.getElem?_map, h4]
        rfl
      · rw [List.getElem?_append_right (by simpa using h1), List.length_map] at hi
        rw [List.getElem?_append_right (by rw [List.length_map, e2]; omega), List.length_map, e2]
        cases hj : i - ds.length with
        | zero =>
          rw [hj] at hi
          have : d = d' := by simpa using hi
          subst this
          exact ⟨vc, rfl, edc⟩
        | succ j =>
          rw [hj, List.getElem?_cons_succ, List.getElem?_replicate] at hi
          split at hi <;> cases hi
  refine PySem.W.kla_codeExpr (wpAny_mono ((hbody f c c' A outer s H E (hr.deeper _) hgd).run [] _ _ H Q I ⟨ι, _, st, er, r, ?_⟩) ?_ fun e s' hq => hq)
  · unfold fnL at post
    have el : st.length = ι.length := r.len.symm
    revert post
    cases m (ds.map some ++ (some d :: List.replicate (N.length - ds.length - 1) none)) st with
    | ok r0 st' => exact fun p ι' H' v s r' e' => by dsimp only at p; rw [el] at p; exact post_fin s r' e' p
    | ex c f p st' => exact fun p ι' H' dd v s r' hd hx e' => by dsimp only at p; rw [el] at p; exact post_finX (Q := Q) s r' hd hx e' p
    | stuck => exact fun p => p
  · rintro v s' ⟨w', H', J, rv', q⟩
    exact ⟨w', H', J.os, J.bare, J.base, J.hok, rv', q⟩
end MF
end
section
set_option Elab.async false
set_option linter.all false
set_option maxRecDepth 100000
set_option maxHeartbeats 4000000
/-! MXN: x(e), x the name of a lambda that has left its maker. -/
namespace MF
open PySem PySem.Spec PyProof.Rows L2
section
variable {X : Cx} {pins : List (Addr × Obj)} {σ : L2.St} {H : Hp} {s : Shared} {c : Addr} {w : V}
/-- the cell is forgotten -/
theorem inv_msk (I : Inv X pins σ H s) (hs : H c = some (cellO c w)) : Inv X pins σ (msk H c) s := by
  have nn : ∀ {b : Addr}, H b = none → msk H c b = none := fun {b} e => by
    unfold msk
    split
    · rfl
    · exact e
  refine ⟨I.ok, I.os, I.bare, ⟨I.base.keep, I.base.slot, fun b o e n hx => nn (I.base.free b o e n hx), I.base.there, fun b xs e => ?_, fun b o u e => ?_, fun b ps e => ?_⟩, I.loc, I.cell, nn I.free, fun x a e => nn (I.freeC x a e), fun p hp => ?_, fun b u e => ?_, I.len⟩
  · have q := I.base.tups b xs e
    exact (msk_ne (hc_ne hs q fun _ z => by cases z)).trans q
  · have q := I.base.frzs b o u e
    exact (msk_ne (hc_ne hs q fun _ z => by cases z)).trans q
  · obtain ⟨m, q⟩ := I.base.tbls b ps e
    exact ⟨m, (msk_ne (hc_ne hs q fun _ z => by cases z)).trans q⟩
  · obtain ⟨e, n, q⟩ := I.pin p hp
    exact ⟨e, nn n, q⟩
  · obtain ⟨hb, e2⟩ := msk_some e
    exact (I.hok b u e2).stay (fun a v _ q => q) (fun a q => (msk_ne (hc_ne hs q fun _ z => by cases z)).trans q) fun a xs q => (msk_ne (hc_ne hs q fun _ z => by cases z)).trans q
/-- and known again -/
theorem inv_unmsk {H1 : Hp} {s1 : Shared} (I : Inv X pins σ H s) (hs : H c = some (cellO c w)) (I1 : Inv X pins σ H1 s1) (n1 : H1 c = none) (hk : ∀ o, s.heap.get? c = some o → s1.heap.get? c = some o) : Inv X pins σ (upd H1 c (cellO c w)) s1 := by
  have nt : ∀ {b : Addr} {o : HO}, H1 b = some o → b ≠ c := fun {b o} e => ne_of_none e n1
  have nL : ∀ {b : Addr}, H b = none → b ≠ c := fun {b} e z => by
    rw [z, hs] at e
    cases e
  refine ⟨I1.ok, I1.os, I1.bare, ⟨I1.base.keep, I1.base.slot, fun b o e n hx => ?_, I1.base.there, fun b xs e => ?_, fun b o u e => ?_, fun b ps e => ?_⟩, I1.loc, I1.cell, ?_, fun x a e => ?_, fun p hp => ?_, fun b u e => ?_, I1.len⟩
  · rw [upd_ne (nL (I.base.free b o e n hx))]
    exact I1.base.free b o e n hx
  · have q := I1.base.tups b xs e
    rw [upd_ne (nt q)]
    exact q
  · have q := I1.base.frzs b o u e
    rw [upd_ne (nt q)]
    exact q
  · obtain ⟨m, q⟩ := I1.base.tbls b ps e
    refine ⟨m, ?_⟩
    rw [upd_ne (nt q)]
    exact q
  · rw [upd_ne (nL I.free)]
    exact I1.free
  · rw [upd_ne (nL (I.freeC x a e))]
    exact I1.freeC x a e
  · obtain ⟨e, n, q⟩ := I1.pin p hp
    exact ⟨e, by rw [upd_ne (nL (I.pin p hp).2.1)]; exact n, q⟩
  · by_cases hb : b = c
    · subst hb
      rw [upd_same] at e
      cases e
      obtain ⟨⟨o, u, ho, hd, ru⟩, _, _⟩ := I.hok b _ hs
      exact ⟨⟨o, u, hk o ho, hd, ru⟩, ⟨o, hk o ho⟩, fun h1 h2 ⟨o9, u9, a1, a2, a3⟩ kk => ⟨o9, u9, kk _ a1, a2, a3⟩⟩
    · rw [upd_ne hb] at e
      exact (I1.hok b u e).stay (fun a v _ q => q) (fun a q => by rw [upd_ne (nt q)]; exact q) fun a xs q => by rw [upd_ne (nt q)]; exact q
end
/-- the call as a function: no closure among what is handed over, nothing is raised -/
def kClo (n np : Nat) (y : Str) (g : D → List D → S → R D) (fd : D) (ds : List D) (st : S) : R D := match fd with
  | .clo n' y' d => if n' = n ∧ y' = y ∧ ds.length = np ∧ d.noclo = true ∧ nocloL ds = true ∧ st.all (·.noclo) = true then (match g d ds st with
      | .ok r st' => .ok r st'
      | _ => .stuck) else .stuck
  | _ => .stuck
def mClo (n np : Nat) (y : Str) (g : D → List D → S → R D) (mf : Env → S → R D) (ms : Env → S → R (List D)) : Env → S → R D := fun env st => (mf env st).bind fun fd st1 => match fd with
  | .clo n' y' d => (ms env st1).bind fun ds st2 => kClo n np y g (.clo n' y' d) ds st2
  | _ => .stuck
section
variable {X : Cx} {W : L2.WX} {k n np i : Nat} {x y : Str} {ps : List Str} {g : D → List D → S → R D} {ms : Env → S → R (List D)} {e : Expr} {es : List Expr} {p pos : Pos}
theorem me_clo (Fn : LmG X.prog X.w X.K X.mg X.base k n ps y g) (hr : Room k X.A) (hgd : X.A.guards = some []) (hN : X.N[i]? = some x) (hv : Vis X.env.scope x) (ha : PA X (e :: es) (tMA X.K W ms)) (hnp : ps.length = np := by rfl) (hd : (x == ("__debug__" : Str)) = false := by decide) (hcd : (x == ("__classdict__" : Str)) = false := by decide)
    (he : starEach (e :: es) X.env = (false, eval e X.env) :: starEach es X.env := by rfl) (hpl : (backTo pos (starEach es X.env)).any (·.1) = false := by rfl) :
    PE X (.Call (.Name x p) (e :: es) [] pos) (tM X.K W (mClo n np y g (mVar i) ms)) := by
  subst hnp
  constructor
  intro pins s σ H Q I ⟨ι, env, st, er, r, h⟩
  unfold mClo mVar at h
  cases hi : env[i]? with
  | none => rw [hi] at h; exact h.elim
  | some o =>
  rw [hi] at h
  cases o with
  | none => exact h.elim
  | some fd =>
  obtain ⟨vf, hvf, edf⟩ := er.get i fd hi
  cases edf with
  | @clo f c c' n' y' pm ctv vc d hn hf hn1 h1 hn2 h2 hdd =>
    have h : Post X.K W (Den X.K) σ ι H ((ms env st).bind fun ds st2 => kClo n ps.length y g (.clo n' y' d) ds st2) Q := h
    refine wpAny_Call_Name_kw (thn ((pe_var (pos := p) hN hv hd hcd).run pins s σ H (fun v H1 => v = .ref f ∧ H1 = H) I ⟨.ref f, hvf, rfl, rfl⟩) ?_)
    rintro u s1 ⟨v, H1, I1, r1, rfl, rfl⟩
    obtain rfl : u = Value.ref f := r1
    have fnAt : ∀ {s9 : Shared} {σ9 : L2.St} {H9 : Hp}, Inv X pins σ9 H9 s9 → H9 f = some (atO f (lamO n' y' c c' pm ctv)) → s9.heap.get? f = some (lamO n' y' c c' pm ctv) := fun I9 e9 => (I9.hok f _ e9).1
    refine PySem.W.callWith_F (first := []) ⟨_, _, _, _, fnAt I1 hf⟩ (thn (ha.run pos pins s1 σ _ (fun vs H2 => ∃ ι2 ds st2, Stp ι H1 ι2 H2 ∧ Rel X.K ι2 H2 st2 ∧ DenL X.K ι2 H2 vs ds ∧ Post X.K W (Den X.K) σ ι2 H2 (kClo n ps.length y g (.clo n' y' d) ds st2) Q) I1 ?_) ?_) he hpl
    · exact seqA er r h fun ι1 H2 vs ds st1 er1 s1 r1 e1 h1 => ⟨ι1, ds, st1, s1, r1, e1, h1⟩
    · rintro us s2 ⟨vs, H2, I2, rv, ι2, ds, st2, t2, r2, e2, h2'⟩
      have hf2 := (t2.keep f _ hn (fun _ => ext_tbl) hf).2
      have hc2 := (t2.keep c _ hn2 (fun _ => ext_tbl) h2)
      have hcode2 := (t2.keep c' _ hn1 (fun _ => ext_tbl) h1).2
      refine ⟨⟨_, _, _, _, fnAt I2 hf2⟩, ?_⟩
      unfold kClo at h2'
      obtain ⟨⟨en, ey, hl, b1, b2, b3⟩, h3⟩ := h2'.ite
      subst en ey
      show wpAny _ _ (call (.ref f) us) _ _ _
      have I3 := inv_msk I2 hc2.2
      have d3 := (hdd.stp t2).mskC hc2.2 b1
      have e3 := e2.mskC hc2.2 b2
      have r3 := r2.mskC hc2.2 b3
      have hcr : s2.heap.CodeRec (.ref c') (LT n').qual := NdefX.codeO_at I2.hok hcode2
      obtain ⟨⟨oc, uc, hoc, hdc, ruc⟩, _, _⟩ := I2.hok c _ hc2.2
      have nmc : msk H2 c c = none := by
        unfold msk
        rw [if_pos rfl]
      cases hg : g d ds st2 with
      | stuck => rw [hg] at h3; exact h3.elim
      | ex a b c9 d9 => rw [hg] at h3; exact h3.elim
      | ok rr st3 =>
        rw [hg] at h3
        have sp : spL X.K ps.length g vc vs (msk H2 c) (fun v H4 => ∃ ι4, Stp ι2 (msk H2 c) ι4 H4 ∧ Rel X.K ι4 H4 st3 ∧ Den X.K ι4 H4 v rr) (fun _ _ _ => False) :=
          ⟨e2.length.trans hl, ι2, d, ds, st2, d3, e3, r3, by rw [hg]; exact fun ι4 H4 v s4 r4 e4 => ⟨ι4, s4, r4, e4⟩⟩
        have cf : c ∉ frs X.stack := fun z => by
          have := I2.stkFree c z
          rw [hc2.2] at this
          cases this
        refine wpAny_call (codeAny_mono (Fn.go f c c' pm ctv X.A X.stack s2 (msk H2 c) us vs vc _ (fun _ _ _ => False) hr hgd I3.env0 (fnAt I2 hf2) hcr nmc ⟨uc, ⟨oc, hoc, hdc⟩, ruc⟩ rv sp) ?_)
        intro q s4 hq
        cases q with
        | error e9 => exact L2N.passAt (W := W0) takesN σ pins _ s2 e9 s4 I3 hq
        | ok fl =>
          cases fl with
          | ret u =>
            obtain ⟨v4, H4, os4, bare4, un4, hok4, rv4, ι4, t4, r4, e4⟩ := hq
            have n4 : H4 c = none := un4.free c oc hoc nmc (by simp)
            obtain ⟨v5, H5, I5, rv5, ev5, eH5⟩ := I3.after (Q := fun v H => v = v4 ∧ H = H4) ⟨v4, H4, os4, bare4, un4, hok4, rv4, rfl, rfl⟩
            subst ev5 eH5
            have I6 := inv_unmsk I2 hc2.2 I5 n4 fun o ho => un4.keep c o ho nmc cf (by simp)
            have nc4 : c ∉ ι4 := r4.fresh n4
            have t6 := t4.unmsk hc2.2 nc4
            have r6 := r4.new (o := cellO c vc) n4
            have e6 := e4.stp (new_stp (o := cellO c vc) n4)
            exact ⟨_, _, I6, rv5, h3 ι4 _ _ t6 r6 e6⟩
          | next => exact False.elim hq
          | brk => exact False.elim hq
          | cont => exact False.elim hq
  | _ => exact False.elim h
end
end MF
end
section
set_option Elab.async false
set_option linter.all false
set_option maxRecDepth 100000
set_option maxHeartbeats 4000000
/-! MXO: {i: j}, both written ints. -/
namespace MF
open PySem PySem.Spec PyProof.Rows L2
def mDisp1 (i j : Int) : Env → S → R D := fun _ st => .ok (.loc st.length) (st ++ [.dik [(.inl i, .int j)]])
theorem me_disp1 {X : Cx} {W : L2.WX} {i j : Int} {k1 k2 : Nat} {p1 p2 pos : Pos} : PE X (.Dict [some (.Constant (.int i) k1 p1)] [.Constant (.int j) k2 p2] pos) (tM X.K W (mDisp1 i j)) :=
  (pe_disp (pps_cons pe_int pe_int pps_nil) rfl rfl (by simp) (by show 1 ≤ 15; decide)).imp fun σ H Q ⟨ι, env, st, er, r, h⟩ p hp => by
    refine ⟨upd_same, [(.inl i, .int j)], rfl, (by show 1 ≤ 15; decide), ?_⟩
    rw [upd_upd]
    refine h _ _ _ (newl_stp r hp) (r.newl hp (ob := .dik [(.inl i, .int j)]) ⟨_, upd_same, .cons (.int j) .nil⟩) (.loc ?_)
    rw [← r.len, List.getElem?_append_right (Nat.le_refl _), Nat.sub_self]
    rfl
end MF
end
section
set_option Elab.async false
set_option linter.all false
set_option maxRecDepth 100000
set_option maxHeartbeats 4000000
/-! MXP: lists walked, tuples unpacked while an exception is handled. -/
namespace MF
open PySem PySem.Spec PyProof.Rows L2 HotX
section
variable {prog : Program} {w : World} {A : Around} {E : Value → Shared → Prop} {s : Shared}
/-- the end of a list, x1 being handled -/
theorem list_end_hot {it l x1 : Addr} {i : Nat} {items : Array Value} {Q : Option Value → Shared → Prop} (hot : HotAt A x1 s.heap) (ne : x1 ≠ it) (hit : s.heap.IsListIter it l i) (hl : s.heap.IsList l items) (hx : items[i]? = none)
    (hQ : ∀ h', Heap.ExtBut it s.heap h' → Q none { s with heap := h' }) : wpAny (model prog w) A (pyNext (.ref it)) Q E s := by
  obtain ⟨⟨io, gi, ci, di⟩, hnd, o1, w1, g1, g2, g3⟩ := And.intro (id hit) hot
  obtain ⟨lo, gl, _, nl, dl⟩ := hl
  unfold pyNext
  refine wpAny_bind (wpAny_attempt (wpAny_callSpecial?_slot (name := Str.ofString "__next__") hit.typeIs slot_listiter_next (wpAny_call_entry slot_listiter_next hit.typeIs entry_listiter_next ?_ (args_listiter_next _))))
  show wpAny _ _ (field (.ref it) 0 >>= _) _ _ s; refine wpAny_bind (wpAny_field gi di (x := .ref l) rfl ?_)
  show wpAny _ _ (if (Value.ref l == Value.none) = true then _ else _) _ _ s; rw [if_neg (by intro z; cases z)]
  show wpAny _ _ (field (.ref it) 1 >>= _) _ _ s; refine wpAny_bind (wpAny_field gi di (x := .int i 0) rfl ?_)
  show wpAny _ _ (seqItems? (.ref l) >>= _) _ _ s; refine wpAny_bind (wpAny_seqItems gl dl ?_); simp only [Int.toNat_natCast, hx]
  refine wpAny_bind (wpAny_rule (wpAny_bind (wpAny_setField gi di (by simp) ?_))); show wpAny _ _ (newExc (.type "StopIteration") [] >>= _) _ _ _
  refine wpAny_bind ?_; simp only [newExc, newTuple]; refine wpAny_bind (wpAny_newObj_type ?_ (by size_fits))
  refine wpAny_bind (m := firstArgMember _ _) (wpAny_of_eq (a := Value.none) (by first | rfl | (simp only [firstArgMember]; rfl)) ?_); refine wpAny_newObj_type ?_ (by size_fits)
  have k0 : ∀ {b : Addr} {ob p : Obj}, b ≠ it → s.heap.get? b = some ob → ((s.heap.update it (Obj.mapFields (·.setIfInBounds 0 .none))).push p).get? b = some ob := fun nb e => Heap.get?_push_of_some _ ((Heap.get?_update_other _ _ (Ne.symm nb)).trans e)
  refine raiseNew_hot ⟨hnd, o1, w1, Heap.get?_push_of_some _ (k0 ne g1), g2, g3⟩ (Nat.ne_of_lt (Heap.lt_size (k0 ne g1))) (Heap.get?_push_size _ rfl) rfl (by first | (simp; done) | (simp; omega)) ?_
  refine wpAny_bind (wpAny_isInstance (T := "StopIteration") (b := true) ⟨_, Heap.get?_update_self _ (Heap.get?_push_size _ rfl) rfl, rfl⟩ isSubtype_stop (wpAny_pure (hQ _ fun b ob nb e => ?_)))
  rw [Heap.get?_update_other _ _ (Nat.ne_of_gt (Heap.lt_size (k0 nb e)))]
  exact Heap.get?_push_of_some _ (k0 nb e)
/-- the end of a tup, x1 being handled -/
theorem tup_end_hot {it l x1 : Addr} {i : Nat} {items : Array Value} {Q : Option Value → Shared → Prop} (hot : HotAt A x1 s.heap) (ne : x1 ≠ it) (hit : s.heap.IsTupleIter it l i) (hl : s.heap.IsTuple l items) (hx : items[i]? = none)
    (hQ : ∀ h', Heap.ExtBut it s.heap h' → Q none { s with heap := h' }) : wpAny (model prog w) A (pyNext (.ref it)) Q E s := by
  obtain ⟨⟨io, gi, ci, di⟩, hnd, o1, w1, g1, g2, g3⟩ := And.intro (id hit) hot
  obtain ⟨lo, gl, _, nl, dl⟩ := hl
  unfold pyNext
  refine wpAny_bind (wpAny_attempt (wpAny_callSpecial?_slot (name := Str.ofString "__next__") hit.typeIs F.slot_tuple_iterator_next (wpAny_call_entry F.slot_tuple_iterator_next hit.typeIs F.entry_tuple_iterator_next ?_ (F.args_tuple_iterator_next_1 _))))
  show wpAny _ _ (field (.ref it) 0 >>= _) _ _ s; refine wpAny_bind (wpAny_field gi di (x := .ref l) rfl ?_)
  show wpAny _ _ (if (Value.ref l == Value.none) = true then _ else _) _ _ s; rw [if_neg (by intro z; cases z)]
  show wpAny _ _ (field (.ref it) 1 >>= _) _ _ s; refine wpAny_bind (wpAny_field gi di (x := .int i 0) rfl ?_)
  show wpAny _ _ (seqItems? (.ref l) >>= _) _ _ s; refine wpAny_bind (wpAny_seqItems gl dl ?_); simp only [Int.toNat_natCast, hx]
  refine wpAny_bind (wpAny_rule (wpAny_bind (wpAny_setField gi di (by simp) ?_))); show wpAny _ _ (newExc (.type "StopIteration") [] >>= _) _ _ _
  refine wpAny_bind ?_; simp only [newExc, newTuple]; refine wpAny_bind (wpAny_newObj_type ?_ (by size_fits))
  refine wpAny_bind (m := firstArgMember _ _) (wpAny_of_eq (a := Value.none) (by first | rfl | (simp only [firstArgMember]; rfl)) ?_); refine wpAny_newObj_type ?_ (by size_fits)
  have k0 : ∀ {b : Addr} {ob p : Obj}, b ≠ it → s.heap.get? b = some ob → ((s.heap.update it (Obj.mapFields (·.setIfInBounds 0 .none))).push p).get? b = some ob := fun nb e => Heap.get?_push_of_some _ ((Heap.get?_update_other _ _ (Ne.symm nb)).trans e)
  refine raiseNew_hot ⟨hnd, o1, w1, Heap.get?_push_of_some _ (k0 ne g1), g2, g3⟩ (Nat.ne_of_lt (Heap.lt_size (k0 ne g1))) (Heap.get?_push_size _ rfl) rfl (by first | (simp; done) | (simp; omega)) ?_
  refine wpAny_bind (wpAny_isInstance (T := "StopIteration") (b := true) ⟨_, Heap.get?_update_self _ (Heap.get?_push_size _ rfl) rfl, rfl⟩ isSubtype_stop (wpAny_pure (hQ _ fun b ob nb e => ?_)))
  rw [Heap.get?_update_other _ _ (Nat.ne_of_gt (Heap.lt_size (k0 nb e)))]
  exact Heap.get?_push_of_some _ (k0 nb e)

theorem hot_ext {A : Around} {x1 : Addr} {h h' : Heap} (c : HotAt A x1 h) (k : ∀ o, h.get? x1 = some o → h'.get? x1 = some o) : HotAt A x1 h' := by
  obtain ⟨a, o, vs, b, d⟩ := c
  exact ⟨a, o, vs, k o b, d⟩
/-- a tuple unpacked, x1 being handled -/
theorem unpack_hot {x1 t : Addr} {items : Array Value} {targets : List (Bool × (Value → Sem Unit))} {Q : Unit → Shared → Prop} (hot : HotAt A x1 s.heap) (ht : s.heap.IsTuple t items) (hn : targets.length = items.size) (hs : targets.findIdx? (·.1) = none)
    (h : ∀ h', Heap.ExtBut s.heap.objs.size s.heap h' → wpAny (model prog w) A (assignInOrder (targets.map (·.2)) items.toList) Q E { s with heap := h' }) : wpAny (model prog w) A (unpack (.ref t) targets) Q E s := by
  have nt : t ≠ s.heap.objs.size := by obtain ⟨o, ho, _⟩ := ht; exact Nat.ne_of_lt (Heap.lt_size ho)
  have nx : x1 ≠ s.heap.objs.size := by obtain ⟨_, o, _, ho, _⟩ := hot; exact Nat.ne_of_lt (Heap.lt_size ho)
  unfold unpack; rw [hn, hs]
  refine wpAny_bind (wpAny_holding ?_); unfold unpackItems
  refine wpAny_bind ?_; unfold notIterableAtAll
  refine wpAny_bind (wpAny_specialOf ht.typeIs F.slot_tuple_iter.lookup (wpAny_pure ?_)); simp only [Bool.false_eq_true, if_false]
  refine wpAny_bind (wpAny_holding (wpAny_pyIter_tuple ht ?_)); refine wpAny_bind (wpAny_holding (wpAny_draw_tuple nt items.size 0 _ _ ⟨_, Heap.get?_push_size _ rfl, rfl, rfl⟩ (ht.push _) (by omega) fun h1 i1 s1 => ?_))
  have al : List.take items.size (List.drop 0 items.toList) = items.toList := by rw [List.drop_zero, List.take_of_length_le (by simp)]
  rw [al, if_neg (by simp)]
  have t1 : h1.IsTuple t items := (ht.push _).extBut s1.extBut nt
  have c1 : HotAt A x1 h1 := hot_ext hot fun o e => s1.extBut x1 o nx (Heap.get?_push_of_some _ e)
  refine wpAny_bind (wpAny_holding (tup_end_hot (s := { s with heap := h1 }) c1 nx i1 t1 (by simp) fun h2 e2 => ?_))
  simp only [Option.isSome_none, Bool.false_eq_true, if_false]
  exact wpAny_pure (h h2 fun b o nb e => e2 b o nb (s1.extBut b o nb (Heap.get?_push_of_some _ e)))
theorem assign_hot {x1 t : Addr} {env : PySem.Env} {elts : List Expr} {k : Nat} {pos : Pos} {items : Array Value} {Q : Unit → Shared → Prop} (hot : HotAt A x1 s.heap) (ht : s.heap.IsTuple t items) (hn : (assignEach elts env).length = items.size) (hs : (assignEach elts env).findIdx? (·.1) = none)
    (h : ∀ h', Heap.ExtBut s.heap.objs.size s.heap h' → wpAny (model prog w) A (assignInOrder ((assignEach elts env).map (·.2)) items.toList) Q E { s with heap := h' }) : wpAny (model prog w) A (assign (.Tuple elts k pos) env (.ref t)) Q E s := by
  rw [arm_assign_Tuple]
  exact wpAny_bind (wpAny_standAt (unpack_hot hot ht hn hs h))
end
end MF
end
section
set_option Elab.async false
set_option linter.all false
set_option maxRecDepth 100000
set_option maxHeartbeats 4000000
/-! MXQ: while an exception is handled: loops over lists, calls, try. -/
namespace MF
open PySem PySem.Spec PyProof.Rows L2 HotX
/-- a is handled, and known -/
def Hot0 (A : Around) (a : Addr) (H : Hp) : Prop := A.handled = some (.ref a) ∧ ∃ C d, H a = some (exw a C d)
section
variable {K : PySem.W.Frag} {A : Around} {a : Addr} {H H' : Hp} {ι ι' : List Addr} {st : S}
theorem Hot0.out (h : Hot0 A a H) (r : Rel K ι H st) : a ∉ ι := by
  obtain ⟨_, C, d, e⟩ := h
  exact r.ext_out e
theorem Hot0.stp (h : Hot0 A a H) (r : Rel K ι H st) (s : Stp ι H ι' H') : Hot0 A a H' := by
  have n := h.out r
  obtain ⟨e, C, d, g⟩ := h
  exact ⟨e, C, d, (s.keep a _ n (fun _ => ext_tbl) g).2⟩
end
section
variable {X : Cx} {W : L2.WX} {a0 : Addr} {e l : Expr} {es : List Expr} {pos p : Pos} {st0 : Stmt} {rest : List Stmt}
theorem Hot0.at {pins : List (Addr × Obj)} {σ : L2.St} {H : Hp} {s : Shared} (h : Hot0 X.A a0 H) (I : Inv X pins σ H s) : HotAt X.A a0 s.heap := by
  obtain ⟨hh, C, d, g⟩ := h
  obtain ⟨oe, vs, g1, g2, g3, g4, g5⟩ := exw_at I.hok g
  exact ⟨hh, oe, vs, g1, g4, g5⟩
/-- the list at a, its end told where a0 is handled -/
def ItlH (A : Around) (a0 : Addr) (K : PySem.W.Frag) (a : Addr) : It := ⟨(Itl K a).go, (Itl K a).yld, fun i H => (∃ xs, SqL K H a xs ∧ xs.length ≤ i) ∧ Hot0 A a0 H⟩
def iListH (A : Around) (a0 : Addr) (K : PySem.W.Frag) (tl : TE) : TI := fun σ H R => tl σ H fun x H1 => ∃ a, x = .ref a ∧ (∃ xs, SqL K H1 a xs) ∧ R (ItlH A a0 K a) H1
theorem ps_forL {tg : Expr} {body : List Stmt} {tl : TE} {g : TG} {tb : TS} (hp : PassesOwn (model X.prog X.w) X.A X.env X.xe) (hi : PE X l tl) (hg : PG X tg g) (hb : PSs X body tb)
    (hs : ∀ x, foldedSetIterable l X.env x = pure x := by intro _; rfl) : PS X (.For tg l body [] pos) (tFor (iListH X.A a0 X.K tl) g tb) := by
  refine ⟨fun pins s σ H D I h => wpAny_For (thn (hi.run pins s σ H _ I h) fun v s1 h1 => ?_) hs⟩
  obtain ⟨x, H1, I1, rx, a, ex, ⟨xs, hq⟩, W, ⟨m0, w0⟩, turn⟩ := h1
  subst ex; cases rx
  obtain ⟨its, rv, pl, hz⟩ := I1.list hq
  refine wpAny_pyIter_list pl.isList ?_
  generalize hit : s1.heap.objs.size = it
  have fz := I1.fpOk (b := it) (Nat.le_of_eq hit) (I1.hok.fresh (Nat.le_of_eq hit))
  have I2 : Inv X pins σ H1 { s1 with heap := s1.heap.push { cls := .type "list_iterator", data := .fields #[.ref a, .int 0 0] } } := I1.kept (t' := s1.toks) fun b o k => Heap.get?_push_of_some _ k
  refine codeAny_forLoop_any (fun n s' => ∃ i σ' H', Inv X pins σ' H' s' ∧ s'.heap.IsListIter it a i ∧ H' it = none ∧ W i n σ' H') ?_ m0 ⟨0, σ, H1, I2, hit ▸ ⟨_, Heap.get?_push_size _ rfl, rfl, rfl⟩, fz.1, w0⟩
  rintro n s3 ⟨i, σ3, H3, I3, st3, fr3, w3⟩
  obtain ⟨_, f1, f2, f3, f4, f5⟩ := fz
  rcases turn i n σ3 H3 w3 with ⟨⟨⟨ys, hy, hle⟩, hot⟩, qn⟩ | ⟨⟨ys, x, hy, hx⟩, N, hN, step⟩
  · obtain ⟨zs, rz, pz, _⟩ := I3.list hy
    have hlen := rz.length
    have ne : a0 ≠ it := fun z => by
      obtain ⟨_, C, d, g⟩ := hot
      rw [z, fr3] at g
      cases g
    exact wpAny_passesOwn hp (list_end_hot (hot.at I3) ne st3 pz.isList (by simp; omega) fun h' eb => wpAny_execs_nil ⟨σ3, H3, I3.turned (t' := s3.toks) (fun b o nb k => eb b o nb k) fr3 f1 f3 f4 f5, qn⟩)
  · obtain ⟨zs, rz, pz, _⟩ := I3.list hy
    obtain ⟨u, hu, ru⟩ := rz.get hx
    refine wpAny_passesOwn hp (wpAny_pyNext_list_item st3 pz.isList (x := u) (by simpa using hu) fun h' st' sb => ?_)
    have I4 : Inv X pins σ3 H3 { s3 with heap := h' } := I3.turned (t' := s3.toks) (fun b o nb k => (sb.2 b nb).trans k) fr3 f1 f3 f4 f5
    obtain ⟨oi, ei, ci, di⟩ := id st'
    refine wpAny_passesOwn hp (go_of (s := { s3 with heap := h' }) ei ci di (by decide) ?_)
    have fq : ∀ b ∈ [it], FpOk X pins H3 b := fun b hb => by
      rw [List.mem_singleton.mp hb]
      exact ⟨fr3, f1, f2, f3, f4, f5⟩
    have oq : ∀ b ∈ [it], ∃ o, h'.get? b = some o ∧ ∀ v, o.data ≠ .cell v := fun b hb => by
      rw [List.mem_singleton.mp hb]
      exact ⟨oi, ei, fun v z => by rw [di] at z; cases z⟩
    have I5 := I4.pinned fq oq
    refine wpAny_passesOwn hp (thn (hg.run _ _ σ3 H3 x u _ I5 ru (step x H3 ⟨rfl, fun zs hz => by rw [I3.list_inj hz hy]; exact hx⟩)) fun _ s6 ⟨σ6, H6, I6, q6⟩ => ?_)
    refine wpAny_passesOwn hp (thn (hb.run _ s6 σ6 H6 _ I6 q6) fun f s7 q7 => ?_)
    have pinned : ∀ {σ7 : L2.St} {H7 : Hp}, Inv X (pins ++ pinsAt [it] h') σ7 H7 s7 → s7.heap.get? it = some oi ∧ H7 it = none := fun {σ7 H7} I7 =>
      ⟨(I7.pin (it, oi) (List.mem_append_right _ (List.mem_append_right _ (mem_pinsAt List.mem_cons_self ei)))).1, (I7.pin (it, oi) (List.mem_append_right _ (List.mem_append_right _ (mem_pinsAt List.mem_cons_self ei)))).2.1⟩
    have again : ∀ {σ7 : L2.St} {H7 : Hp}, Inv X (pins ++ pinsAt [it] h') σ7 H7 s7 → N σ7 H7 → ∃ m, m < n ∧ ∃ i σ' H', Inv X pins σ' H' s7 ∧ s7.heap.IsListIter it a i ∧ H' it = none ∧ W i m σ' H' := fun {σ7 H7} I7 n7 => by
      obtain ⟨m', hm, w7⟩ := hN σ7 H7 n7
      exact ⟨m', hm, i + 1, σ7, H7, I7.unpinned, ⟨oi, (pinned I7).1, ci, di⟩, (pinned I7).2, w7⟩
    cases f with
    | next => exact q7.elim fun σ7 z => z.elim fun H7 z => again z.1 z.2
    | cont => exact q7.elim fun σ7 z => z.elim fun H7 z => again z.1 z.2
    | brk => exact q7.elim fun σ7 z => z.elim fun H7 z => ⟨σ7, H7, z.1.unpinned, z.2⟩
    | ret v =>
      obtain ⟨x7, σ7, H7, I7, r7, g7⟩ := q7
      exact ⟨x7, σ7, H7, I7.unpinned, r7, g7⟩
theorem walk_listH {A : Around} {a0 : Addr} {K : PySem.W.Frag} {a : Addr} {xs : List V} : Walk (ItlH A a0 K a) xs.length (fun H => SqL K H a xs ∧ Hot0 A a0 H) (YAt xs) :=
  ⟨fun i H hi q => walk_list.goes i H hi q.1, fun H q => ⟨walk_list.stops H q.1, q.2⟩, fun i H x H' hi q y => walk_list.yields i H x H' hi q.1 y⟩
/-- the readings of statements, targets, arguments, a0 being handled -/
def tMSh (X : Cx) (W : L2.WX) (a0 : Addr) (m : Env → S → R F) : TS := fun D σ H => Hot0 X.A a0 H ∧ tMS X.K W m D σ H
theorem ms_hot {m : Env → S → R F} (h : PS X st0 (tMS X.K W m)) : PS X st0 (tMSh X W a0 m) := h.imp fun D σ H q => q.2
theorem postS_seqH {ι : List Addr} {H : Hp} {st : S} {r : R F} {u : Env → S → R F} {D : Ends} (hot : Hot0 X.A a0 H) (rl : Rel X.K ι H st) (h : PostS X.K W ι H (r.bind (kSeq u)) D) : PostS X.K W ι H r { D with nx := tMSh X W a0 u D } := by
  cases r with
  | ok f st =>
    cases f with
    | nx env => exact fun ι' H' σ' s r e => ⟨hot.stp rl s, ι', env, st, e, r, PostS.step s h⟩
    | rt d => exact h
    | bk env => exact h
    | ct env => exact h
  | ex c f p st => exact h
  | stuck => exact h
theorem ms_consH {m u : Env → S → R F} (h1 : PS X st0 (tMSh X W a0 m)) (h2 : PSs X rest (tMSh X W a0 u)) : PSs X (st0 :: rest) (tMSh X W a0 (sSeq m u)) :=
  (pss_cons h1 h2).imp fun D σ H ⟨hot, ι, env, st, er, r, h⟩ => ⟨hot, ι, env, st, er, r, postS_seqH hot r h⟩
theorem ms_oneH {m : Env → S → R F} (h1 : PS X st0 (tMSh X W a0 m)) : PSs X [st0] (tMSh X W a0 m) := pss_one h1
def tMGh (X : Cx) (a0 : Addr) (js : List Nat) (f : D → Env → Option Env) : TG := fun v σ H Q => Hot0 X.A a0 H ∧ tMG X.K js f v σ H Q
def gTO (n : Nat) (fs : List D → Env → Option Env) (d : D) (env : Env) : Option Env := match d with
  | .tup ds => if ds.length = n then fs ds env else none
  | _ => none
theorem mg_tupH {js : List Nat} {fs : List D → Env → Option Env} {n k : Nat} (h : PGs X es (tMGs X.K js fs)) (hn : (assignEach es X.env).length = n := by rfl) (hst : (assignEach es X.env).findIdx? (·.1) = none := by rfl) : PG X (.Tuple es k pos) (tMGh X a0 js (gTO n fs)) := by
  refine ⟨fun pins s σ H v u Q I rv hw => ?_⟩
  obtain ⟨hot, ι, env, d, env', er, e, hd, q⟩ := hw
  cases e with
  | @tup a xs ds hq hs =>
    simp only [gTO] at hd
    split at hd
    · rename_i hl
      obtain rfl : u = Value.ref a := rv
      obtain ⟨its, rvs, ht, hz⟩ := I.tuple hq.sq
      refine assign_hot (hot.at I) (show s.heap.IsTuple a its.toArray from ht) (by simp [hn, ← hl, ← hs.length, rvs.length]) hst fun h' hx => ?_
      have I1 : Inv X pins σ H { s with heap := h' } := I.kept (t' := s.toks) fun b o k => hx b o (Nat.ne_of_lt (Heap.lt_size k)) k
      exact h.run pins _ σ H xs _ Q I1 (by simpa using rvs) ⟨ι, env, _, env', er, hs, hd, q⟩
    · cases hd
  | _ => cases hd
theorem ms_forH {tg : Expr} {js : List Nat} {body : List Stmt} {ml : Env → S → R D} {f : D → Env → Option Env} {m : Env → S → R F} (hp : PassesOwn (model X.prog X.w) X.A X.env X.xe) (hl : PE X l (tM X.K W ml)) (hg : PG X tg (tMGh X a0 js f)) (hb : PSs X body (tMS X.K W m))
    (hs : ∀ x, foldedSetIterable l X.env x = pure x := by intro _; rfl) : PS X (.For tg l body [] pos) (tMSh X W a0 (sFor (itL ml) f m)) :=
  (ps_forL (a0 := a0) hp hl hg hb hs).imp fun Dn σ H ⟨hot, ι, env, st, er, r, h⟩ => by
    have h : PostS X.K W ι H ((ml env st).bind fun d st1 => (match d with
      | .lst ds => (.ok ds st1 : R (List D))
      | .scr ds => .ok ds st1
      | _ => .stuck).bind fun ds st1 => loop f m ds env st1) Dn := by
      unfold sFor itL at h
      revert h
      cases ml env st <;> exact fun h => h
    refine seqSM er r h fun ι1 H1 v d st1 er1 s1 r1 e1 h1 => ?_
    have hot1 := hot.stp r s1
    have main : ∀ (a : Addr) (xs : List V) (ds : List D), (∀ ι' H', Stp ι1 H1 ι' H' → SqL X.K H' a xs) → DenL X.K ι1 H1 xs ds → PostS X.K W ι1 H1 (loop f m ds env st1) Dn →
        ∃ W0 : Nat → Nat → L2.St → Hp → Prop, (∃ m, W0 0 m σ H1) ∧ ∀ i m' σ' H', W0 i m' σ' H' → ((ItlH X.A a0 X.K a).stop i H' ∧ Dn.nx σ' H') ∨ ((ItlH X.A a0 X.K a).go i H' ∧ ∃ N : L2.St → Hp → Prop, (∀ σ2 H2, N σ2 H2 → ∃ m2, m2 < m' ∧ W0 (i + 1) m2 σ2 H2) ∧
          ∀ x H2, (ItlH X.A a0 X.K a).yld i H' x H2 → tMGh X a0 js f x σ' H2 fun σ2 H2 => tMS X.K W m { Dn with nx := N, ct := N, bk := Dn.nx } σ2 H2) := by
      intro a xs ds hG hds hlo
      have hlen := hds.length
      refine for_it (walk_listH (A := X.A) (a0 := a0) (K := X.K) (a := a) (xs := xs)) (fun i σ2 H2 => ∃ ι2 env2 st2, Stp ι1 H1 ι2 H2 ∧ EnvR X.K ι2 H2 σ2 env2 ∧ Rel X.K ι2 H2 st2 ∧ PostS X.K W ι2 H2 (loop f m (ds.drop i) env2 st2) Dn) ⟨ι1, env, st1, .refl, er1, r1, by rw [List.drop_zero]; exact hlo⟩
        (fun i σ2 H2 hi ⟨ι2, env2, st2, s2, _⟩ => ⟨hG ι2 H2 s2, hot1.stp r1 s2⟩) ?_ ?_
      · rintro i x σ2 H2 H3 hi ⟨ι2, env2, st2, s2, er2, r2, h2⟩ ⟨rfl, hx⟩
        obtain ⟨d, hd, ed⟩ := (hds.stp s2).getV hx
        have hdrop : ds.drop i = d :: ds.drop (i + 1) := by
          have hi' := (List.getElem?_eq_some_iff.mp hd).1
          rw [List.drop_eq_getElem_cons hi', (List.getElem?_eq_some_iff.mp hd).2]
        rw [hdrop] at h2
        unfold loop at h2
        split at h2
        · exact h2.elim
        · rename_i env3 he
          refine ⟨hot1.stp r1 s2, ι2, env2, d, env3, er2, ed, he, fun σ' er3 _ _ => ⟨ι2, env3, st2, er3, r2, ?_⟩⟩
          revert h2
          cases hm : m env3 st2 with
          | ok g st4 =>
            cases g with
            | nx env4 => exact fun h3 ι5 H5 σ5 s5 r5 e5 => ⟨ι5, env4, st4, s2.trans s5, e5, r5, PostS.step s5 h3⟩
            | ct env4 => exact fun h3 ι5 H5 σ5 s5 r5 e5 => ⟨ι5, env4, st4, s2.trans s5, e5, r5, PostS.step s5 h3⟩
            | bk env4 => exact fun h3 => h3
            | rt d => exact fun h3 => h3
          | ex c f p st => exact fun h3 => h3
          | stuck => exact fun h3 => h3
      · rintro σ2 H2 ⟨ι2, env2, st2, s2, er2, r2, h2⟩
        rw [hlen, List.drop_length] at h2
        exact h2 ι2 H2 σ2 .refl r2 er2
    cases e1 with
    | lst hn ha hs => exact ⟨_, rfl, ⟨_, .of ha⟩, main _ _ _ (fun ι' H' s => .of (s.keep _ _ hn (by intro _ z; cases z) ha).2) hs h1⟩
    | scr hq hs => exact ⟨_, rfl, ⟨_, hq.sq⟩, main _ _ _ (fun ι' H' s => (s.fzl hq).sq) hs h1⟩
    | _ => exact h1.elim
end
/-! ### defs called there -/
structure FnGH (P : Program) (w : World) (K : PySem.W.Frag) (mg : Str → Option Value) (base : Heap) (k : Nat) (f : Addr) (fd : FuncData) (ps : List Str) (g : List D → S → R D) : Prop where
  go : ∀ (A : Around) (outer : List PySem.Env) (s : Shared) (H : Hp) (args : Args) (us : List Value) (vs : List V) (Q : VK) (E : XK) (a : Addr), L2H.RoomH k A → Hot0 A a H → Env0 P w K mg base A outer s H →
    BindsTo s fd args (ps.zip us) → Vals vs us → spD K ps.length g vs H Q E → codeAny (model P w) A (.call (.ref f) args) (CR (L2N.CX P w) outer P w H s Q E) s
theorem fnGH_of {P : Program} {w : World} {K : PySem.W.Frag} {mg : Str → Option Value} {base : Heap} {k : Nat} {x qual : Str} {st0 : Stmt} {f : Addr} {fd : FuncData} {N ps : List Str} {m : Env → S → R F} (Fn : Fun K x qual st0 f fd) (Sc : FnScope N ps (defScope st0))
    (body : ∀ (cdv : Value) (A : Around) (outer : List PySem.Env) (s : Shared) (H : Hp) (E : XK) (p : Addr × Obj) (a : Addr), L2H.RoomH k (A.deeper (envOfC qual (defScope st0) s.heap.objs.size f cdv)) →
      PSs (L2H.cxH (L2N.CX P w) P w K mg base N qual (defScope st0) f cdv A outer s H E p) (defBody st0) (tMSh (L2H.cxH (L2N.CX P w) P w K mg base N qual (defScope st0) f cdv A outer s H E p) (fun c d _ H' => E c d H') a m)) : FnGH P w K mg base (k + 1) f fd ps (fnD N.length m) := by
  obtain ⟨oc, od, kV, doc, pm, an, cdv, ct, osl, rfl, lk, hcd⟩ := Fn.ex
  constructor
  intro A outer s H args us vs Q E a room hot e0 hbind rv hsp
  have nv : vs.length = ps.length := hsp.1
  have bk : ∀ b o, base.get? b = some o → s.heap.get? b = some o := fun b o hbo => (e0.bs b o hbo).1
  have inK : K.In s.heap := e0.mod.kin.keeps bk
  have fo := e0.mod.kin _ _ lk
  have nf : f ∉ frs outer := fun hm => by
    have z := (e0.funs.mem hm).1
    rw [fo] at z
    cases z
  have pin : L2H.PinOk outer H s (f, ⟨oc, od, .func (PySem.W.fnOf x qual (defArgs st0) (defBody st0) (defScope st0) .none kV doc pm an cdv ct), osl⟩) := ⟨bk _ _ fo, (e0.bs _ _ fo).2, nf, nofun⟩
  have cells : ∀ y ∈ ps.zip us, (defScope st0).names.lookup y.1 = some .local ∨ ((defScope st0).names.lookup y.1 = some .cell ∧ ((cellsFrom (s.heap.objs.size + 1) (defScope st0).names []).lookup y.1).isSome = true) := by
    rintro ⟨n, v⟩ hy
    exact (Sc.par n (List.of_mem_zip hy).1).elim .inl fun q => .inr ⟨q, PySem.W.cellsFrom_some _ _ _ (.inl q)⟩
  apply codeAny_call_function room.depth (inK _ _ lk) rfl Sc.co Sc.gen rfl (PySem.W.codeRec_of inK hcd)
  apply hbind
  apply wpAny_newFunctionEnv_cells Sc.kind cells
  intro env henv s1 hx
  subst henv
  refine ⟨(e0.mod.nolimit.keeps bk).keeps hx.toInCall.keep, codeAny_func ?_⟩
  have hI := L2H.inv_startH (CX := L2N.CX P w) (E := E) Sc pin e0 nv rv hx
  have run := (body cdv A outer s H E _ a (room.deeper _)).run [] s1 _ H _ hI ⟨hot, body_reads hsp⟩
  refine wpAny_mono run ?_ fun e s' hs => hs
  intro fl s' hs
  cases fl with
  | next =>
    obtain ⟨_, _, J, q⟩ := hs
    exact ⟨.non, _, J.os, J.bare, J.base, J.hok, rfl, q⟩
  | ret u =>
    obtain ⟨v, _, _, J, r, q⟩ := hs
    exact ⟨v, _, J.os, J.bare, J.base, J.hok, r, q⟩
  | brk => exact hs.elim fun _ z => z.elim fun _ z => z.2.elim
  | cont => exact hs.elim fun _ z => z.elim fun _ z => z.2.elim
section
variable {X : Cx} {W : L2.WX} {a0 f : Addr} {fd : FuncData} {ps : List Str} {g : List D → S → R D} {k np : Nat} {x : Str} {e : Expr} {es : List Expr} {pos p : Pos}
def tMh (X : Cx) (W : L2.WX) (a0 : Addr) (m : Env → S → R D) : TE := fun σ H Q => Hot0 X.A a0 H ∧ tM X.K W m σ H Q
def tMAh (X : Cx) (W : L2.WX) (a0 : Addr) (m : Env → S → R (List D)) : TA := fun σ H Q => Hot0 X.A a0 H ∧ tMA X.K W m σ H Q
theorem me_callH {ms : Env → S → R (List D)} (Fn : FnGH X.prog X.w X.K X.mg X.base k f fd ps g) (hr : L2H.RoomH k X.A) (tk : L2N.Takes X W) (hg : Gl X x) (hm : X.mg x = some (.ref f)) (hk : PySem.W.keepIn X.K (.ref f) = true) (hb : Binds X.K fd ps []) (ha : PA X (e :: es) (tMA X.K W ms)) (hnp : ps.length = np := by rfl)
    (hdb : (x == ("__debug__" : Str)) = false := by decide) (he : starEach (e :: es) X.env = (false, eval e X.env) :: starEach es X.env := by rfl) (hpl : (backTo pos (starEach es X.env)).any (·.1) = false := by rfl) : PE X (.Call (.Name x p) (e :: es) [] pos) (tMh X W a0 (mCall (kCall np g) ms)) := by
  subst hnp
  constructor
  intro pins s σ H Q I ⟨hot, ι, env, st, er, r, h⟩
  refine wpAny_Call_Name_kw (ld_glob I hg hm (PySem.W.callWith_K (h₀ := X.base) I.ok.mod.kin hk (thn (ha.run pos pins s σ H (fun vs H1 => Hot0 X.A a0 H1 ∧ spD X.K ps.length g vs H1 Q (WE W σ)) I ?_) ?_) he hpl) hdb)
  · exact seqA er r h fun ι1 H1 vs ds st1 er1 s1 r1 e1 h1 => ⟨hot.stp r s1, kCall_sp r1 e1 h1⟩
  · rintro us s1 ⟨vs, H1, I1, rv, hot1, q⟩
    refine ⟨I1.kIn, ?_⟩
    have b := hb s1 us I1.kIn (by rw [List.append_nil, ← rv.length]; exact q.1)
    rw [List.append_nil] at b
    refine wpAny_call (codeAny_mono (Fn.go X.A X.stack s1 H1 ⟨us, []⟩ us vs Q (WE W σ) a0 hr hot1 I1.env0 b rv q) ?_)
    intro r s' hq
    cases r with
    | error e => exact L2N.passAt tk σ pins H1 s1 e s' I1 hq
    | ok fl =>
      cases fl with
      | ret u => exact I1.after hq
      | next => exact False.elim hq
      | brk => exact False.elim hq
      | cont => exact False.elim hq
theorem ma_consH {m : Env → S → R D} {ms : Env → S → R (List D)} (ha : PE X e (tMh X W a0 m)) (hr : PA X es (tMA X.K W ms)) (hs : starEach (e :: es) X.env = (false, eval e X.env) :: starEach es X.env := by rfl) : PA X (e :: es) (tMAh X W a0 (mCons m ms)) :=
  (pa_cons ha hr hs).imp fun σ H Q ⟨hot, ι, env, st, er, r, h⟩ => ⟨hot, seqM er r h fun ι1 H1 v d st1 er1 s1 r1 e1 h1 => seqA er1 r1 h1 fun ι2 H2 vs ds st2 er2 s2 r2 e2 h2 => h2.ok r2 (.cons (e1.stp s2) e2)⟩
theorem me_lstH {ms : Env → S → R (List D)} (ha : PA X es (tMAh X W a0 ms)) : PE X (.List es pos) (tMh X W a0 (mLst ms)) :=
  (pe_lst ha).imp fun σ H Q ⟨hot, ι, env, st, er, r, h⟩ => ⟨hot, seqA er r h fun ι1 H1 vs ds st1 er1 s1 r1 e1 h1 => by
    obtain ⟨hc, h1⟩ := h1.ite
    exact ⟨by rw [e1.length]; exact hc, fun p hp => h1 ι1 _ _ (new_stp hp) (r1.new hp) (.lst (r1.fresh hp) upd_same (e1.stp (new_stp hp)))⟩⟩
theorem ms_retH {m : Env → S → R D} (he : PE X e (tMh X W a0 m)) : PS X (.Return (some e) pos) (tMSh X W a0 (sRet m)) :=
  (ps_ret he).imp fun D σ H ⟨hot, ι, env, st, er, r, h⟩ => ⟨hot, seqSM er r h fun ι1 H1 v d st1 er1 s1 r1 e1 h1 => h1 ι1 H1 v .refl r1 e1⟩
end
/-! ### try -/
inductive HdMH (X : Cx) (n : Str) : List ExceptHandler → List Hd → Prop
  | nil : HdMH X n [] []
  | cons {t : Expr} {f : Value → Option Bool} {p : Addr → Option Bool} {u : Env → S → R F} {b0 : Stmt} {suite : List Stmt} {pos' : Pos} {hds : List ExceptHandler} {l : List Hd} (hc : TestOk X t f) (hp : ∀ C b, p C = some b → f (.ref C) = some b)
      (hsu : ∀ (a : Addr) (pn : List (Addr × Obj)), PSs (X.suite a pn) (b0 :: suite) (tMSh (X.suite a pn) W0 a u)) (r : HdMH X n hds l) : HdMH X n (.ExceptHandler (some t) (some n) (b0 :: suite) pos' :: hds) ((p, u) :: l)
section
variable {X : Cx} {W : L2.WX} {n : Str} {i : Nat} {body : List Stmt} {h0 : ExceptHandler} {hds : List ExceptHandler} {l : List Hd} {pos : Pos} {m : Env → S → R F}
theorem HdMH.hdx : ∀ {hds : List ExceptHandler} {l : List Hd}, HdMH X n hds l → ∃ l', HdX X n hds l' ∧ ∀ (En : Ends) (ι : List Addr) (H : Hp) (C : Addr) (f : Str) (x : D) (st : S), PostS X.K W ι H (handle X.N.length i l C f x st) En →
    ∀ ι' H' dd v (σ' : L2.St), Stp ι H ι' H' → Rel X.K ι' H' st → dd ∉ ι' → H' dd = some (.xd [(f, v)]) → Den X.K ι' H' v x → σ'.length = X.N.length → wMas X.K i W En l' (.ref C) (some dd) σ' H'
  | _, _, .nil => ⟨[], .nil, fun En ι H C f x st h ι' H' dd v σ' s r hn hx e _ => h ι' H' dd v σ' s r hn hx e⟩
  | _, _, .cons (f := g) (p := p) (u := u) hc hp hsu rr => by
    obtain ⟨l', h1, h2⟩ := HdMH.hdx rr
    refine ⟨_, .cons (ts := fun a D σ H => Hot0 (X.A.mark (some (.ref a))) a H ∧ tMS X.K W0 u D σ H) hc hsu h1, fun En ι H C f x st h ι' H' dd v σ' s r hn hx e hl => ?_⟩
    unfold handle at h
    split at h
    · rename_i hb
      refine ⟨true, hp C true hb, fun _ => ⟨C, dd, rfl, rfl, fun a na => ?_⟩, fun z => Bool.noConfusion z⟩
      have s2 : Stp ι' H' ι' (upd H' a (exw a C dd)) := new_stp na
      have ne : dd ≠ a := ne_of_none hx na
      exact ⟨⟨rfl, C, dd, upd_same⟩, ι', _, st, EnvR.caught hl (.exc (r.fresh na) upd_same hn (by rw [upd_ne ne]; exact hx) (e.stp s2)), r.new na, postS_drop (PostS.step (s.trans s2) h)⟩
    · rename_i hb
      exact ⟨false, hp C false hb, fun z => Bool.noConfusion z, fun _ => h2 En ι H C f x st h ι' H' dd v σ' s r hn hx e hl⟩
    · exact h.elim
theorem ms_tryH (hs : X.stack = X.env :: X.outer) (hf : X.env.frame = some X.env.locals) (hN : X.N.Nodup) (hi : X.N[i]? = some n) (hln : X.env.kindOf n = some .local) (tk : L2N.Takes X W) (hex : X.ex = [])
    (hb : ∀ (W : WX) (pn : List (Addr × Obj)) (xe : Value → Shared → Prop), L2N.Takes (X.tr pn xe) W → PassesOwn (model X.prog X.w) X.A X.env xe → PSs (X.tr pn xe) body (tMS X.K W m))
    (hh : HdMH X n (h0 :: hds) l) : PS X (.Try body (h0 :: hds) [] [] pos) (tMS X.K W (sTry X.N.length i m l)) := by
  obtain ⟨l', h1, h2⟩ := hh.hdx (W := W) (i := i)
  refine (ps_tryX (tb := fun W => tMS X.K (fun c d σ H => σ.length = X.N.length → W c d σ H) m) hs hf hN hi hln tk hex (fun W' pn xe tk' hp => hb _ pn xe (fun u s' z => tk' u s' ?_) hp) h1).imp fun D σ H ⟨ι, env, st, er, r, h⟩ => ?_
  · obtain ⟨a, B, sI, pins, σ, H, cls, d, e, I, nb, up, sky, na, os, ag, w⟩ := z
    exact ⟨a, B, sI, pins, σ, H, cls, d, e, I, nb, up, sky, na, os, ag, w I.len⟩
  · refine ⟨ι, env, st, er, r, ?_⟩
    unfold sTry at h
    revert h
    cases m env st with
    | ok f st1 => cases f <;> exact fun h => h
    | ex C f x st1 => exact fun h ι' H' dd v σ' s r hn hx e hl => h2 D ι H C f x st1 h ι' H' dd v σ' s r hn hx e hl
    | stuck => exact fun h => h
end
end MF
end
section
set_option Elab.async false
set_option linter.all false
set_option maxRecDepth 100000
set_option maxHeartbeats 4000000
/-! MXR: tuple(a dict without entries), {x: x}. -/
namespace MF
open PySem PySem.Spec PyProof.Rows L2
section
variable {prog : Program} {w : World} {A : Around} {E : Value → Shared → Prop} {s : Shared} {T : String} {r d : Addr} {n : Nat} {Pr : Nat → Value → Prop} {OK : Heap → Prop}
theorem tuple_of_src {Q : Value → Shared → Prop} (src : PySem.W.KdlSrc prog w T r d n Pr OK) (hh : A.handled = none) (hok : OK s.heap) (hn : n ≤ sizeLine) (hT : (Value.type T == Value.type "tuple") = false)
    (hQ : ∀ (h' : Heap) (tk : Nat) (acc : Array Value), (∀ b o, s.heap.get? b = some o → h'.get? b = some o) → ItemsOf Pr acc n → Q (.ref h'.objs.size) { s with heap := h'.push { cls := .type "tuple", data := .seq acc }, toks := tk }) :
    wpAny (model prog w) A (call (.type "tuple") [.ref r]) Q E s := by
  have code : codeAny (model prog w) A.in1 (.call (.builtin "tuple.__new__") ⟨[.type "tuple", .ref r], []⟩) (wants (fun obj s₁ => s₁.TypeIs obj "tuple" ∧ Q obj s₁) E) s := by
    refine codeAny_of_tree ?_
    show wpAny _ A.in1.in1 (do checkBuiltinCall "tuple.__new__" ⟨[.type "tuple", .ref r], []⟩; again (.builtin "tuple.__new__" ⟨[.type "tuple", .ref r], []⟩)) _ _ s
    refine wpAny_bind (wpAny_of_eq (F.newCall_tuple_1 _) (wpAny_pure ⟨plainId_quiet F.plain_tuple_new _, codeAny_builtin F.entry_tuple_new ?_⟩))
    rw [Around.under_plainId F.plain_tuple_new _]
    have hsub := sub_tuple_self
    have hinit := init_tuple_lookup
    have hmh := madeHere_tuple
    have hTI : s.TypeIs (.ref r) T := src.type s hok
    have hh1 : A.in1.in1.handled = none := hh
    wp_walk using wpAny_typeOf hTI, PySem.W.kdu_collect (A := A.in1.in1) src hh1 hok hn
    intro h' tk acc hk hacc
    show wpAny _ _ (Builtin.Tuple.tupleExact acc.toList.toArray >>= fun v => ret v) _ _ _
    unfold Builtin.Tuple.tupleExact
    have e : acc.toList.toArray = acc := by simp
    rw [e]
    exact wpAny_bind (wpAny_newObj_type (wpAny_pure ⟨⟨_, Heap.get?_push_size _ rfl, rfl⟩, hQ h' tk acc hk hacc⟩) (by show acc.size ≤ sizeLine; rw [hacc.1]; exact hn))
  exact callType_codes (Q₁ := fun obj s₁ => s₁.TypeIs obj "tuple" ∧ Q obj s₁) F.called_tuple (F.typeCall_tuple_1 _) F.entry_object_init code fun obj s₁ h₁ =>
    ⟨h₁.1, F.args_object_init_2 obj _, object_init_meets F.called_tuple.init.lookup F.called_tuple.made (by decide) prog w A.in1 _ s₁ ⟨h₁.1, rfl, h₁.2⟩⟩
end
theorem items0 {Pr : Nat → Value → Prop} {acc : Array Value} (h : ItemsOf Pr acc 0) : acc = #[] := Array.eq_empty_of_size_eq_zero h.1
section
variable {X : Cx} {W : L2.WX} {e : Expr} {pos p : Pos} {m : Env → S → R D}
theorem call_tupI0 (hc : X.calm = true) : CallR X (.type "tuple") (fun xs H Q => ∃ a, xs = [.ref a] ∧ H a = some (.dK []) ∧ ∀ q, H q = none → Q (.ref q) (upd H q (.tup []))) := by
  rintro pins s σ H xs us Q I r ⟨a, rfl, ha, q⟩
  obtain ⟨u, rfl, rx⟩ := vals1 r
  obtain rfl : u = Value.ref a := rx
  obtain ⟨z, lo, vs, rk, hd⟩ := (show ObjOk X.prog X.w H s.heap a (.dK []) from I.hok a _ ha)
  cases rk
  obtain ⟨ep, hat⟩ := hd.dictAt
  refine tuple_of_src (PySem.W.kdl_dict (knd := mixKind X.prog X.w) (kvs := []) (ep := ep) lo) (I.ok.hd hc) hat (Nat.zero_le _) (by decide) fun h' tk acc hk hacc => ?_
  cases items0 hacc
  have I1 : Inv X pins σ H { s with heap := h', toks := tk } := I.kept hk
  exact ⟨.ref h'.objs.size, upd H h'.objs.size (.tup []), I1.laid (t' := tk) (fun b o k => Heap.get?_push_of_some _ k) (Nat.le_refl _) (show ObjOk X.prog X.w _ _ _ (.tup []) from ⟨Nat.zero_le _, [], .nil, IsTup.new _ _⟩), rfl, q _ (I1.hok.fresh (Nat.le_refl _))⟩
def gTupI0 (ds : List D) (st : S) : R D := match ds with
  | [d] => match asI st d with
    | some [] => .ok (.tup []) st
    | _ => .stuck
  | _ => .stuck
theorem cl_tupI0 {K : PySem.W.Frag} : Cl K (fun xs H Q => ∃ a, xs = [V.ref a] ∧ H a = some (.dK []) ∧ ∀ q, H q = none → Q (.ref q) (upd H q (.tup []))) gTupI0 := by
  intro W σ ι H st vs ds Q r e h
  unfold gTupI0 at h
  split at h
  · rename_i d
    obtain ⟨v, rfl, ev⟩ := denl1 e
    split at h
    · rename_i hd
      obtain ⟨a, fs, rfl, ha, hs⟩ := asI_den r ev hd
      cases hs
      exact ⟨a, rfl, ha, fun q hq => h ι _ _ (new_stp hq) (r.new hq) (.tup ⟨r.fresh hq, upd_same⟩ .nil)⟩
    · exact h.elim
  · exact h.elim
/-- {x: y} of two names that hold ints -/
def mDisp2 (i j : Nat) : Env → S → R D := fun env st => match env[i]?, env[j]? with
  | some (some (.int a)), some (some (.int b)) => .ok (.loc st.length) (st ++ [.dik [(.inl a, .int b)]])
  | _, _ => .stuck
theorem me_disp2 {i j : Nat} {x y : Str} {p1 p2 : Pos} (hi : X.N[i]? = some x := by rfl) (hv : Vis X.env.scope x := by first | exact Or.inl rfl | exact Or.inr (Or.inl rfl)) (hj : X.N[j]? = some y := by rfl) (hw : Vis X.env.scope y := by first | exact Or.inl rfl | exact Or.inr (Or.inl rfl)) (hd : (x == ("__debug__" : Str)) = false := by decide) (hcd : (x == ("__classdict__" : Str)) = false := by decide)
    (hd2 : (y == ("__debug__" : Str)) = false := by decide) (hcd2 : (y == ("__classdict__" : Str)) = false := by decide) : PE X (.Dict [some (.Name x p1)] [.Name y p2] pos) (tM X.K W (mDisp2 i j)) :=
  (pe_disp (pps_cons (pe_var hi hv hd hcd) (pe_var hj hw hd2 hcd2) pps_nil) rfl rfl (by simp) (by show 1 ≤ 15; decide)).imp fun σ H Q ⟨ι, env, st, er, r, h⟩ p hp => by
    unfold mDisp2 at h
    split at h
    · rename_i a b ea eb
      obtain ⟨va, ga, da⟩ := er.get i _ ea
      obtain ⟨vb, gb, db⟩ := er.get j _ eb
      cases da; cases db
      refine ⟨_, ga, _, gb, upd_same, [(.inl a, .int b)], rfl, (by show 1 ≤ 15; decide), ?_⟩
      rw [upd_upd]
      refine h _ _ _ (newl_stp r hp) (r.newl hp (ob := .dik [(.inl a, .int b)]) ⟨_, upd_same, .cons (.int b) .nil⟩) (.loc ?_)
      rw [← r.len, List.getElem?_append_right (Nat.le_refl _), Nat.sub_self]
      rfl
    · exact h.elim
end
end MF
end
section
set_option Elab.async false
set_option linter.all false
set_option maxRecDepth 100000
set_option maxHeartbeats 4000000
/-! MXU: a tuple times 1 is itself. -/
namespace MF
open PySem PySem.Spec PyProof.Rows L2
theorem tuple_mul1 (l : Addr) (items : Array Value) (n : Nat) (dd : Option Addr) (sl : Array (Option Value)) (u : Tok) :
    Meets (Builtin.«tuple.__mul__» ⟨[.ref l, .int 1 u], []⟩) (fun _ R s => s.heap.get? l = some { cls := .type "tuple", dict := dd, data := .seq items n, slots := sl } ∧ R (.ok (.ret (Value.ref l))) s) :=
  .of_wp fun prog w A R s h => by
    obtain ⟨hp, g, d, tk, os⟩ := s
    obtain ⟨hl, h⟩ := h
    have f1 := AutoSeq1.idx_int
    have c1 : (items.isEmpty || (1 : Int) == 1) = true := by simp
    have c0 : (decide ((1 : Int) < -(2 ^ 63)) || decide ((1 : Int) ≥ 2 ^ 63)) = false := by decide
    wp_walk using wpAny_loadPart' hl
    repeat (first
      | (refine wpAny_ite_false (decide_eq_false (by rw [c0]; exact Bool.false_ne_true)) ?_; wp_walk using wpAny_loadPart' hl)
      | (refine wpAny_ite_true (decide_eq_true (by rw [c1])) ?_; wp_walk using wpAny_loadPart' hl))
    exact ⟨_, rfl, h⟩
def rRepT1 (K : PySem.W.Frag) : R2 := fun x y H Q => ∃ l xs, x = .ref l ∧ y = .int 1 ∧ SqT K H l xs ∧ Q (.ref l) H
theorem op_repT1 {X : Cx} : OpR X (binaryOp .Mult) (rRepT1 X.K) := by
  rintro pins s σ H x y v u Q I rx ry ⟨l, xs, rfl, rfl, hT, q⟩
  cases rx
  obtain ⟨t, rfl⟩ := ry
  obtain ⟨its, r, ⟨⟨cls, dd, data, sl⟩, ho, hc, n, hd⟩, hs⟩ := I.tuple hT
  simp only at hc hd
  subst hc hd
  exact wpAny_binaryOp_repeat_ref (T := "tuple") (U := "int") (by decide) ⟨_, ho, rfl⟩ (fun s' => typeIs_int s' 1 t) noFill_tuple_mul F.fills_int_mul F.slot_int_rmul repeat_tuple F.slot_int_index.lookup
    (call_meets F.slot_int_rmul (typeIs_int s 1 t) F.entry_int_rmul (F.args_int_rmul_2 _ _) (int_rmul_tuple 1 t l its.toArray n dd sl)
      ⟨ho, rfl, ⟨_, ho, rfl⟩, call_meets F.slot_tuple_mul ⟨_, ho, rfl⟩ F.entry_tuple_mul (F.args_tuple_mul_2 _ _) (tuple_mul1 l its.toArray n dd sl t) ⟨ho, ⟨.ref l, H, I, rfl, q⟩⟩⟩)
def gMulT (d e : D) (st : S) : R D := match d, e with
  | .tup xs, .int k => if k = 1 then .ok (.tup xs) st else gMul (.tup xs) (.int k) st
  | _, _ => .stuck
def rMulT (K : PySem.W.Frag) : R2 := fun x y H Q => rRepT1 K x y H Q ∨ rMulD K x y H Q
theorem op_mulT {X : Cx} : OpR X (binaryOp .Mult) (rMulT X.K) := opr_or op_repT1 op_mulD
theorem op2_mulT {K : PySem.W.Frag} : Op2 K (rMulT K) gMulT := by
  intro W σ ι H st x y d e Q r hx hy h
  unfold gMulT at h
  split at h
  · rename_i xs k
    by_cases hk : k = 1
    · rw [if_pos hk] at h
      subst hk
      have ey := int_den hy
      subst ey
      cases hx with
      | tup hq hs => exact .inl ⟨_, _, rfl, rfl, hq.sq, h.ok r (.tup hq hs)⟩
    · rw [if_neg hk] at h
      exact .inr (op2_mul W σ ι H st x y _ _ Q r hx hy h)
  · exact h.elim
/-- a def's function, what it leaves behind being kept as it is -/
def fnP (nl : Nat) (body : Env → S → R F) (ds : List D) (st : S) : R D := match body (ds.map some ++ List.replicate (nl - ds.length) none) st with
  | .ok (.rt d) st' => .ok d st'
  | .ok (.nx _) st' => .ok .non st'
  | .ok _ _ => .stuck
  | .ex c f p st' => .ex c f p st'
  | .stuck => .stuck
theorem body_readsP {K : PySem.W.Frag} {N : List Str} {np : Nat} {m : Env → S → R F} {vs : List V} {H : Hp} {Q : VK} {E : XK} (h : spD K np (fnP N.length m) vs H Q E) : tMS K (fun c d _ H' => E c d H') m { nx := fun _ H' => Q .non H', rt := Q } (L2.start N vs) H := by
  obtain ⟨_, ι, ds, st, e, r, p⟩ := h
  refine ⟨ι, _, st, EnvR.start e, r, ?_⟩
  unfold fnP at p
  revert p
  cases m (ds.map some ++ List.replicate (N.length - ds.length) none) st with
  | ok f st' =>
    cases f with
    | nx env => exact fun p ι' H' σ' s r' e' => p ι' H' _ s r' .non
    | rt d => exact fun p => p
    | bk env => exact fun p => p.elim
    | ct env => exact fun p => p.elim
  | ex c f p st' => exact fun p ι' H' dd v σ' s r' hd hx e' => p ι' H' dd v s r' hd hx e'
  | stuck => exact fun p => p
theorem fnG_ofP {P : Program} {w : World} {K : PySem.W.Frag} {mg : Str → Option Value} {base : Heap} {k : Nat} {x qual : Str} {st0 : Stmt} {f : Addr} {fd : FuncData} {N ps : List Str} {m : Env → S → R F} (Fn : Fun K x qual st0 f fd) (Sc : FnScope N ps (defScope st0))
    (body : ∀ (cdv : Value) (A : Around) (outer : List PySem.Env) (s : Shared) (H : Hp) (E : XK), Room k (A.deeper (envOfC qual (defScope st0) s.heap.objs.size f cdv)) → (A.deeper (envOfC qual (defScope st0) s.heap.objs.size f cdv)).guards = some [] →
      PSs (cxOf (L2N.CX P w) P w K mg base N qual (defScope st0) f cdv A outer s H E) (defBody st0) (tMS K (fun c d _ H' => E c d H') m)) : FnG P w K mg base (k + 1) f fd ps (fnP N.length m) := by
  obtain ⟨oc, od, kV, doc, pm, an, cdv, ct, osl, rfl, lk, hcd⟩ := Fn.ex
  constructor
  intro A outer s H args us vs Q E room hgd e0 hbind rv hsp
  have nv : vs.length = ps.length := hsp.1
  have bk : ∀ b o, base.get? b = some o → s.heap.get? b = some o := fun b o hbo => (e0.bs b o hbo).1
  have inK : K.In s.heap := e0.mod.kin.keeps bk
  have cells : ∀ y ∈ ps.zip us, (defScope st0).names.lookup y.1 = some .local ∨ ((defScope st0).names.lookup y.1 = some .cell ∧ ((cellsFrom (s.heap.objs.size + 1) (defScope st0).names []).lookup y.1).isSome = true) := by
    rintro ⟨n, v⟩ hy
    exact (Sc.par n (List.of_mem_zip hy).1).elim .inl fun q => .inr ⟨q, PySem.W.cellsFrom_some _ _ _ (.inl q)⟩
  apply codeAny_call_function room.depth (inK _ _ lk) rfl Sc.co Sc.gen rfl (PySem.W.codeRec_of inK hcd)
  apply hbind
  apply wpAny_newFunctionEnv_cells Sc.kind cells
  intro env henv s1 hx
  subst henv
  refine ⟨(e0.mod.nolimit.keeps bk).keeps hx.toInCall.keep, codeAny_func ?_⟩
  have run := (body cdv A outer s H E (room.deeper _) hgd).run [] s1 _ H _ (inv_start (CX := L2N.CX P w) (E := E) Sc room.hd e0 nv rv hx) (body_readsP hsp)
  refine wpAny_mono run ?_ fun e s' hs => hs
  intro fl s' hs
  cases fl with
  | next =>
    obtain ⟨_, _, J, q⟩ := hs
    exact ⟨.non, _, J.os, J.bare, J.base, J.hok, rfl, q⟩
  | ret u =>
    obtain ⟨v, _, _, J, r, q⟩ := hs
    exact ⟨v, _, J.os, J.bare, J.base, J.hok, r, q⟩
  | brk => exact hs.elim fun _ z => z.elim fun _ z => z.2.elim
  | cont => exact hs.elim fun _ z => z.elim fun _ z => z.2.elim
end MF
end
section
set_option Elab.async false
set_option linter.all false
set_option maxRecDepth 100000
set_option maxHeartbeats 4000000
/-! MXS: a def that makes lambdas of its own, puts them into a list and calls one of them. -/
namespace MF
open PySem PySem.Spec PyProof.Rows L2
structure LamK where
  params : Arguments
  body : Expr
  scope : Scope
/-- the functions fs are those of the lambdas ls -/
def AskAt (X : Cx) (q : Str) (ls : List LamK) (H : Hp) (fs : List Addr) : Prop :=
  fs.length = ls.length ∧ ∀ (i : Nat) l f, ls[i]? = some l → fs[i]? = some f → ∃ c' pm ctv, H f = some (atO f (lamObj X q l.params l.body l.scope pm c' ctv)) ∧ H c' = some (LamX.CodeO c' q)
def lowE (n : Nat) (env : Env) : Bool := env.all fun o => match o with
  | some d => d.low n
  | none => true
theorem EnvR.cut {K : PySem.W.Frag} {ι : List Addr} {H : Hp} {σ : L2.St} {env : Env} {n : Nat} (e : EnvR K ι H σ env) (h : lowE n env = true) : EnvR K (ι.take n) H σ env :=
  ⟨e.len, fun i d hi => by
    obtain ⟨v, h1, h2⟩ := e.get i d hi
    exact ⟨v, h1, h2.cut ((List.all_eq_true.mp h) (some d) (List.mem_of_getElem? hi))⟩⟩
structure AskS (X : Cx) (P : Addr) (q : Str) (k : Nat) (ls : List LamK) (ι0 : List Addr) (H0 : Hp) (st0 : S) (env : Env) (σ : L2.St) (H : Hp) : Prop where
  ex : ∃ La fs, Stp ι0 H0 (ι0 ++ [La]) H ∧ Rel X.K (ι0 ++ [La]) H (st0 ++ [.lst (fs.map D.adr)]) ∧ EnvR X.K (ι0 ++ [La]) H σ (env.set k (some (.loc st0.length))) ∧ AskAt X q ls H fs
  len : ι0.length = st0.length
  tab : hasTab P q st0 = true
  emp : env[k]? = some none
/-- the state between the statements that make the lambdas; mf: what is left to be done, over the state ahead of them -/
def tAsk (X : Cx) (W : WX) (P : Addr) (q : Str) (k : Nat) (ls : List LamK) (mf : Env → S → R F) : TS := fun E σ H => ∃ ι0 H0 st0 env, PostS X.K W ι0 H0 (mf env st0) E ∧ AskS X P q k ls ι0 H0 st0 env σ H
theorem hasTab_app {p : Addr} {q : Str} {st st' : S} (h : hasTab p q st = true) : hasTab p q (st ++ st') = true := by
  unfold hasTab at h ⊢
  rw [List.any_append, h, Bool.true_or]
section
variable {X : Cx} {W : WX} {P c : Addr} {q : Str} {k : Nat} {ls : List LamK} {l : LamK} {mf : Env → S → R F} {nm : Str} {p1 p2 ap lp cp ep : Pos} {rest : List Stmt}
theorem AskAt.keep {H H1 : Hp} {fs : List Addr} (a : AskAt X q ls H fs) (k : ∀ b φ, H b = some (.ext φ) → H1 b = some (.ext φ)) : AskAt X q ls H1 fs :=
  ⟨a.1, fun i l f h1 h2 => let ⟨c', pm, ctv, h3, h4⟩ := a.2 i l f h1 h2; ⟨c', pm, ctv, k _ _ h3, k _ _ h4⟩⟩
theorem AskAt.snoc {H : Hp} {fs : List Addr} {f c' : Addr} {pm ctv : Value} (a : AskAt X q ls H fs) (h3 : H f = some (atO f (lamObj X q l.params l.body l.scope pm c' ctv))) (h4 : H c' = some (LamX.CodeO c' q)) : AskAt X q (ls ++ [l]) H (fs ++ [f]) := by
  refine ⟨by rw [List.length_append, List.length_append, a.1]; rfl, fun i l' f' h1 h2 => ?_⟩
  by_cases hi : i < ls.length
  · rw [List.getElem?_append_left hi] at h1
    rw [List.getElem?_append_left (by rw [a.1]; exact hi)] at h2
    exact a.2 i l' f' h1 h2
  · have hi1 : i = ls.length := by
      have := (List.getElem?_eq_some_iff.mp h1).1
      rw [List.length_append] at this
      simp at this
      omega
    rw [hi1, List.getElem?_append_right (Nat.le_refl _), Nat.sub_self] at h1
    rw [hi1, ← a.1, List.getElem?_append_right (Nat.le_refl _), Nat.sub_self] at h2
    cases h1; cases h2
    exact ⟨c', pm, ctv, h3, h4⟩
theorem ask_step (hx : X.ex = []) (TB : LamX.TabB X.base X.mg c P) (hcode : X.env.code = .ref c) (hq : X.env.qual ++ "<lambda>" = q) (hdef : defaultsOf l.params X.env = ([], [])) (hL : LamX.LamS X.env.scope l.scope) (hN : X.N[k]? = some nm) (hv : Vis X.env.scope nm) (hsz : ls.length < sizeLine)
    (hr : PSs X rest (tAsk X W P q k (ls ++ [l]) mf)) (hd : (nm == ("__debug__" : Str)) = false := by decide) (hcd : (nm == ("__classdict__" : Str)) = false := by decide)
    (hs : swapsWith (.Call (.Attribute (.Name nm p1) "append" ap) [.Lambda l.params l.body l.scope lp] [] cp) none ep.line X.env = pure false := by rfl) (hbase : attributeBase (.Name nm p1) "append" X.env (eval (.Name nm p1) X.env) = eval (.Name nm p1) X.env := by rfl) (hline : (ap.endLine == cp.line) = true := by rfl) :
    PSs X (.Expr (.Call (.Attribute (.Name nm p1) "append" ap) [.Lambda l.params l.body l.scope lp] [] cp) ep :: rest) (tAsk X W P q k ls mf) := by
  have lam := pe_lamF (X := X) (c := c) (P := P) (q := q) (params := l.params) (body := l.body) (scope := l.scope) (pos := lp) hx TB hcode hq hdef fun I => hL.has I.ok
  have call := pe_bm (X := X) (cpos := cp) (apos := ap) PySem.F.plainAttrs_list PySem.F.slot_list_append PySem.F.type_list_append mt_append (pe_var (pos := p1) hN hv hd hcd) (pa_cons lam pa_nil (by rfl)) hbase rfl hline rfl rfl
  refine (pss_cons (ps_expr (pos := ep) call hs) hr).imp fun E σ H ⟨ι0, H0, st0, env, post, ⟨La, fs, s, r, er, ask⟩, hlen, tab, emp⟩ => ?_
  have hk := (List.getElem?_eq_some_iff.mp emp).1
  obtain ⟨va, hva, dva⟩ := er.get k (.loc st0.length) (by rw [List.getElem?_set_self hk])
  have hLa : (ι0 ++ [La])[st0.length]? = some La := by rw [← hlen, List.getElem?_append_right (Nat.le_refl _), Nat.sub_self]; rfl
  have hOb : (st0 ++ [Ob.lst (fs.map D.adr)])[st0.length]? = some (.lst (fs.map D.adr)) := by rw [List.getElem?_append_right (Nat.le_refl _), Nat.sub_self]; rfl
  obtain ⟨xs, hxs, dxs⟩ := r.obs _ _ _ hLa hOb
  have exs : xs.length = fs.length := by rw [dxs.length, List.length_map]
  have eva : va = .ref La := by
    cases dva with
    | loc h => rw [hLa] at h; cases h; rfl
  subst eva
  have tab' := hasTab_app (st' := [Ob.lst (fs.map D.adr)]) tab
  obtain ⟨j, hj, hsj⟩ := hasTab_at r tab'
  obtain ⟨_, ps1, g1, g2, g3⟩ := r.obs j _ _ hj hsj
  have tabS : LamX.TabS H P q := ⟨ps1, g1, g2, fun pos cv hc => let ⟨c, a1, _, a3⟩ := g3 pos cv hc; ⟨c, a1, a3⟩⟩
  refine ⟨.ref La, hva, .inl ⟨rfl, xs, .of hxs⟩, tabS, fun f c' pm ctv H1 kp T nf hco => ?_⟩
  obtain ⟨sT, rT⟩ := r.table tab' kp T
  have s2 : Stp (ι0 ++ [La]) H (ι0 ++ [La]) (upd H1 f (atO f (lamObj X q l.params l.body l.scope pm c' ctv))) := sT.trans (new_stp nf)
  have r2 := rT.new (o := atO f (lamObj X q l.params l.body l.scope pm c' ctv)) nf
  have keepX : ∀ b φ, H b = some (.ext φ) → upd H1 f (atO f (lamObj X q l.params l.body l.scope pm c' ctv)) b = some (.ext φ) := fun b φ e => (s2.keep b _ (r.ext_out e) (fun _ => ext_tbl) e).2
  have nfL : f ≠ La := fun z => by
    have hb := kp La (.lst xs) (fun z' => by rw [← z', hxs] at g1; cases g1) hxs
    rw [← z, nf] at hb
    cases hb
  have hL2 : upd H1 f (atO f (lamObj X q l.params l.body l.scope pm c' ctv)) La = some (.lst xs) := by
    rw [upd_ne (Ne.symm nfL)]
    exact kp La _ (fun z => by rw [← z, hxs] at g1; cases g1) hxs
  refine ⟨La, xs, .ref f, rfl, rfl, hL2, by rw [exs, ask.1]; exact hsz, ι0, H0, st0, env, post, ⟨La, fs ++ [f], (s.trans s2).trans (chg_stp hLa), ?_, (er.stp s2).stp (chg_stp hLa), ?_⟩, hlen, tab, emp⟩
  · have r3 := r2.chg (o := .lst (xs ++ [.ref f])) hLa (ob := .lst (fs.map D.adr ++ [.adr f])) ⟨xs ++ [.ref f], upd_same, ((dxs.stp s2).append (.cons (.adr f) .nil)).stp (chg_stp hLa)⟩
    rw [List.set_append_right _ _ (Nat.le_refl _), Nat.sub_self] at r3
    rw [List.map_append]
    exact r3
  · have nc' : c' ≠ f := fun z => by rw [z, nf] at hco; cases hco
    have ncL : c' ≠ La := fun z => by
      have hb := kp La (.lst xs) (fun z' => by rw [← z', hxs] at g1; cases g1) hxs
      rw [← z, hco] at hb
      cases hb
    exact ((ask.keep keepX).snoc (c' := c') (pm := pm) (ctv := ctv) upd_same (by rw [upd_ne nc']; exact hco)).keep fun b φ e => by
      rw [upd_ne (fun z => by rw [z, hL2] at e; cases e)]
      exact e
/-- the first one: a list of it -/
def mfAsk (P : Addr) (q : Str) (k : Nat) (mf : Env → S → R F) : Env → S → R F := fun env st => if hasTab P q st = true ∧ k < env.length then mf (env.set k none) st else .stuck
theorem ask_first (hx : X.ex = []) (TB : LamX.TabB X.base X.mg c P) (hcode : X.env.code = .ref c) (hq : X.env.qual ++ "<lambda>" = q) (hdef : defaultsOf l.params X.env = ([], [])) (hL : LamX.LamS X.env.scope l.scope) (hN : X.N[k]? = some nm) (hnd : X.N.Nodup) (hl : X.env.scope.names.lookup nm = some .local)
    (hr : PSs X rest (tAsk X W P q k [l] mf)) (hs : swapsWith (.List [.Lambda l.params l.body l.scope lp] p2) (some (.Name nm p1)) ep.line X.env = pure false := by rfl) :
    PSs X (.Assign [.Name nm p1] (.List [.Lambda l.params l.body l.scope lp] p2) ep :: rest) (tMS X.K W (mfAsk P q k mf)) := by
  have lam := pe_lamF (X := X) (c := c) (P := P) (q := q) (params := l.params) (body := l.body) (scope := l.scope) (pos := lp) hx TB hcode hq hdef fun I => hL.has I.ok
  refine (pss_cons (ps_set hnd hN (.inl hl) (pe_lst (pos := p2) (pa_cons lam pa_nil (by rfl))) hs (.inr hl)) hr).imp fun E σ H ⟨ι, env, st, er, r, h⟩ => ?_
  unfold mfAsk at h
  split at h
  · rename_i hc
    obtain ⟨hT, hlt⟩ := hc
    obtain ⟨j, hj, hsj⟩ := hasTab_at r hT
    obtain ⟨_, ps1, g1, g2, g3⟩ := r.obs j _ _ hj hsj
    refine ⟨⟨ps1, g1, g2, fun pos cv hc => let ⟨c, a1, _, a3⟩ := g3 pos cv hc; ⟨c, a1, a3⟩⟩, fun f c' pm ctv H1 kp T nf hco => ?_⟩
    obtain ⟨sT, rT⟩ := r.table hT kp T
    have s2 : Stp ι H ι (upd H1 f (atO f (lamObj X q l.params l.body l.scope pm c' ctv))) := sT.trans (new_stp nf)
    have r2 := rT.new (o := atO f (lamObj X q l.params l.body l.scope pm c' ctv)) nf
    have nc' : c' ≠ f := fun z => by rw [z, nf] at hco; cases hco
    refine ⟨Nat.succ_le_of_lt (by rw [sizeLine_eq]; decide), fun p hp => ?_⟩
    have s3 := newl_stp (o := .lst [V.ref f]) r2 hp
    refine ⟨ι, H, st, env.set k none, h, ⟨p, [f], s2.trans s3, r2.newl hp (ob := .lst [.adr f]) ⟨[.ref f], upd_same, .cons (.adr f) .nil⟩, ?_, rfl, fun i l' f' h1 h2 => ?_⟩, r.len, hT, by rw [List.getElem?_set_self hlt]⟩
    · rw [List.set_set]
      refine ((er.stp s2).stp s3).set k (.loc ?_)
      rw [← r.len, List.getElem?_append_right (Nat.le_refl _), Nat.sub_self]
      rfl
    · cases i with
      | zero =>
        cases h1; cases h2
        exact ⟨c', pm, ctv, by rw [upd_ne (ne_of_none (upd_same (o := atO f (lamObj X q l.params l.body l.scope pm c' ctv)) (H := H1)) hp)]; exact upd_same, by
          have e2 : upd H1 f (atO f (lamObj X q l.params l.body l.scope pm c' ctv)) c' = some (LamX.CodeO c' q) := by rw [upd_ne nc']; exact hco
          rw [upd_ne (ne_of_none e2 hp)]
          exact e2⟩
      | succ i => cases h1
  · exact h.elim
end
/-! ### the call -/
def lamN (X : Cx) (A : Around) (outer : List PySem.Env) (s : Shared) (H : Hp) (E : XK) (scope : Scope) (f c' : Addr) : Cx :=
  (LamX.lamCx X A outer s H E scope f c').tr [] fun e s' => wpAny (model X.prog X.w) (A.deeper (LamX.lamEnv X scope s.heap.objs.size f c')) (leaving (LamX.lamEnv X scope s.heap.objs.size f c') e) (fun _ s2 => L2N.CX X.prog X.w outer H s E e s2) (fun e' s2 => L2N.CX X.prog X.w outer H s E e' s2) s'
structure AskL (X : Cx) (q : Str) (kk : Nat) (l : LamK) (m : Env → S → R D) : Prop where
  hL : LamX.LamS X.env.scope l.scope
  hb : ∀ (cl : List (Str × Addr)) (pm cv ctv : Value), bindArgs (PySem.W.kla_fn "<lambda>" q l.params l.body l.scope cl pm cv ctv) ⟨[], []⟩ = pure []
  hbody : ∀ (A : Around) (outer : List PySem.Env) (s : Shared) (H : Hp) (E : XK) (f c' : Addr), Room kk (A.deeper (LamX.lamEnv X l.scope s.heap.objs.size f c')) → (A.deeper (LamX.lamEnv X l.scope s.heap.objs.size f c')).guards = some [] → PE (lamN X A outer s H E l.scope f c') l.body (tM X.K (fun c d _ H' => E c d H') m)
inductive AskB (X : Cx) (q : Str) (kk : Nat) : List LamK → List (Env → S → R D) → Prop
  | nil : AskB X q kk [] []
  | cons {l : LamK} {m : Env → S → R D} {ls : List LamK} {ms : List (Env → S → R D)} (h : AskL X q kk l m) (r : AskB X q kk ls ms) : AskB X q kk (l :: ls) (m :: ms)
theorem AskB.get {X : Cx} {q : Str} {kk : Nat} : ∀ {ls : List LamK} {ms : List (Env → S → R D)} {n : Nat} {m : Env → S → R D}, AskB X q kk ls ms → ms[n]? = some m → ∃ l, ls[n]? = some l ∧ AskL X q kk l m
  | _, _, 0, _, .cons h _, e => by cases e; exact ⟨_, rfl, h⟩
  | _, _, n + 1, m, .cons _ r, e => AskB.get (n := n) r e
def mAskE (i : Nat) (ms : List (Env → S → R D)) : Env → S → R D := fun env st => if st.all (·.low st.length) = true ∧ lowE st.length env = true then (match env[i]? with
  | some (some (.int z)) => if 0 ≤ z then (match ms[z.toNat]? with
    | some m => m env st
    | none => .stuck) else .stuck
  | _ => .stuck) else .stuck
def tAskE (X : Cx) (W : WX) (P : Addr) (q : Str) (k : Nat) (ls : List LamK) (mE : Env → S → R D) : TE := fun σ H Q => ∃ ι0 H0 st0 env, Post X.K W (Den X.K) σ ι0 H0 (mE env st0) Q ∧ AskS X P q k ls ι0 H0 st0 env σ H
section
variable {X : Cx} {W : WX} {P : Addr} {q : Str} {k i kk : Nat} {ls : List LamK} {ms : List (Env → S → R D)} {nm nn : Str} {p1 p2 sp cp ep : Pos} {e : Expr} {mE : Env → S → R D}
theorem ask_pe (hq : X.env.qual ++ "<lambda>" = q) (hr : Room (kk + 1) X.A) (hgd : X.A.guards = some []) (tk : L2N.Takes X W) (B : AskB X q kk ls ms) (hN : X.N[k]? = some nm) (hv : Vis X.env.scope nm) (hNi : X.N[i]? = some nn) (hvi : Vis X.env.scope nn) (hik : k ≠ i)
    (hd : (nm == ("__debug__" : Str)) = false := by decide) (hcd : (nm == ("__classdict__" : Str)) = false := by decide) (hd2 : (nn == ("__debug__" : Str)) = false := by decide) (hcd2 : (nn == ("__classdict__" : Str)) = false := by decide)
    (ht : eval (.Call (.Subscript (.Name nm p1) (.Name nn p2) sp) [] [] cp) X.env = (do callWith cp (← eval (.Subscript (.Name nm p1) (.Name nn p2) sp) X.env) [] (backTo cp (starEach [] X.env)) (backToKw cp (keywordEach [] X.env))) := by rfl) :
    PE X (.Call (.Subscript (.Name nm p1) (.Name nn p2) sp) [] [] cp) (tAskE X W P q k ls (mAskE i ms)) := by
  constructor
  intro pins s σ H Q I ⟨ι0, H0, st0, env, post, ⟨La, fs, stp, r, er, ask⟩, hlen, tab, emp⟩
  unfold mAskE at post
  obtain ⟨⟨c1, c2⟩, post⟩ := post.ite
  split at post
  · rename_i z hz
    obtain ⟨h0, post⟩ := post.ite
    split at post
    · rename_i m hm
      obtain ⟨l, hl, al⟩ := B.get hm
      have hk := (List.getElem?_eq_some_iff.mp emp).1
      have hlt : z.toNat < fs.length := by rw [ask.1]; exact (List.getElem?_eq_some_iff.mp hl).1
      obtain ⟨f, hf⟩ : ∃ f, fs[z.toNat]? = some f := ⟨_, List.getElem?_eq_getElem hlt⟩
      have e1 : (env.set k (some (.loc st0.length)))[k]? = some (some (.loc st0.length)) := by rw [List.getElem?_set_self hk]
      have e2 : (env.set k (some (.loc st0.length)))[i]? = some (some (.int z)) := by rw [List.getElem?_set_ne hik]; exact hz
      have hOb : (st0 ++ [Ob.lst (fs.map D.adr)])[st0.length]? = some (.lst (fs.map D.adr)) := by rw [List.getElem?_append_right (Nat.le_refl _), Nat.sub_self]; rfl
      have ev : mBin gIx (mVar k) (mVar i) (env.set k (some (.loc st0.length))) (st0 ++ [.lst (fs.map D.adr)]) = .ok (.adr f) (st0 ++ [.lst (fs.map D.adr)]) := by
        have e3 : atI (fs.map D.adr) z = some (.adr f) := by
          unfold atI ixN
          have hlt2 : z < ((fs.map D.adr).length : Int) := by rw [List.length_map]; omega
          rw [if_pos h0, if_pos hlt2]
          show (fs.map D.adr)[z.toNat]? = some (D.adr f)
          rw [List.getElem?_map, hf]
          rfl
        have e4 : asR (st0 ++ [Ob.lst (fs.map D.adr)]) (.loc st0.length) = some (fs.map D.adr) := by
          show (match (st0 ++ [Ob.lst (fs.map D.adr)])[st0.length]? with
            | some (.lst xs) => some xs
            | _ => none) = _
          rw [hOb]
        unfold mBin mVar
        rw [e1, e2]
        show gIx (.loc st0.length) (.int z) _ = _
        unfold gIx
        show (match asR (st0 ++ [Ob.lst (fs.map D.adr)]) (.loc st0.length) with
          | some xs => (match atI xs z with
            | some x => (.ok x (st0 ++ [Ob.lst (fs.map D.adr)]) : R D)
            | none => .stuck)
          | none => .stuck) = _
        rw [e4]
        show (match atI (fs.map D.adr) z with
            | some x => (.ok x (st0 ++ [Ob.lst (fs.map D.adr)]) : R D)
            | none => .stuck) = _
        rw [e3]
      refine Call_ (thn ((me_ix (X := X) (W := W) (pos := sp) (me_var (pos := p1) k hN hv hd hcd) (me_var (pos := p2) i hNi hvi hd2 hcd2)).run pins s σ H (fun v H1 => v = .ref f ∧ ∃ ι2, Stp (ι0 ++ [La]) H ι2 H1 ∧ Rel X.K ι2 H1 (st0 ++ [.lst (fs.map D.adr)])) I ⟨_, _, _, er, r, ?_⟩) ?_) ht
      · rw [ev]
        exact fun ι' H' v s' r' e' => ⟨by cases e'; rfl, ι', s', r'⟩
      · rintro u s1 ⟨v, H1, I1, ru, rfl, ι2, s2, r2⟩
        obtain rfl : u = Value.ref f := ru
        have hι : ι2 = ι0 ++ [La] := (s2.pre.eq_of_length (by rw [r2.len, r.len])).symm
        subst hι
        obtain ⟨c', pm, ctv, hfo, hco⟩ := ask.2 _ l f hl hf
        have hf1 := (s2.keep f _ (r.ext_out hfo) (fun _ => ext_tbl) hfo).2
        have hc1 := (s2.keep c' _ (r.ext_out hco) (fun _ => ext_tbl) hco).2
        have of1 : s1.heap.get? f = some (lamObj X q l.params l.body l.scope pm c' ctv) := (I1.hok f _ hf1).1
        obtain ⟨⟨oc, vs, t, hoc, hdc, hvc⟩, _, _⟩ := I1.hok c' _ hc1
        have tk1 : (ι0 ++ [La]).take st0.length = ι0 := by rw [← hlen, List.take_left']; rfl
        have tk2 : (st0 ++ [Ob.lst (fs.map D.adr)]).take st0.length = st0 := by rw [List.take_left']; rfl
        have r0 : Rel X.K ι0 H1 st0 := by
          have z := r2.cut (n := st0.length) (by rw [tk2]; exact c1)
          rw [tk1, tk2] at z
          exact z
        have er0 : EnvR X.K ι0 H1 σ env := by
          have z : EnvR X.K (ι0 ++ [La]) H1 σ env := ⟨by rw [(er.stp s2).len, List.length_set], fun j d hj => by
            have hjk : k ≠ j := fun z => by rw [← z, emp] at hj; cases hj
            exact (er.stp s2).get j d (by rw [List.getElem?_set_ne hjk]; exact hj)⟩
          have z2 := z.cut (n := st0.length) c2
          rw [tk1] at z2
          exact z2
        have s0 : Stp ι0 H0 ι0 H1 := by
          have z := (stp.trans s2).cut
          rw [hlen, tk1] at z
          exact z
        have post1 := Post.step s0 post
        show wpAny _ _ (callWith cp (.ref f) [] (backTo cp (starEach [] X.env)) (backToKw cp (keywordEach [] X.env))) _ _ _
        refine PySem.W.callWith_F0 (first := []) ⟨_, _, _, _, of1⟩ ?_
        show wpAny _ _ (call (.ref f) []) _ _ _
        have rc : codeAny (model X.prog X.w) X.A (.call (.ref f) ⟨[], []⟩) (CR (L2N.CX X.prog X.w) X.stack X.prog X.w H1 s1 Q (WE W σ)) s1 := by
          refine PySem.W.kla_callFunE hr.depth of1 rfl al.hL.co al.hL.gen rfl ⟨c', oc, vs, t, rfl, hoc, hdc, hvc⟩ ?_
          rw [al.hb]
          refine wpAny_pure (wpAny_newFunctionEnv (fun y hy => (al.hL.own y hy).2) (fun y hy => absurd hy (by simp)) (fun h₁ hns hsb => ⟨I1.nolimit.fresh _ hsb, ?_⟩) al.hL.kind)
          have hqe : q = X.env.qual ++ "<lambda>" := hq.symm
          subst hqe
          show codeAny _ _ (.expr l.body (LamX.lamEnv X l.scope s1.heap.objs.size f c')) _ _
          have kp : ∀ b o, s1.heap.get? b = some o → h₁.get? b = some o := fun b o g => hsb.extBut b o (Nat.ne_of_lt (Heap.lt_size g)) (Heap.get?_push_of_some _ g)
          have J := LamX.lam_start2 (f := f) (c' := c') (E := WE W σ) (tk := s1.toks + ([] : List (Str × Value)).length) I1 al.hL I1.env0 hr.hd .refl hns kp
          have J2 : Inv (lamN X X.A X.stack s1 H1 (WE W σ) l.scope f c') [] σ H1 { s1 with heap := h₁, toks := s1.toks + ([] : List (Str × Value)).length } := J.toTry _
          refine PySem.W.kla_codeExpr (wpAny_mono ((al.hbody X.A X.stack s1 H1 (WE W σ) f c' (hr.deeper _) hgd).run [] _ σ H1 Q J2 ⟨ι0, env, st0, er0, r0, post1.wish fun c d H q => q⟩) (fun v s' hq => ?_) fun e s' hq => hq)
          obtain ⟨w', H', J', rv, q'⟩ := hq
          exact ⟨w', H', J'.os, J'.bare, J'.base, J'.hok, rv, q'⟩
        refine wpAny_call (codeAny_mono rc ?_)
        intro r s' hq
        cases r with
        | error e => exact L2N.passAt tk σ pins H1 s1 e s' I1 hq
        | ok fl =>
          cases fl with
          | ret u => exact I1.after hq
          | next => exact False.elim hq
          | brk => exact False.elim hq
          | cont => exact False.elim hq
    · exact post.elim
  · exact post.elim
theorem ask_end (he : PE X e (tAskE X W P q k ls mE)) : PSs X [.Return (some e) ep] (tAsk X W P q k ls (sRet mE)) :=
  pss_one ((ps_ret he).imp fun Dn σ H ⟨ι0, H0, st0, env, post, a⟩ => ⟨ι0, H0, st0, env, (seqS (ρ := Den X.K) (σ := σ) post).mono fun v H1 ⟨ι1, d, st1, s1, r1, e1, h1⟩ => h1 ι1 H1 v .refl r1 e1, a⟩)
end
end MF
end
section
set_option Elab.async false
set_option linter.all false
set_option maxRecDepth 100000
set_option maxHeartbeats 4000000
/-! MXT: small words for the late defs. -/
namespace MF
open PySem PySem.Spec PyProof.Rows L2
theorem hot_room {k : Nat} {A : Around} {m : Option Value} (h : L2H.RoomH k A) : L2H.RoomH k (A.mark m) := ⟨h.dp, h.un⟩
def lamE : Expr → LamK
  | .Lambda p b sc _ => ⟨p, b, sc⟩
  | _ => ⟨⟨[], [], none, [], [], none, []⟩, .Constant .none 0 ⟨0, 0, 0, 0⟩, ⟨.function, [], false, false, []⟩⟩
/-- the lambda of x = [lambda ..] and of x.append(lambda ..) -/
def lamK : Stmt → LamK
  | .Assign _ (.List (e :: _) _) _ => lamE e
  | .Expr (.Call _ (e :: _) _ _) _ => lamE e
  | _ => lamE (.Constant .none 0 ⟨0, 0, 0, 0⟩)
theorem p1_of {K : PySem.W.Frag} {xs : List Addr} {B : Addr} {f : Addr → Bool} {C : Addr} {b : Bool} (h : ∀ C ∈ xs, PySem.W.exmOne K (.ref C) (.ref B) = some (f C)) (e : (if C ∈ xs then some (f C) else none) = some b) : PySem.W.exmOne K (.ref C) (.ref B) = some b := by
  split at e
  · rename_i hc
    rw [h C hc, e]
  · cases e
theorem p5_of {K : PySem.W.Frag} {xs : List Addr} {B1 B2 B3 B4 B5 : Addr} {f1 f2 f3 f4 f5 : Addr → Bool} {C : Addr} {b : Bool} (h1 : ∀ C ∈ xs, PySem.W.exmOne K (.ref C) (.ref B1) = some (f1 C)) (h2 : ∀ C ∈ xs, PySem.W.exmOne K (.ref C) (.ref B2) = some (f2 C)) (h3 : ∀ C ∈ xs, PySem.W.exmOne K (.ref C) (.ref B3) = some (f3 C))
    (h4 : ∀ C ∈ xs, PySem.W.exmOne K (.ref C) (.ref B4) = some (f4 C)) (h5 : ∀ C ∈ xs, PySem.W.exmOne K (.ref C) (.ref B5) = some (f5 C)) (e : (if C ∈ xs then some (f1 C || f2 C || f3 C || f4 C || f5 C) else none) = some b) : PySem.W.exmAny K (.ref C) [.ref B1, .ref B2, .ref B3, .ref B4, .ref B5] = some b := by
  split at e
  · rename_i hc
    simp only [PySem.W.exmAny, h1 C hc, h2 C hc, h3 C hc, h4 C hc, h5 C hc, Bool.or_false]
    rw [← e]
    simp only [Bool.or_assoc]
  · cases e
/-- the rule of a def whose code object is known -/
theorem fnG_ofL {P : Program} {w : World} {K : PySem.W.Frag} {mg : Str → Option Value} {base : Heap} {k : Nat} {x qual : Str} {st0 : Stmt} {f c0 : Addr} {fd : FuncData} {N ps : List Str} {m : Env → S → R F} (Fn : FunL K x qual st0 f fd c0) (Sc : FnScope N ps (defScope st0))
    (body : ∀ (A : Around) (outer : List PySem.Env) (s : Shared) (H : Hp) (E : XK), Room k (A.deeper (envOfC qual (defScope st0) s.heap.objs.size f (.ref c0))) → (A.deeper (envOfC qual (defScope st0) s.heap.objs.size f (.ref c0))).guards = some [] →
      PSs (cxOf (L2N.CX P w) P w K mg base N qual (defScope st0) f (.ref c0) A outer s H E) (defBody st0) (tMS K (fun c d _ H' => E c d H') m)) : FnG P w K mg base (k + 1) f fd ps (fnD N.length m) := by
  obtain ⟨oc, od, kV, doc, pm, an, ct, osl, rfl, lk, hcd⟩ := Fn.ex
  constructor
  intro A outer s H args us vs Q E room hgd e0 hbind rv hsp
  have nv : vs.length = ps.length := hsp.1
  have bk : ∀ b o, base.get? b = some o → s.heap.get? b = some o := fun b o hbo => (e0.bs b o hbo).1
  have inK : K.In s.heap := e0.mod.kin.keeps bk
  have cells : ∀ y ∈ ps.zip us, (defScope st0).names.lookup y.1 = some .local ∨ ((defScope st0).names.lookup y.1 = some .cell ∧ ((cellsFrom (s.heap.objs.size + 1) (defScope st0).names []).lookup y.1).isSome = true) := by
    rintro ⟨n, v⟩ hy
    exact (Sc.par n (List.of_mem_zip hy).1).elim .inl fun q => .inr ⟨q, PySem.W.cellsFrom_some _ _ _ (.inl q)⟩
  apply codeAny_call_function room.depth (inK _ _ lk) rfl Sc.co Sc.gen rfl (PySem.W.codeRec_of inK hcd)
  apply hbind
  apply wpAny_newFunctionEnv_cells Sc.kind cells
  intro env henv s1 hx
  subst henv
  refine ⟨(e0.mod.nolimit.keeps bk).keeps hx.toInCall.keep, codeAny_func ?_⟩
  have run := (body A outer s H E (room.deeper _) hgd).run [] s1 _ H _ (inv_start (CX := L2N.CX P w) (E := E) Sc room.hd e0 nv rv hx) (body_reads hsp)
  refine wpAny_mono run ?_ fun e s' hs => hs
  intro fl s' hs
  cases fl with
  | next =>
    obtain ⟨_, _, J, q⟩ := hs
    exact ⟨.non, _, J.os, J.bare, J.base, J.hok, rfl, q⟩
  | ret u =>
    obtain ⟨v, _, _, J, r, q⟩ := hs
    exact ⟨v, _, J.os, J.bare, J.base, J.hok, r, q⟩
  | brk => exact hs.elim fun _ z => z.elim fun _ z => z.2.elim
  | cont => exact hs.elim fun _ z => z.elim fun _ z => z.2.elim
end MF
end
section
set_option Elab.async false
set_option linter.all false
set_option maxRecDepth 100000
set_option maxHeartbeats 4000000
/-! MXW: the facts behind the top. -/
namespace MF
open PySem PySem.Spec PyProof.Rows L2
section
variable {K : PySem.W.Frag} {fd : FuncData} {ps : List Str} {n : Nat}
theorem kb_plain (h : Binds K fd ps []) (hn : ps.length = n) : Kb K fd ps n [] (fun ds _ => ds) :=
  ⟨fun us _ => us, fun vs _ => vs, ⟨fun s us ws I l1 l2 => by
    have b := h s us I (by rw [List.append_nil, l1, hn])
    rw [List.append_nil] at b
    have e : ws = [] := List.eq_nil_of_length_eq_zero l2
    subst e
    exact b, fun r _ => r⟩, fun ι H vs zs ds es e _ => e⟩
theorem kb_d0 (h : ∃ ds, Vals ([] : List V) ds ∧ Binds K fd ps ds) (hn : ps.length = n) : Kb K fd ps n [] (fun ds _ => ds) := by
  obtain ⟨ds, r, b⟩ := h
  cases r
  exact kb_plain b hn
theorem kb_d1 {e : Addr} (h : ∃ ds, Vals [V.ref e] ds ∧ Binds K fd ps ds) (hn : ps.length = n + 1) (he : KTup K e []) : Kb K fd ps n [] (fun ds _ => ds ++ [.ctp []]) := by
  obtain ⟨ds, r, b⟩ := h
  refine ⟨fun us _ => us ++ ds, fun vs _ => vs ++ [V.ref e], ⟨fun s us ws I l1 l2 => ?_, fun r1 _ => r1.append r⟩, fun ι H vs zs xs es e1 _ => e1.append (.cons (.ctp he .nil) .nil)⟩
  have e : ws = [] := List.eq_nil_of_length_eq_zero l2
  subst e
  exact b s us I (by rw [List.length_append, l1, ← r.length, hn]; rfl)
end
/-- a def behind the top -/
def FTc (K : PySem.W.Frag) (x qual : Str) (st : Stmt) (f c : Addr) : Prop := ∃ fd, FunL K x qual st f fd c ∧ PySem.W.keepIn K (.ref f) = true
def FT (K : PySem.W.Frag) (x qual : Str) (st : Stmt) (f : Addr) : Prop := ∃ c, FTc K x qual st f c
section
variable {K : PySem.W.Frag} {x qual : Str} {st : Stmt} {f c e T : Addr} {fd : FuncData} {ps : List Str} {oc kV doc pm ct oc2 oc3 : Value} {od an od2 od3 : Option Addr} {osl osl2 osl3 : Array (Option Value)} {n2 n3 n m : Nat}
theorem ftc_mk (l : K.lookup f = some ⟨oc, od, .func (PySem.W.fnOf x qual (defArgs st) (defBody st) (defScope st) .none kV doc pm an (.ref c) ct), osl⟩) (hc : PySem.W.codeIn K (.ref c) qual = true) (hk : PySem.W.keepIn K (.ref f) = true) : FTc K x qual st f c :=
  ⟨_, ⟨oc, od, kV, doc, pm, an, ct, osl, rfl, l, hc⟩, hk⟩
theorem ft_mk (l : K.lookup f = some ⟨oc, od, .func (PySem.W.fnOf x qual (defArgs st) (defBody st) (defScope st) .none kV doc pm an (.ref c) ct), osl⟩) (hc : PySem.W.codeIn K (.ref c) qual = true) (hk : PySem.W.keepIn K (.ref f) = true) : FT K x qual st f := ⟨c, ftc_mk l hc hk⟩
theorem FT.fn (h : FT K x qual st f) : ∃ fd, Fun K x qual st f fd := by
  obtain ⟨c, fd, ⟨oc, od, kV, doc, pm, an, ct, osl, e, l, hc⟩, hk⟩ := h
  exact ⟨fd, ⟨oc, od, kV, doc, pm, an, .ref c, ct, osl, e, l, hc⟩, hk⟩
theorem FunL.binds (F : FunL K x qual st f fd c) (h : ∀ (kV doc pm : Value) (an : Option Addr) (cdv ct : Value) (us : List Value), us.length = ps.length → bindArgs (PySem.W.fnOf x qual (defArgs st) (defBody st) (defScope st) .none kV doc pm an cdv ct) ⟨us, []⟩ = pure (ps.zip us)) : Binds K fd ps [] := by
  obtain ⟨oc, od, kV, doc, pm, an, ct, osl, rfl, _, _⟩ := F.ex
  exact .all (h kV doc pm an (.ref c) ct)
theorem kb_kw {ks : List Str} (F : Fun K x qual st f fd) (h : ∀ (kV doc pm : Value) (an : Option Addr) (cdv ct : Value) (us ws : List Value), us.length = n → ws.length = ks.length → bindArgs (PySem.W.fnOf x qual (defArgs st) (defBody st) (defScope st) .none kV doc pm an cdv ct) ⟨us, ks.zip ws⟩ = pure (ps.zip (us ++ ws))) : Kb K fd ps n ks (fun ds zs => ds ++ zs) := by
  obtain ⟨oc, od, kV, doc, pm, an, cdv, ct, osl, rfl, _, _⟩ := F.ex
  exact ⟨fun us ws => us ++ ws, fun vs zs => vs ++ zs, ⟨fun s us ws I l1 l2 => .of_eq (h kV doc pm an cdv ct us ws l1 l2), fun r1 r2 => r1.append r2⟩, fun ι H vs zs ds es e1 e2 => e1.append e2⟩
/-- a def with one default, the empty tuple -/
def FD (K : PySem.W.Frag) (qual : Str) (st : Stmt) (f : Addr) : Prop := ∃ e fd, FunD K "__init__" qual (defArgs st) (defBody st) (defScope st) [.ref e] [] f fd ∧ KTup K e []
theorem fd_mk (l : K.lookup f = some ⟨oc, od, .func (PySem.W.fnOf "__init__" qual (defArgs st) (defBody st) (defScope st) (.ref T) kV doc pm an (.ref c) ct), osl⟩) (lT : K.lookup T = some ⟨oc2, od2, .seq #[.ref e] n2, osl2⟩) (le : K.lookup e = some ⟨.type "tuple", od3, .seq #[] n3, osl3⟩)
    (hc : PySem.W.codeIn K (.ref c) qual = true) (hk : PySem.W.keepIn K (.ref f) = true) : FD K qual st f :=
  ⟨e, _, ⟨⟨oc, od, .ref T, kV, doc, pm, an, .ref c, ct, osl, rfl, l, hc, .inr ⟨by simp, T, _, [.ref e], n2, rfl, lT, rfl, .cons rfl .nil⟩, .inl rfl⟩, hk⟩, _, #[], n3, le, rfl, rfl, Nat.zero_le _, .nil⟩
theorem kb_fd (F : FunD K "__init__" qual (defArgs st) (defBody st) (defScope st) [.ref e] [] f fd) (n j : Nat) (hn : n + ([V.ref e].length - j) = ps.length)
    (h : ∀ (T : Addr) (kV doc pm : Value) (an : Option Addr) (cdv ct : Value) (us its : List Value), us.length = n → its.length = [V.ref e].length →
      ∃ k, bindArgs (PySem.W.fnOf "__init__" qual (defArgs st) (defBody st) (defScope st) (.ref T) kV doc pm an cdv ct) ⟨us, []⟩ = seqItems? (.ref T) >>= k ∧ k (some its.toArray) = pure (ps.zip (us ++ its.drop j))) : ∃ ds, Vals ([V.ref e].drop j) ds ∧ Binds K fd ps ds := F.binds1 n j (by simp) hn h
end
/-! ### classes of errors -/
def XV (K : PySem.W.Frag) (C B : Addr) : Prop := ∃ nm q N bs sn sub ab col dd k0 k1 k2 k3 k5, K.lookup C = some (excClassObj nm q C N bs [.ref B, .type "ValueError", .type "Exception", .type "BaseException", .type "object"] true sn sub ab col dd k0 k1 k2 k3 k5 "ValueError.__new__")
def XK (K : PySem.W.Frag) (C : Addr) : Prop := ∃ nm q N bs sn sub ab col dd k0 k1 k2 k3 k5, K.lookup C = some (excClassObj nm q C N bs [.type "KeyError", .type "LookupError", .type "Exception", .type "BaseException", .type "object"] true sn sub ab col dd k0 k1 k2 k3 k5 "LookupError.__new__")
def OxK (K : PySem.W.Frag) (C : Addr) : Prop := ∃ nm q N bs bm sn sub ab col dd k0 k1 k2 k3 k5 ni, K.lookup C = some (excClassObj nm q C N bs bm true sn sub ab col dd k0 k1 k2 k3 k5 ni) ∧ PySem.MX.Bm bm ni
theorem XV.ox {K : PySem.W.Frag} {C B : Addr} (h : XV K C B) : OxK K C := by
  obtain ⟨nm, q, N, bs, sn, sub, ab, col, dd, k0, k1, k2, k3, k5, l⟩ := h
  exact ⟨nm, q, N, bs, _, sn, sub, ab, col, dd, k0, k1, k2, k3, k5, _, l, PySem.MX.Bm.ve.ref B⟩
theorem XK.ox {K : PySem.W.Frag} {C : Addr} (h : XK K C) : OxK K C := by
  obtain ⟨nm, q, N, bs, sn, sub, ab, col, dd, k0, k1, k2, k3, k5, l⟩ := h
  exact ⟨nm, q, N, bs, _, sn, sub, ab, col, dd, k0, k1, k2, k3, k5, _, l, PySem.MX.Bm.ke⟩
/-- the looks at the written part, as one -/
def exChk (K : PySem.W.Frag) (C fI : Addr) (f : Str) : Bool :=
  xfB K C && (decide (PySem.W.findIn K (.ref C) "__setattr__" = some (some (.builtin "object.__setattr__"))) && (decide (PySem.W.typeIn K (.ref C) = some (.type "type")) && (PySem.W.keepIn K (.ref C) && (decide (PySem.W.findIn K (.ref C) f = some none) &&
  (decide (PySem.W.findIn K (.ref C) "__init__" = some (some (.ref fI))) && (decide (PySem.W.typeIn K (.ref fI) = some (.type "function")) && (decide (PySem.W.findIn K (.ref C) "__class__" = some (some (.builtin "object.__class__"))) && decide (PySem.W.mroIn K C (.type "object") = some true))))))))
def clsChk (K : PySem.W.Frag) (C f : Addr) : Bool :=
  PySem.W.plainGet K C Str.empty && (PySem.W.hasDictIn K C && (PySem.W.plainOver K C && (decide (PySem.W.findIn K (.ref C) "__setattr__" = some (some (.builtin "object.__setattr__"))) && (PySem.W.makesIn K C && (decide (PySem.W.findIn K (.ref C) "__init__" = some (some (.ref f))) && (PySem.W.isFn K (.ref f) && PySem.W.keepIn K (.ref C)))))))
def intChk (K : PySem.W.Frag) (n : Str) (v : Int) : Bool := match PySem.W.nsIn K mainGlobals n with
  | some (some (.int i _)) => decide (i = v)
  | _ => false
def chkAll (K : PySem.W.Frag) (noneL : List Str) (namedL : List (Str × Addr)) (intL : List (Str × Int)) (exL : List (Addr × Addr × Str)) (fldL : List (List Addr × Str)) (clsL : List (Addr × Addr)) (naL : List (List Addr × Str)) (kitL exmL : List (Value × (Addr → Bool))) (xs : List Addr) (lets : Addr × Addr) : Bool :=
  (noneL.all fun x => decide (PySem.W.nsIn K mainGlobals x = some none)) && ((namedL.all fun p => decide (PySem.W.nsIn K mainGlobals p.1 = some (some (.ref p.2)))) && ((namedL.all fun p => PySem.W.keepIn K (.ref p.2)) && ((intL.all fun p => intChk K p.1 p.2) && ((exL.all fun p => exChk K p.1 p.2.1 p.2.2) &&
  ((fldL.all fun p => p.1.all fun C => decide (PySem.W.findIn K (.ref C) p.2 = some none)) && ((clsL.all fun p => clsChk K p.1 p.2) && ((naL.all fun p => p.1.all fun C => decide (PySem.W.findIn K (.ref C) p.2 = some none)) && ((kitL.all fun p => xs.all fun C => decide (PySem.W.kitOne K (.ref C) p.1 = some (p.2 C))) &&
  ((exmL.all fun p => xs.all fun C => decide (PySem.W.exmOne K (.ref C) p.1 = some (p.2 C))) && ((decide (PySem.W.findIn K (.ref lets.1) "lets" = some (some (.ref lets.2))) && (PySem.W.isFn K (.ref lets.2) && PySem.W.keepIn K (.ref lets.2))) &&
  (decide (PySem.W.specialIn K (.builtin "object.__class__") "__get__" = some (some (.builtin "getset_descriptor.__get__"))) && decide (PySem.W.takesIn K (.builtin "object.__class__") = some true))))))))))))
section
variable {K : PySem.W.Frag} {noneL : List Str} {namedL : List (Str × Addr)} {intL : List (Str × Int)} {exL : List (Addr × Addr × Str)} {fldL : List (List Addr × Str)} {clsL : List (Addr × Addr)} {naL : List (List Addr × Str)} {kitL exmL : List (Value × (Addr → Bool))} {xs : List Addr} {lets : Addr × Addr}
structure ChkP (K : PySem.W.Frag) (noneL : List Str) (namedL : List (Str × Addr)) (intL : List (Str × Int)) (exL : List (Addr × Addr × Str)) (fldL : List (List Addr × Str)) (clsL : List (Addr × Addr)) (naL : List (List Addr × Str)) (kitL exmL : List (Value × (Addr → Bool))) (xs : List Addr) (lets : Addr × Addr) : Prop where
  pN : ∀ x ∈ noneL, PySem.W.nsIn K mainGlobals x = some none
  pA : ∀ p ∈ namedL, PySem.W.nsIn K mainGlobals p.1 = some (some (.ref p.2))
  pk : ∀ p ∈ namedL, PySem.W.keepIn K (.ref p.2) = true
  pI : ∀ p ∈ intL, ∃ t, PySem.W.nsIn K mainGlobals p.1 = some (some (.int p.2 t))
  pE : ∀ p ∈ exL, exChk K p.1 p.2.1 p.2.2 = true
  pF : ∀ p ∈ fldL, ∀ C ∈ p.1, PySem.W.findIn K (.ref C) p.2 = some none
  pC : ∀ p ∈ clsL, clsChk K p.1 p.2 = true
  pnA : ∀ p ∈ naL, ∀ C ∈ p.1, PySem.W.findIn K (.ref C) p.2 = some none
  pK : ∀ p ∈ kitL, ∀ C ∈ xs, PySem.W.kitOne K (.ref C) p.1 = some (p.2 C)
  pX : ∀ p ∈ exmL, ∀ C ∈ xs, PySem.W.exmOne K (.ref C) p.1 = some (p.2 C)
  pL : Meth K lets.1 "lets" lets.2
  pG : PySem.W.specialIn K (.builtin "object.__class__") "__get__" = some (some (.builtin "getset_descriptor.__get__")) ∧ PySem.W.takesIn K (.builtin "object.__class__") = some true
theorem chk_parts (h : chkAll K noneL namedL intL exL fldL clsL naL kitL exmL xs lets = true) : ChkP K noneL namedL intL exL fldL clsL naL kitL exmL xs lets := by
  unfold chkAll at h
  simp only [Bool.and_eq_true, List.all_eq_true, decide_eq_true_eq] at h
  obtain ⟨h1, h2, h3, h4, h5, h6, h7, h8, h9, h10, ⟨h11, h12, h13⟩, h14, h15⟩ := h
  refine ⟨h1, h2, h3, fun p hp => ?_, h5, h6, h7, h8, h9, h10, ⟨h11, h12, h13⟩, h14, h15⟩
  have z := h4 p hp
  unfold intChk at z
  split at z
  · rename_i i t e
    rw [e, of_decide_eq_true z]
    exact ⟨t, rfl⟩
  · cases z
theorem cls_mem (pC : ∀ p ∈ clsL, clsChk K p.1 p.2 = true) {a : Addr} (ha : a ∈ clsL.map (·.1)) : Cls K a := by
  obtain ⟨p, hp, rfl⟩ := List.mem_map.mp ha
  have z := pC p hp
  unfold clsChk at z
  simp only [Bool.and_eq_true, decide_eq_true_eq] at z
  exact ⟨z.1, z.2.1, z.2.2.1, z.2.2.2.1⟩
theorem mk_of (pC : ∀ p ∈ clsL, clsChk K p.1 p.2 = true) {a f : Addr} (ha : (a, f) ∈ clsL) : Mk K a f := by
  have z := pC _ ha
  unfold clsChk at z
  simp only [Bool.and_eq_true, decide_eq_true_eq] at z
  exact ⟨z.2.2.2.2.1, z.2.2.2.2.2.1, z.2.2.2.2.2.2.1, z.2.2.2.2.2.2.2⟩
theorem ex_parts {C fI : Addr} {f : Str} (z : exChk K C fI f = true) : XfC K C ∧ PySem.W.findIn K (.ref C) "__setattr__" = some (some (.builtin "object.__setattr__")) ∧ PySem.W.typeIn K (.ref C) = some (.type "type") ∧ PySem.W.keepIn K (.ref C) = true ∧ PySem.W.findIn K (.ref C) f = some none ∧
    PySem.W.findIn K (.ref C) "__init__" = some (some (.ref fI)) ∧ PySem.W.typeIn K (.ref fI) = some (.type "function") ∧ PySem.W.findIn K (.ref C) "__class__" = some (some (.builtin "object.__class__")) ∧ PySem.W.mroIn K C (.type "object") = some true := by
  unfold exChk at z
  rw [Bool.and_eq_true] at z
  obtain ⟨z1, z⟩ := z
  simp only [Bool.and_eq_true, decide_eq_true_eq] at z
  exact ⟨xfB_ok z1, z⟩
theorem xfC_of (pE : ∀ p ∈ exL, exChk K p.1 p.2.1 p.2.2 = true) {C : Addr} (h : C ∈ exL.map (·.1)) : XfC K C := by
  obtain ⟨p, hp, rfl⟩ := List.mem_map.mp h
  exact (ex_parts (pE p hp)).1
theorem excC_of (pE : ∀ p ∈ exL, exChk K p.1 p.2.1 p.2.2 = true) (g : PySem.W.specialIn K (.builtin "object.__class__") "__get__" = some (some (.builtin "getset_descriptor.__get__")) ∧ PySem.W.takesIn K (.builtin "object.__class__") = some true) {C : Addr} (h : C ∈ exL.map (·.1)) : L2.ExcC K C := by
  obtain ⟨p, hp, rfl⟩ := List.mem_map.mp h
  obtain ⟨a, _, _, _, _, _, _, b, c⟩ := ex_parts (pE p hp)
  exact ⟨a.ga, a.gg, a.exC, a.hdC, b, g.1, g.2, c⟩
theorem mem_getD {α : Type} {l : List α} {i : Nat} {d : α} (h : i < l.length) : l.getD i d ∈ l := by
  rw [List.getD_eq_getElem?_getD, List.getElem?_eq_getElem h]
  exact List.getElem_mem h
theorem oxd_mk {P : Program} {w : World} {base : Heap} {mg : Str → Option Value} {x qual f : Str} {st0 : Stmt} {C fI : Addr} {p1 p2 p3 p4 : Pos} (pE : ∀ p ∈ exL, exChk K p.1 p.2.1 p.2.2 = true) (hm : (C, fI, f) ∈ exL) (hx : OxK K C) (hi : FT K "__init__" qual st0 fI) (Sc : FnScope ["self", f] ["self", f] (defScope st0))
    (hbody : defBody st0 = [.Assign [.Attribute (.Name "self" p1) f p2] (.Name f p3) p4]) (hl : (defScope st0).names.lookup ("self" : Str) = some .local) (hl2 : (defScope st0).names.lookup f = some .local) (hf : f ≠ "self" ∧ (f == ("__debug__" : Str)) = false ∧ (f == ("__classdict__" : Str)) = false) (hg : mg x = some (.ref C))
    (b1 : ∀ (kV doc pm : Value) (an : Option Addr) (cdv ct : Value) (us : List Value), us.length = (["self", f] : List Str).length → bindArgs (PySem.W.fnOf "__init__" qual (defArgs st0) (defBody st0) (defScope st0) .none kV doc pm an cdv ct) ⟨us, []⟩ = pure ((["self", f] : List Str).zip us))
    (b2 : ∀ (kV doc pm : Value) (an : Option Addr) (cdv ct : Value) (us ws : List Value), us.length = 1 → ws.length = ([f] : List Str).length → bindArgs (PySem.W.fnOf "__init__" qual (defArgs st0) (defBody st0) (defScope st0) .none kV doc pm an cdv ct) ⟨us, ([f] : List Str).zip ws⟩ = pure ((["self", f] : List Str).zip (us ++ ws))) : OxD P w K mg base x C f := by
  obtain ⟨a, a1, a2, a3, a4, a5, a6, _, _⟩ := ex_parts (pE _ hm)
  obtain ⟨fd, F⟩ := hi.fn
  have T : OxC K C fI f := ⟨hx, a1, a.exC, a2, a3, a4, a5, a6⟩
  refine ⟨⟨fI, fd, T, ok_ox T F Sc hbody hl hl2 hf, F.binds b1, ?_⟩, hg⟩
  obtain ⟨oc, od, kV, doc, pm, an, cdv, ct, osl, rfl, _, _⟩ := F.ex
  exact ⟨fun s us ws I l1 l2 => .of_eq (b2 kV doc pm an cdv ct us ws l1 l2), fun r1 r2 => r1.append r2⟩
end
end MF
end
section
set_option Elab.async false
set_option linter.all false
set_option maxRecDepth 100000
set_option maxHeartbeats 4000000
/-! MXX: the law's def behind the top, two tables of code objects beside it. -/
namespace MF
open PySem PySem.Spec PyProof.Rows L2
/-- what is tracked at the law's entry: the script (where it is no object of the text), the two tables -/
def hp0 (free : Bool) (a P1 P2 : Addr) (vs : List Value) (ns : List Int) : Hp := fun b =>
  if b = P1 then some (.tbl #[]) else if b = P2 then some (.tbl #[]) else if b = a ∧ free = true then some (.frz { cls := .type "list", data := .seq vs.toArray } (.lst (ns.map V.int))) else none
abbrev tab0 : Obj := { cls := .none, data := .fields #[] }
structure Entry (K : PySem.W.Frag) (h : Heap) (mg : Str → Option Value) (a c1 c2 P1 P2 : Addr) (vs : List Value) (ns : List Int) : Prop where
  kin : K.In h
  glo : h.Ns mainGlobals mg
  blt : ∃ mb, h.Ns builtinsNs mb ∧ ∀ x : Str, x ≠ "__name__" → mb x = bootBuiltins x
  lim : h.NoLimit
  t1 : h.get? P1 = some tab0
  t2 : h.get? P2 = some tab0
  n1 : K.lookup P1 = none
  n2 : K.lookup P2 = none
  d1 : PySem.W.CodeHd h c1 P1
  d2 : PySem.W.CodeHd h c2 P2
  ne : P1 ≠ P2
  mod : ∃ (bm : Addr) (ob : Obj), mg "__builtins__" = some (.ref bm) ∧ bm ≠ builtinsNs ∧ h.get? bm = some ob ∧ ob.cls = .type "module" ∧ ob.dict = some builtinsNs ∧ ob.data = .plain
  scr : h.get? a = some { cls := .type "list", data := .seq vs.toArray }
  areI : IntsAre vs ns
  fits : ns.length ≤ sizeLine
section
variable {K : PySem.W.Frag} {h : Heap} {mg : Str → Option Value} {a c1 c2 P1 P2 : Addr} {vs : List Value} {ns : List Int} {fr : Bool}
theorem Entry.aP (e : Entry K h mg a c1 c2 P1 P2 vs ns) : a ≠ P1 ∧ a ≠ P2 := by
  have k : ∀ P, h.get? P = some tab0 → a ≠ P := fun P hP z => by
    rw [← z, e.scr] at hP
    cases hP
  exact ⟨k P1 e.t1, k P2 e.t2⟩
theorem hp0_cases {b : Addr} {u : HO} (q : hp0 fr a P1 P2 vs ns b = some u) : ((b = P1 ∨ b = P2) ∧ u = .tbl #[]) ∨ (b = a ∧ fr = true ∧ u = .frz { cls := .type "list", data := .seq vs.toArray } (.lst (ns.map V.int))) := by
  unfold hp0 at q
  split at q
  · rename_i hb
    cases q
    exact .inl ⟨.inl hb, rfl⟩
  · split at q
    · rename_i hb
      cases q
      exact .inl ⟨.inr hb, rfl⟩
    · split at q
      · rename_i hb
        cases q
        exact .inr ⟨hb.1, hb.2, rfl⟩
      · cases q
/-- what holds other data is not tracked -/
theorem Entry.loose (e : Entry K h mg a c1 c2 P1 P2 vs ns) {b : Addr} {o : Obj} (ho : h.get? b = some o) (q1 : ∀ xs n, o.data ≠ .seq xs n) (q2 : o.data ≠ .fields #[]) : hp0 fr a P1 P2 vs ns b = none := by
  cases hq : hp0 fr a P1 P2 vs ns b with
  | none => rfl
  | some u =>
    rcases hp0_cases hq with ⟨rfl | rfl, _⟩ | ⟨rfl, _, _⟩
    · rw [e.t1] at ho
      cases ho
      exact (q2 rfl).elim
    · rw [e.t2] at ho
      cases ho
      exact (q2 rfl).elim
    · rw [e.scr] at ho
      cases ho
      exact (q1 _ _ rfl).elim
theorem Entry.nsp (e : Entry K h mg a c1 c2 P1 P2 vs ns) {b : Addr} {m : Str → Option Value} (n : h.Ns b m) : (hidT h (hp0 fr a P1 P2 vs ns)).Ns b m := by
  obtain ⟨o, es, ep, g1, g2, g3⟩ := n
  exact ⟨o, es, ep, hidT_get g1 (e.loose g1 (fun xs k z => by rw [g2] at z; cases z) fun z => by rw [g2] at z; cases z), g2, g3⟩
theorem Entry.frag (e : Entry K h mg a c1 c2 P1 P2 vs ns) (hf : fr = true → K.lookup a = none) : K.In (hidT h (hp0 fr a P1 P2 vs ns)) := fun b o hb => hidT_get (e.kin b o hb) (by
  cases hq : hp0 fr a P1 P2 vs ns b with
  | none => rfl
  | some u =>
    rcases hp0_cases hq with ⟨rfl | rfl, _⟩ | ⟨rfl, f, _⟩
    · rw [e.n1] at hb; cases hb
    · rw [e.n2] at hb; cases hb
    · rw [hf f] at hb; cases hb)
theorem Entry.mods (e : Entry K h mg a c1 c2 P1 P2 vs ns) (hf : fr = true → K.lookup a = none) : Mod K mg (hidT h (hp0 fr a P1 P2 vs ns)) := by
  obtain ⟨mb, g1, g2⟩ := e.blt
  obtain ⟨mc, g3, g4⟩ := e.lim
  exact ⟨e.frag hf, e.nsp e.glo, ⟨mb, e.nsp g1, g2⟩, mc, e.nsp g3, g4⟩
theorem Entry.tabB (e : Entry K h mg a c1 c2 P1 P2 vs ns) {c P : Addr} (hP : h.get? P = some tab0) (C : PySem.W.CodeHd h c P) : LamX.TabB (hidT h (hp0 fr a P1 P2 vs ns)) mg c P := by
  refine ⟨?_, ?_, fun z => ?_⟩
  · obtain ⟨o, us, file, tf, flags, tg, inF, text, tt, e1, r1, r2, r3, rs⟩ := C
    refine ⟨o, us, file, tf, flags, tg, inF, text, tt, hidT_get e1 (e.loose e1 (fun xs k z => by rw [r2] at z; cases z) fun z => ?_), r1, r2, r3, rs⟩
    rw [r2] at z
    cases z
    simp at r3
  · obtain ⟨bm, ob, b1, b2, b3, b4, b5, b6⟩ := e.mod
    have g1 : bm ≠ mainGlobals := fun q => by
      obtain ⟨o, es, ep, e1, e2, _⟩ := e.glo
      rw [q, e1] at b3
      cases b3
      rw [e2] at b6
      cases b6
    have g2 : bm ≠ P := fun q => by
      rw [q, hP] at b3
      cases b3
      cases b6
    exact ⟨bm, ob, b1, b2, g1, g2, hidT_get b3 (e.loose b3 (fun xs k z => by rw [b6] at z; cases z) fun z => by rw [b6] at z; cases z), b4, b5, b6⟩
  · obtain ⟨o, es, ep, e1, e2, _⟩ := e.glo
    rw [z, hP] at e1
    cases e1
    cases e2
theorem hp0_P1 : hp0 fr a P1 P2 vs ns P1 = some (.tbl #[]) := if_pos rfl
theorem hp0_P2 (ne : P1 ≠ P2) : hp0 fr a P1 P2 vs ns P2 = some (.tbl #[]) := (if_neg (Ne.symm ne)).trans (if_pos rfl)
theorem Entry.ok {P : Program} {w : World} (e : Entry K h mg a c1 c2 P1 P2 vs ns) : HOk P w (hp0 fr a P1 P2 vs ns) h := fun b u q => by
  rcases hp0_cases q with ⟨rfl | rfl, rfl⟩ | ⟨rfl, _, rfl⟩
  · exact e.t1
  · exact e.t2
  · exact ⟨e.scr, by rw [List.length_map]; exact e.fits, vs, _, vals_ints e.areI, e.scr⟩
end
theorem amongNil {pos : Pos} {cv : Value} (h : codeAmong pos (#[] : Array Value).toList = some cv) : False := by
  have z : codeAmong pos [] = some cv := h
  simp [codeAmong] at z
theorem law_callG {P : Program} {w : World} {K : PySem.W.Frag} {mg : Str → Option Value} {k : Nat} {fa a c1 c2 P1 P2 : Addr} {fd : FuncData} {x q1 q2 : Str} {g : List D → S → R D} {s1 : Shared} {vs : List Value} {ns : List Int} {stE : S}
    (e : Entry K s1.heap mg a c1 c2 P1 P2 vs ns) (hg : s1.gens = #[]) (hr : Room k callerA) (hgd : callerA.guards = some [])
    (Fn : ∀ base : Heap, K.In base → base.Ns mainGlobals mg → LamX.TabB base mg c1 P1 → LamX.TabB base mg c2 P2 → FnG P w K mg base k fa fd [x] g) (hbind : ∀ (s : Shared) (u : Value), BindsTo s fd ⟨[u], []⟩ [(x, u)])
    (hv : g [.scr (ns.map D.int)] [.tab P1 q1, .tab P2 q2] = .ok (.bl true) stE) :
    codeAny (model P w) callerA (.call (.ref fa) ⟨[.ref a], []⟩) (fun r s' => r = .ok (.ret (.bool true)) ∧ OldK s1.heap s'.heap ∧ s'.os = s1.os ∧ AllBare s'.gens) s1 := by
  obtain ⟨fr, hfr, hnf⟩ : ∃ fr : Bool, (fr = true → K.lookup a = none) ∧ (fr = false → ∃ o, K.lookup a = some o) := by
    cases hk : K.lookup a with
    | none => exact ⟨true, fun _ => rfl, nofun⟩
    | some o => exact ⟨false, nofun, fun _ => ⟨o, rfl⟩⟩
  have hbs : ∀ b o, (hidT s1.heap (hp0 fr a P1 P2 vs ns)).get? b = some o → s1.heap.get? b = some o ∧ hp0 fr a P1 P2 vs ns b = none := fun b o z => of_hidT z
  have e0 : Env0 P w K mg (hidT s1.heap (hp0 fr a P1 P2 vs ns)) callerA [] s1 (hp0 fr a P1 P2 vs ns) :=
    ⟨rfl, e.mods hfr, hbs, Nat.le_of_eq (hidT_size _ _), trivial, fun b hb => absurd (show b ∈ ([] : List Addr) from hb) (by simp), e.ok, .of_eq hg⟩
  have dns : ∀ (ms : List Int), DenL K [P1, P2] (hp0 fr a P1 P2 vs ns) (ms.map V.int) (ms.map D.int) := fun ms => by
    induction ms with
    | nil => exact .nil
    | cons m ms ih => exact .cons (.int m) ih
  have na : a ∉ [P1, P2] := by
    have z := e.aP
    simp [z.1, z.2]
  have rv := vals_ints e.areI
  have den : Den K [P1, P2] (hp0 fr a P1 P2 vs ns) (.ref a) (.scr (ns.map D.int)) := by
    refine .scr ?_ (dns ns)
    cases fr with
    | true => exact .inl ⟨na, .inr ⟨{ cls := .type "list", data := .seq vs.toArray }, (if_neg e.aP.1).trans ((if_neg e.aP.2).trans (if_pos ⟨rfl, rfl⟩))⟩⟩
    | false =>
      obtain ⟨o, ho⟩ := hnf rfl
      have z := e.kin a o ho
      rw [e.scr] at z
      cases z
      exact .inr ⟨_, vs.toArray, _, ho, rfl, rfl, rfl, by rw [List.size_toArray, e.areI.length]; exact e.fits, rv⟩
  have rel : Rel K [P1, P2] (hp0 fr a P1 P2 vs ns) [.tab P1 q1, .tab P2 q2] := by
    refine ⟨rfl, by simp [e.ne], fun n b ob z1 z2 => ?_⟩
    match n, z1, z2 with
    | 0, z1, z2 => cases z1; cases z2; exact ⟨rfl, #[], hp0_P1, trivial, fun pos cv hc => (amongNil hc).elim⟩
    | 1, z1, z2 => cases z1; cases z2; exact ⟨rfl, #[], hp0_P2 e.ne, trivial, fun pos cv hc => (amongNil hc).elim⟩
  have sp : spD K ([x] : List Str).length g [.ref a] (hp0 fr a P1 P2 vs ns) (fun v _ => v = .bl true) (fun _ _ _ => False) := by
    refine ⟨rfl, [P1, P2], _, _, .cons den .nil, rel, ?_⟩
    rw [hv]
    exact fun ι' H' v _ _ ev => by cases ev; rfl
  refine codeAny_mono ((Fn _ (e.frag hfr) (e.nsp e.glo) (e.tabB e.t1 e.d1) (e.tabB e.t2 e.d2)).go callerA [] s1 _ ⟨[.ref a], []⟩ [.ref a] [.ref a] _ _ hr hgd e0 (hbind s1 (.ref a)) (.cons rfl .nil) sp) fun r s' z => ?_
  cases r with
  | error er =>
    obtain ⟨_, _, _, _, _, _, _, _, _, _, _, _, no⟩ := z
    exact no.elim
  | ok fl =>
    cases fl with
    | next => exact False.elim z
    | brk => exact False.elim z
    | cont => exact False.elim z
    | ret u =>
      obtain ⟨v, H', os, bare, un, hok, ru, rfl⟩ := z
      obtain rfl : u = Value.bool true := ru
      have same : ∀ b o, b ≠ P1 → b ≠ P2 → s1.heap.get? b = some o → s'.heap.get? b = some o := fun b o b1 b2 hb => by
        cases hq : hp0 fr a P1 P2 vs ns b with
        | none => exact un.keep b o hb hq (by intro z; exact absurd (show b ∈ ([] : List Addr) from z) (by simp)) (by simp)
        | some u =>
          rcases hp0_cases hq with ⟨z | z, _⟩ | ⟨rfl, _, rfl⟩
          · exact absurd z b1
          · exact absurd z b2
          · have h2 := un.frzs b _ _ hq
            obtain ⟨g1, _⟩ := hok b _ h2
            rw [e.scr] at hb
            cases hb
            exact g1
      have more : ∀ p, hp0 fr a P1 P2 vs ns p = some (.tbl #[]) → ∃ xs : Array Value, s'.heap.get? p = some { cls := .none, data := .fields xs } := fun p hq => by
        obtain ⟨xs, z⟩ := un.tbls p #[] hq
        exact ⟨_, hok p _ z⟩
      have asWas : ∀ c p, s1.heap.get? p = some tab0 → PySem.W.CodeHd s1.heap c p → hp0 fr a P1 P2 vs ns p = some (.tbl #[]) → ∀ o, s1.heap.get? p = some o → asItWas s1.heap s'.heap p o ∧ ∃ o', s'.heap.get? p = some o' := fun c p hp C hq o ho => by
        obtain ⟨xs, hx⟩ := more p hq
        rw [hp] at ho
        cases ho
        exact ⟨.inr (.inl ⟨(C.tab hp).isCodeTable, rfl, #[], xs, rfl, by rw [Array.empty_append]; exact hx⟩), _, hx⟩
      refine ⟨rfl, ⟨fun b o hb => ?_, fun b o hb => ?_⟩, os, bare⟩
      · by_cases b1 : b = P1
        · subst b1; exact (asWas c1 _ e.t1 e.d1 hp0_P1 o hb).1
        · by_cases b2 : b = P2
          · subst b2; exact (asWas c2 _ e.t2 e.d2 (hp0_P2 e.ne) o hb).1
          · exact .inl (same b o b1 b2 hb)
      · by_cases b1 : b = P1
        · subst b1; exact (asWas c1 _ e.t1 e.d1 hp0_P1 o hb).2
        · by_cases b2 : b = P2
          · subst b2; exact (asWas c2 _ e.t2 e.d2 (hp0_P2 e.ne) o hb).2
          · exact ⟨o, same b o b1 b2 hb⟩
end MF
end
section
set_option Elab.async false
set_option linter.all false
set_option maxRecDepth 100000
set_option maxHeartbeats 4000000
/-! MXV: evaluation lemmas. -/
namespace MF
open PySem PySem.Spec PyProof.Rows L2
section
variable {α β : Type} {a : α} {st : S} {k : α → S → R β} {i j : Int} {xs : List D} {d e : D} {env : Env}
theorem ev_bind : (R.ok a st).bind k = k a st := rfl
theorem ev_add : gAdd (.int i) (.int j) st = .ok (.int (i + j)) st := rfl
theorem ev_sub : gSub (.int i) (.int j) st = .ok (.int (i - j)) st := rfl
theorem ev_mulL (h1 : -(2 ^ 64) < i) (h2 : i < 2 ^ 64) : gMul (.int i) (.int j) st = .ok (.int (i * j)) st := by unfold gMul; exact if_pos (.inl ⟨h1, h2⟩)
theorem ev_mulR (h1 : -(2 ^ 64) < j) (h2 : j < 2 ^ 64) : gMul (.int i) (.int j) st = .ok (.int (i * j)) st := by unfold gMul; exact if_pos (.inr ⟨h1, h2⟩)
theorem ev_mod (h : 0 < j) : gMod (.int i) (.int j) st = .ok (.int (i % j)) st := by unfold gMod; exact if_pos h
theorem ev_div (h : 0 < j) (h2 : j < 1073741824) : gFdiv (.int i) (.int j) st = .ok (.int (i / j)) st := by unfold gFdiv; exact if_pos ⟨h, h2⟩
theorem ev_cmp {p : Int → Int → Bool} : gCmp p (.int i) (.int j) st = .ok (.bl (p i j)) st := rfl
theorem ev_abs : gAbs [.int i] st = .ok (.int (if i < 0 then -i else i)) st := rfl
theorem ev_int : gInt [.int i] st = .ok (.int i) st := rfl
theorem ev_intB {b : Bool} : gInt [.bl b] st = .ok (.int (if b then 1 else 0)) st := rfl
theorem ev_lenS : gLen [.scr xs] st = .ok (.int xs.length) st := rfl
theorem ev_ixS (h : atI xs i = some d) : gIx (.scr xs) (.int i) st = .ok d st := by
  show (match atI xs i with
    | some x => (.ok x st : R D)
    | none => .stuck) = _
  rw [h]
theorem ev_ixL {n : Nat} (hs : st[n]? = some (.lst xs)) (h : atI xs i = some d) : gIx (.loc n) (.int i) st = .ok d st := by
  show (match (match st[n]? with | some (.lst xs) => some xs | _ => none) with
    | some xs => (match atI xs i with
      | some x => (.ok x st : R D)
      | none => .stuck)
    | none => .stuck) = _
  rw [hs]
  show (match atI xs i with
    | some x => (.ok x st : R D)
    | none => .stuck) = _
  rw [h]
theorem ev_ixF (h : atI xs i = some d) : gIx (.lst xs) (.int i) st = .ok d st := by
  show (match atI xs i with
    | some x => (.ok x st : R D)
    | none => .stuck) = _
  rw [h]
theorem ev_call {np : Nat} {g : List D → S → R D} {ds : List D} (h : ds.length = np) : kCall np g ds st = g ds st := if_pos h
theorem ev_put {n : Nat} {k : Nat} (hs : st[n]? = some (.lst xs)) (hk : k < xs.length) : kPut (.loc n) (.int k) d st = some (st.set n (.lst (xs.set k d))) := by
  show (match st[n]? with
    | some (.lst xs) => (ixN xs.length (k : Int)).map fun j => st.set n (.lst (xs.set j d))
    | _ => none) = _
  rw [hs]
  show (ixN xs.length (k : Int)).map (fun j => st.set n (.lst (xs.set j d))) = _
  unfold ixN
  rw [if_pos (by omega), if_pos (by omega)]
  rfl
end
end MF
end
section
set_option Elab.async false
set_option linter.all false
set_option maxRecDepth 100000
set_option maxHeartbeats 4000000
namespace PA
open PySem PySem.Spec PyProof.Rows L2 MF
structure DfL (K : PySem.W.Frag) (mg : Str → Option Value) (x qual : Str) (st : Stmt) (f : Addr) (fd : FuncData) (c : Addr) (ps : List Str) : Prop where
  fn : FunL K x qual st f fd c
  mg : mg x = some (.ref f)
  kp : PySem.W.keepIn K (.ref f) = true
  bi : Binds K fd ps []
structure DfK (K : PySem.W.Frag) (mg : Str → Option Value) (x qual : Str) (st : Stmt) (f : Addr) (fd : FuncData) : Prop where
  fn : L2.Fun K x qual st f fd
  mg : mg x = some (.ref f)
  kp : PySem.W.keepIn K (.ref f) = true
def top (i : Nat) : Stmt := PySem.Challenge.pw_makefirst_k00_errors_and_what_they_keep.main.body.getD i (.Pass ⟨0, 0, 0, 0⟩)

abbrev s14 : Stmt := (top 14)
abbrev s15 : Stmt := (top 15)
abbrev s16 : Stmt := (top 16)
abbrev s18 : Stmt := (top 18)
abbrev s17 : Stmt := (top 17)
abbrev s25 : Stmt := (top 25)
abbrev s28 : Stmt := (top 28)
abbrev s27 : Stmt := (top 27)
abbrev s26 : Stmt := (top 26)
abbrev s29 : Stmt := (top 29)
abbrev s30 : Stmt := (top 30)
abbrev s31 : Stmt := (top 31)
abbrev s33 : Stmt := (top 33)
abbrev s34 : Stmt := (top 34)
abbrev s24_2 : Stmt := (inClass (top 24) 2)
abbrev s24_0 : Stmt := (inClass (top 24) 0)
abbrev s51 : Stmt := (top 51)
abbrev s52 : Stmt := (top 52)
abbrev s53 : Stmt := (top 53)
abbrev s50_0 : Stmt := (inClass (top 50) 0)
abbrev s54 : Stmt := (top 54)
abbrev s55 : Stmt := (top 55)
abbrev s56 : Stmt := (top 56)
abbrev s57 : Stmt := (top 57)
abbrev s58 : Stmt := (top 58)
abbrev s59 : Stmt := (top 59)
abbrev s60 : Stmt := (top 60)
abbrev s61 : Stmt := (top 61)
abbrev s62 : Stmt := (top 62)
abbrev s63 : Stmt := (top 63)
abbrev s66 : Stmt := (top 66)
abbrev s65_0 : Stmt := (inClass (top 65) 0)
abbrev s67 : Stmt := (top 67)
abbrev s69 : Stmt := (top 69)
abbrev s71 : Stmt := (top 71)
abbrev s43 : Stmt := (top 43)
abbrev s44 : Stmt := (top 44)
abbrev s45 : Stmt := (top 45)
abbrev s73 : Stmt := (top 73)
abbrev s74 : Stmt := (top 74)
abbrev s76 : Stmt := (top 76)
abbrev s79 : Stmt := (top 79)
abbrev s80 : Stmt := (top 80)
abbrev s81 : Stmt := (top 81)
abbrev s82 : Stmt := (top 82)
abbrev s83 : Stmt := (top 83)
abbrev s84 : Stmt := (top 84)
abbrev s85 : Stmt := (top 85)
abbrev s87 : Stmt := (top 87)
abbrev s88 : Stmt := (top 88)
abbrev s89 : Stmt := (top 89)
abbrev s90 : Stmt := (top 90)
abbrev s91 : Stmt := (top 91)
abbrev s92 : Stmt := (top 92)
abbrev s93 : Stmt := (top 93)
abbrev s94 : Stmt := (top 94)
abbrev s95 : Stmt := (top 95)
structure Ad where
  C_Book : Addr
  C_Store : Addr
  C_Course : Addr
  C_BadBook : Addr
  C_BadStore : Addr
  C_BadState : Addr
  C_BadText : Addr
  C_Refused : Addr
  C_TooGreat : Addr
  C_Knotted : Addr
  C_NoKind : Addr
  C_NoCell : Addr
  C_NoCheck : Addr
  C_BatchError : Addr
  p_gs : Addr
  p_ask : Addr
def Ad.xs (a : Ad) : List Addr := [a.C_BadBook, a.C_BadStore, a.C_BadState, a.C_BadText, a.C_Refused, a.C_TooGreat, a.C_Knotted, a.C_NoKind, a.C_NoCell, a.C_NoCheck]
def Ad.is_BadBook (a : Ad) (C : Addr) : Bool := C == a.C_BadBook
def Ad.is_BadStore (a : Ad) (C : Addr) : Bool := C == a.C_BadStore
def Ad.is_BadState (a : Ad) (C : Addr) : Bool := C == a.C_BadState
def Ad.is_BadText (a : Ad) (C : Addr) : Bool := C == a.C_BadText
def Ad.is_Refused (a : Ad) (C : Addr) : Bool := C == a.C_Refused
def Ad.is_TooGreat (a : Ad) (C : Addr) : Bool := C == a.C_TooGreat
def Ad.is_Knotted (a : Ad) (C : Addr) : Bool := C == a.C_Knotted
def Ad.is_NoKind (a : Ad) (C : Addr) : Bool := C == a.C_NoKind
def Ad.is_NoCell (a : Ad) (C : Addr) : Bool := C == a.C_NoCell
def Ad.is_NoCheck (a : Ad) (C : Addr) : Bool := C == a.C_NoCheck
def Ad.is_BatchError (a : Ad) (C : Addr) : Bool := [a.C_BadBook, a.C_BadStore, a.C_BadState, a.C_BadText, a.C_Refused, a.C_TooGreat, a.C_Knotted].contains C
def Ad.is_ValueError (a : Ad) (C : Addr) : Bool := [a.C_BadBook, a.C_BadStore, a.C_BadState, a.C_BadText, a.C_Refused, a.C_TooGreat, a.C_Knotted].contains C
def Ad.is_KeyError (a : Ad) (C : Addr) : Bool := [a.C_NoKind, a.C_NoCell, a.C_NoCheck].contains C
def Ad.xs_at (a : Ad) : List Addr := [a.C_BadBook, a.C_BadStore, a.C_BadState, a.C_BadText, a.C_Refused]
def Ad.xs_cell (a : Ad) : List Addr := [a.C_NoCell]
def Ad.xs_check (a : Ad) : List Addr := [a.C_NoCheck]
def Ad.xs_kind (a : Ad) : List Addr := [a.C_NoKind]
def Ad.xs_kinds (a : Ad) : List Addr := [a.C_Knotted]
def Ad.xs_most (a : Ad) : List Addr := [a.C_TooGreat]
def Ad.cs_columns (a : Ad) : List Addr := [a.C_Book]
def Ad.cs_checks (a : Ad) : List Addr := [a.C_Book]
def Ad.cs__rows (a : Ad) : List Addr := [a.C_Book]
def Ad.cs__bars (a : Ad) : List Addr := [a.C_Book]
def Ad.cs_book (a : Ad) : List Addr := [a.C_Store]
def Ad.cs_cells (a : Ad) : List Addr := [a.C_Store, a.C_Course]
def Ad.cs_laid (a : Ad) : List Addr := [a.C_Store]
def Ad.cs__laid_on (a : Ad) : List Addr := [a.C_Store]
def Ad.cs_bits (a : Ad) : List Addr := [a.C_Course]
def Ad.cs_whole (a : Ad) : List Addr := [a.C_Course]
def Ad.cs_faults (a : Ad) : List Addr := [a.C_Course]
def Ad.cs_by_part (a : Ad) : List Addr := [a.C_Course]
def Ad.cs_by_top (a : Ad) : List Addr := [a.C_Course]
structure Tx (P : Program) (w : World) (K : PySem.W.Frag) (mg : Str → Option Value) (base : Heap) (a : Ad) where
  len : mg "len" = none
  isinstance : mg "isinstance" = none
  list : mg "list" = none
  tuple : mg "tuple" = none
  int : mg "int" = none
  bool : mg "bool" = none
  str : mg "str" = none
  zip : mg "zip" = none
  enumerate : mg "enumerate" = none
  range : mg "range" = none
  sorted : mg "sorted" = none
  set : mg "set" = none
  sum : mg "sum" = none
  reversed : mg "reversed" = none
  abs : mg "abs" = none
  repr : mg "repr" = none
  KeyError : mg "KeyError" = none
  ValueError : mg "ValueError" = none
  k_MOST_COLUMNS : Tok
  c_MOST_COLUMNS : mg "MOST_COLUMNS" = some (.int 4 k_MOST_COLUMNS)
  k_MOST_VALUES : Tok
  c_MOST_VALUES : mg "MOST_VALUES" = some (.int 4 k_MOST_VALUES)
  k_MOST_CHECKS : Tok
  c_MOST_CHECKS : mg "MOST_CHECKS" = some (.int 6 k_MOST_CHECKS)
  k_MOST_PLACES : Tok
  c_MOST_PLACES : mg "MOST_PLACES" = some (.int 3 k_MOST_PLACES)
  k_MOST_CELLS : Tok
  c_MOST_CELLS : mg "MOST_CELLS" = some (.int 200 k_MOST_CELLS)
  k_MOST_LAID : Tok
  c_MOST_LAID : mg "MOST_LAID" = some (.int 4000 k_MOST_LAID)
  k_MOST_FIGURES : Tok
  c_MOST_FIGURES : mg "MOST_FIGURES" = some (.int 6 k_MOST_FIGURES)
  f_columns : ∀ C ∈ a.cs_columns, Cls K C ∧ NoAttr K C "columns"
  f_checks : ∀ C ∈ a.cs_checks, Cls K C ∧ NoAttr K C "checks"
  f__rows : ∀ C ∈ a.cs__rows, Cls K C ∧ NoAttr K C "_rows"
  f__bars : ∀ C ∈ a.cs__bars, Cls K C ∧ NoAttr K C "_bars"
  f_book : ∀ C ∈ a.cs_book, Cls K C ∧ NoAttr K C "book"
  f_cells : ∀ C ∈ a.cs_cells, Cls K C ∧ NoAttr K C "cells"
  f_laid : ∀ C ∈ a.cs_laid, Cls K C ∧ NoAttr K C "laid"
  f__laid_on : ∀ C ∈ a.cs__laid_on, Cls K C ∧ NoAttr K C "_laid_on"
  f_bits : ∀ C ∈ a.cs_bits, Cls K C ∧ NoAttr K C "bits"
  f_whole : ∀ C ∈ a.cs_whole, Cls K C ∧ NoAttr K C "whole"
  f_faults : ∀ C ∈ a.cs_faults, Cls K C ∧ NoAttr K C "faults"
  f_by_part : ∀ C ∈ a.cs_by_part, Cls K C ∧ NoAttr K C "by_part"
  f_by_top : ∀ C ∈ a.cs_by_top, Cls K C ∧ NoAttr K C "by_top"
  x_BadBook : OxD P w K mg base "BadBook" a.C_BadBook "at"
  x_BadStore : OxD P w K mg base "BadStore" a.C_BadStore "at"
  x_BadState : OxD P w K mg base "BadState" a.C_BadState "at"
  x_BadText : OxD P w K mg base "BadText" a.C_BadText "at"
  x_Refused : OxD P w K mg base "Refused" a.C_Refused "at"
  x_TooGreat : OxD P w K mg base "TooGreat" a.C_TooGreat "most"
  x_Knotted : OxD P w K mg base "Knotted" a.C_Knotted "kinds"
  x_NoKind : OxD P w K mg base "NoKind" a.C_NoKind "kind"
  x_NoCell : OxD P w K mg base "NoCell" a.C_NoCell "cell"
  x_NoCheck : OxD P w K mg base "NoCheck" a.C_NoCheck "check"
  m_BatchError : mg "BatchError" = some (.ref a.C_BatchError)
  i_BadBook : ∀ C ∈ a.xs, L2.ExcC K C ∧ PySem.W.kitOne K (.ref C) (.ref a.C_BadBook) = some (a.is_BadBook C)
  i_BadStore : ∀ C ∈ a.xs, L2.ExcC K C ∧ PySem.W.kitOne K (.ref C) (.ref a.C_BadStore) = some (a.is_BadStore C)
  i_BadState : ∀ C ∈ a.xs, L2.ExcC K C ∧ PySem.W.kitOne K (.ref C) (.ref a.C_BadState) = some (a.is_BadState C)
  i_BadText : ∀ C ∈ a.xs, L2.ExcC K C ∧ PySem.W.kitOne K (.ref C) (.ref a.C_BadText) = some (a.is_BadText C)
  i_Refused : ∀ C ∈ a.xs, L2.ExcC K C ∧ PySem.W.kitOne K (.ref C) (.ref a.C_Refused) = some (a.is_Refused C)
  i_TooGreat : ∀ C ∈ a.xs, L2.ExcC K C ∧ PySem.W.kitOne K (.ref C) (.ref a.C_TooGreat) = some (a.is_TooGreat C)
  i_Knotted : ∀ C ∈ a.xs, L2.ExcC K C ∧ PySem.W.kitOne K (.ref C) (.ref a.C_Knotted) = some (a.is_Knotted C)
  i_NoKind : ∀ C ∈ a.xs, L2.ExcC K C ∧ PySem.W.kitOne K (.ref C) (.ref a.C_NoKind) = some (a.is_NoKind C)
  i_NoCell : ∀ C ∈ a.xs, L2.ExcC K C ∧ PySem.W.kitOne K (.ref C) (.ref a.C_NoCell) = some (a.is_NoCell C)
  i_NoCheck : ∀ C ∈ a.xs, L2.ExcC K C ∧ PySem.W.kitOne K (.ref C) (.ref a.C_NoCheck) = some (a.is_NoCheck C)
  i_BatchError : ∀ C ∈ a.xs, L2.ExcC K C ∧ PySem.W.kitOne K (.ref C) (.ref a.C_BatchError) = some (a.is_BatchError C)
  e_BadBook : ∀ C ∈ a.xs, PySem.W.exmOne K (.ref C) (.ref a.C_BadBook) = some (a.is_BadBook C)
  e_BadState : ∀ C ∈ a.xs, PySem.W.exmOne K (.ref C) (.ref a.C_BadState) = some (a.is_BadState C)
  e_BadStore : ∀ C ∈ a.xs, PySem.W.exmOne K (.ref C) (.ref a.C_BadStore) = some (a.is_BadStore C)
  e_BadText : ∀ C ∈ a.xs, PySem.W.exmOne K (.ref C) (.ref a.C_BadText) = some (a.is_BadText C)
  e_Refused : ∀ C ∈ a.xs, PySem.W.exmOne K (.ref C) (.ref a.C_Refused) = some (a.is_Refused C)
  e_TooGreat : ∀ C ∈ a.xs, PySem.W.exmOne K (.ref C) (.ref a.C_TooGreat) = some (a.is_TooGreat C)
  e_NoKind : ∀ C ∈ a.xs, PySem.W.exmOne K (.ref C) (.ref a.C_NoKind) = some (a.is_NoKind C)
  e_NoCell : ∀ C ∈ a.xs, PySem.W.exmOne K (.ref C) (.ref a.C_NoCell) = some (a.is_NoCell C)
  e_NoCheck : ∀ C ∈ a.xs, PySem.W.exmOne K (.ref C) (.ref a.C_NoCheck) = some (a.is_NoCheck C)
  i_KeyError : ∀ C ∈ a.xs, L2.ExcC K C ∧ PySem.W.kitOne K (.ref C) (.type "KeyError") = some (a.is_KeyError C)
  i_ValueError : ∀ C ∈ a.xs, L2.ExcC K C ∧ PySem.W.kitOne K (.ref C) (.type "ValueError") = some (a.is_ValueError C)
  xf_at : ∀ C ∈ a.xs_at, XfC K C ∧ PySem.W.findIn K (.ref C) "at" = some none
  xf_cell : ∀ C ∈ a.xs_cell, XfC K C ∧ PySem.W.findIn K (.ref C) "cell" = some none
  xf_check : ∀ C ∈ a.xs_check, XfC K C ∧ PySem.W.findIn K (.ref C) "check" = some none
  xf_kind : ∀ C ∈ a.xs_kind, XfC K C ∧ PySem.W.findIn K (.ref C) "kind" = some none
  xf_kinds : ∀ C ∈ a.xs_kinds, XfC K C ∧ PySem.W.findIn K (.ref C) "kinds" = some none
  xf_most : ∀ C ∈ a.xs_most, XfC K C ∧ PySem.W.findIn K (.ref C) "most" = some none
  f14 : Addr
  d14 : FuncData
  h14 : Df K mg "is_sequence" "is_sequence" s14 f14 d14 ["value"]
  f15 : Addr
  d15 : FuncData
  h15 : Df K mg "is_whole" "is_whole" s15 f15 d15 ["value"]
  f16 : Addr
  d16 : FuncData
  h16 : Df K mg "is_below" "is_below" s16 f16 d16 ["value", "limit"]
  f18 : Addr
  d18 : FuncData
  h18 : Df K mg "is_row" "is_row" s18 f18 d18 ["value", "limits"]
  f17 : Addr
  d17 : FuncData
  h17 : Df K mg "are_below" "are_below" s17 f17 d17 ["value", "limit"]
  f25 : Addr
  d25 : FuncData
  h25 : Df K mg "are_columns" "are_columns" s25 f25 d25 ["value"]
  f28 : Addr
  d28 : FuncData
  h28 : Df K mg "are_rows" "are_rows" s28 f28 d28 ["sizes", "value"]
  f27 : Addr
  d27 : FuncData
  h27 : Df K mg "are_places" "are_places" s27 f27 d27 ["columns", "value"]
  f26 : Addr
  d26 : FuncData
  h26 : Df K mg "is_check" "is_check" s26 f26 d26 ["columns", "value"]
  f29 : Addr
  d29 : FuncData
  h29 : Df K mg "tidy_check" "tidy_check" s29 f29 d29 ["places", "rows"]
  f30 : Addr
  d30 : FuncData
  h30 : Df K mg "table_of" "table_of" s30 f30 d30 ["rows"]
  f31 : Addr
  d31 : FuncData
  h31 : Df K mg "need_check" "need_check" s31 f31 d31 ["book", "value"]
  f33 : Addr
  d33 : FuncData
  h33 : Df K mg "is_kind" "is_kind" s33 f33 d33 ["book", "value"]
  f34 : Addr
  d34 : FuncData
  h34 : Df K mg "need_kind" "need_kind" s34 f34 d34 ["book", "value"]
  f24_2 : Addr
  d24_2 : FuncData
  h24_2 : L2.Fun K "lets" "Book.lets" s24_2 f24_2 d24_2
  f24_0 : Addr
  d24_0 : FuncData
  e24_0 : Addr
  h24_0 : FunD K "__init__" "Book.__init__" (defArgs s24_0) (defBody s24_0) (defScope s24_0) [.ref e24_0] [] f24_0 d24_0
  f51 : Addr
  d51 : FuncData
  h51 : Df K mg "are_cells" "are_cells" s51 f51 d51 ["book", "value"]
  f52 : Addr
  d52 : FuncData
  h52 : Df K mg "is_laid" "is_laid" s52 f52 d52 ["book", "cells", "value"]
  f53 : Addr
  d53 : FuncData
  h53 : Df K mg "laid_by_cell" "laid_by_cell" s53 f53 d53 ["cells", "laid"]
  f50_0 : Addr
  d50_0 : FuncData
  e50_0 : Addr
  h50_0 : FunD K "__init__" "Store.__init__" (defArgs s50_0) (defBody s50_0) (defScope s50_0) [.ref e50_0] [] f50_0 d50_0
  f54 : Addr
  d54 : FuncData
  h54 : Df K mg "need_cell" "need_cell" s54 f54 d54 ["store", "value"]
  f55 : Addr
  d55 : FuncData
  h55 : Df K mg "state_fault" "state_fault" s55 f55 d55 ["store", "value"]
  f56 : Addr
  d56 : FuncData
  h56 : Df K mg "check_state" "check_state" s56 f56 d56 ["store", "value"]
  f57 : Addr
  d57 : FuncData
  h57 : Df K mg "looked_row" "looked_row" s57 f57 d57 ["store", "values", "number"]
  f58 : Addr
  d58 : FuncData
  h58 : Df K mg "lets_at" "lets_at" s58 f58 d58 ["store", "values", "number"]
  f59 : Addr
  d59 : FuncData
  h59 : Df K mg "broken" "broken" s59 f59 d59 ["store", "state"]
  f60 : Addr
  d60 : FuncData
  h60 : Df K mg "is_good" "is_good" s60 f60 d60 ["store", "state"]
  f61 : Addr
  d61 : FuncData
  h61 : Df K mg "good_state" "good_state" s61 f61 d61 ["store", "state"]
  f62 : Addr
  d62 : FuncData
  h62 : Df K mg "check_batch" "check_batch" s62 f62 d62 ["store", "old", "new"]
  f63 : Addr
  d63 : FuncData
  h63 : Df K mg "unlike_cells" "unlike_cells" s63 f63 d63 ["one", "other"]
  f66 : Addr
  d66 : FuncData
  h66 : Df K mg "find_faults" "find_faults" s66 f66 d66 ["rules", "store", "start", "goal", "bits"]
  f65_0 : Addr
  d65_0 : FuncData
  h65_0 : L2.Fun K "__init__" "Course.__init__" s65_0 f65_0 d65_0
  f67 : Addr
  d67 : FuncData
  h67 : Df K mg "has_fault" "has_fault" s67 f67 d67 ["faults", "lot"]
  f69 : Addr
  d69 : FuncData
  h69 : Df K mg "longer_by_one" "longer_by_one" s69 f69 d69 ["course", "lot"]
  f71 : Addr
  d71 : FuncData
  c_gs : Addr
  h71 : DfL K mg "group_steps" "group_steps" s71 f71 d71 c_gs ["course", "size"]
  tb_gs : LamX.TabB base mg c_gs a.p_gs
  f43 : Addr
  d43 : FuncData
  h43 : Df K mg "search_from" "search_from" s43 f43 d43 ["start", "steps", "most"]
  f44 : Addr
  d44 : FuncData
  h44 : Df K mg "search_lots" "search_lots" s44 f44 d44 ["steps", "most"]
  f45 : Addr
  d45 : FuncData
  h45 : Df K mg "count_ways" "count_ways" s45 f45 d45 ["ahead", "steps", "goal"]
  f73 : Addr
  d73 : FuncData
  h73 : Df K mg "course_of" "course_of" s73 f73 d73 ["store", "old", "new"]
  f74 : Addr
  d74 : FuncData
  h74 : Df K mg "count_orders" "count_orders" s74 f74 d74 ["course", "most"]
  f76 : Addr
  d76 : FuncData
  h76 : DfK K mg "nth_order" "nth_order" s76 f76 d76
  kb_76 : Kb K d76 ["store", "old", "new", "number", "most"] 4 ["most"] (fun ds zs => ds ++ zs)
  f79 : Addr
  d79 : FuncData
  h79 : Df K mg "is_figures" "is_figures" s79 f79 d79 ["word"]
  f80 : Addr
  d80 : FuncData
  h80 : Df K mg "is_written_number" "is_written_number" s80 f80 d80 ["word"]
  f81 : Addr
  d81 : FuncData
  h81 : Df K mg "numbers_behind" "numbers_behind" s81 f81 d81 ["opening", "line"]
  f82 : Addr
  d82 : FuncData
  h82 : Df K mg "rows_from" "rows_from" s82 f82 d82 ["text"]
  f83 : Addr
  d83 : FuncData
  h83 : Df K mg "check_from" "check_from" s83 f83 d83 ["columns", "line"]
  f84 : Addr
  d84 : FuncData
  h84 : Df K mg "book_from" "book_from" s84 f84 d84 ["lines"]
  f85 : Addr
  d85 : FuncData
  h85 : Df K mg "read_book" "read_book" s85 f85 d85 ["text"]
  f87 : Addr
  d87 : FuncData
  h87 : Df K mg "_law_box" "_law_box" s87 f87 d87 ["_law_script", "_law_k"]
  f88 : Addr
  d88 : FuncData
  h88 : Df K mg "_law_take" "_law_take" s88 f88 d88 ["_law_box_here", "_law_many"]
  f89 : Addr
  d89 : FuncData
  h89 : Df K mg "_law_pick" "_law_pick" s89 f89 d89 ["_law_box_here", "_law_some"]
  f90 : Addr
  d90 : FuncData
  h90 : Df K mg "_law_value" "_law_value" s90 f90 d90 ["_law_box_here"]
  f91 : Addr
  d91 : FuncData
  h91 : Df K mg "_law_bases" "_law_bases" s91 f91 d91 ["_law_error"]
  f92 : Addr
  d92 : FuncData
  h92 : Df K mg "_law_kept_right" "_law_kept_right" s92 f92 d92 ["_law_box_here"]
  f93 : Addr
  d93 : FuncData
  c_ask : Addr
  h93 : DfL K mg "_law_ask" "_law_ask" s93 f93 d93 c_ask ["_law_number", "_law_length"]
  tb_ask : LamX.TabB base mg c_ask a.p_ask
  f94 : Addr
  d94 : FuncData
  h94 : Df K mg "_law_raised" "_law_raised" s94 f94 d94 ["_law_number", "_law_length"]
  f95 : Addr
  d95 : FuncData
  h95 : Df K mg "law" "law" s95 f95 d95 ["_law_script"]
  m_Book : mg "Book" = some (.ref a.C_Book)
  M_Book : Mk K a.C_Book f24_0
  cl_Book : Cls K a.C_Book
  m_Store : mg "Store" = some (.ref a.C_Store)
  M_Store : Mk K a.C_Store f50_0
  cl_Store : Cls K a.C_Store
  m_Course : mg "Course" = some (.ref a.C_Course)
  M_Course : Mk K a.C_Course f65_0
  cl_Course : Cls K a.C_Course
  mt_Book_lets : Meth K a.C_Book "lets" f24_2
  kb_Book_lets : Kb K d24_2 ["self", "check", "row"] 3 [] (fun ds _ => ds)
  kb_Book_2 : Kb K d24_0 ["self", "columns", "checks"] 3 [] (fun ds _ => ds)
  kb_Course_4 : Kb K d65_0 ["self", "rules", "store", "start", "goal"] 5 [] (fun ds _ => ds)
  kb_Store_2 : Kb K d50_0 ["self", "book", "cells", "laid"] 3 [] (fun ds _ => ds ++ [.ctp []])
  kb_Store_3 : Kb K d50_0 ["self", "book", "cells", "laid"] 4 [] (fun ds _ => ds)
section
variable {P : Program} {w : World} {K : PySem.W.Frag} {mg : Str → Option Value} {base : Heap} {a : Ad}
theorem sc14 : FnScope ["value"] ["value"] (defScope s14) := ⟨rfl, rfl, rfl, by decide +kernel, rfl, by decide +kernel, by decide +kernel⟩
def g14 (a : Ad) : List D → S → MF.R D := fnD 1 (sRet (mIsi (fun c => isiB c "list" || isiB c "tuple") (mVar 0)))
theorem ok14 (T : Tx P w K mg base a) : FnG P w K mg base 2 T.f14 T.d14 ["value"] (g14 a) :=
  fnG_of T.h14.fn sc14 fun cdv A outer s H E hr hgd => have tk := L2N.takes_of (X := cxOf (L2N.CX P w) P w K mg base ["value"] "is_sequence" (defScope s14) T.f14 cdv A outer s H E) (E := E) rfl rfl rfl rfl; (ms_one (ms_ret (me_isi2 kit_list kit_tuple (by rfl) T.isinstance (by rfl) T.list rfl (by rfl) T.tuple (by rfl) (me_var 0))))
theorem sc15 : FnScope ["value"] ["value"] (defScope s15) := ⟨rfl, rfl, rfl, by decide +kernel, rfl, by decide +kernel, by decide +kernel⟩
def g15 (a : Ad) : List D → S → MF.R D := fnD 1 (sRet (mAnd (mIsi (fun c => isiB c "int") (mVar 0)) (mNotT (mIsi (fun c => isiB c "bool") (mVar 0)))))
theorem ok15 (T : Tx P w K mg base a) : FnG P w K mg base 2 T.f15 T.d15 ["value"] (g15 a) :=
  fnG_of T.h15.fn sc15 fun cdv A outer s H E hr hgd => have tk := L2N.takes_of (X := cxOf (L2N.CX P w) P w K mg base ["value"] "is_whole" (defScope s15) T.f15 cdv A outer s H E) (E := E) rfl rfl rfl rfl; (ms_one (ms_ret (me_and (me_isi kit_int (by rfl) T.isinstance (by rfl) T.int (by rfl) (me_var 0)) (pe_one (me_notT (me_isi kit_bool (by rfl) T.isinstance (by rfl) T.bool (by rfl) (me_var 0)))))))
theorem sc16 : FnScope ["value", "limit"] ["value", "limit"] (defScope s16) := ⟨rfl, rfl, rfl, by decide +kernel, rfl, by decide +kernel, by decide +kernel⟩
def g16 (a : Ad) : List D → S → MF.R D := fnD 2 (sRet (mAnd (mCall (kCall 1 (g15 a)) (mCons (mVar 0) mNil)) (mChain (gCmp fun i j => decide (i ≤ j)) (gCmp fun i j => decide (i < j)) (mC (.int 0)) (mVar 0) (mVar 1))))
theorem ok16 (T : Tx P w K mg base a) : FnG P w K mg base 3 T.f16 T.d16 ["value", "limit"] (g16 a) :=
  fnG_of T.h16.fn sc16 fun cdv A outer s H E hr hgd => have tk := L2N.takes_of (X := cxOf (L2N.CX P w) P w K mg base ["value", "limit"] "is_below" (defScope s16) T.f16 cdv A outer s H E) (E := E) rfl rfl rfl rfl; (ms_one (ms_ret (me_and (me_callN (ok15 T) (hr.mono (by decide)) hgd tk (by rfl) T.h15.mg T.h15.kp T.h15.bi (ma_cons (me_var 0) ma_nil)) (pe_one (me_chain (op2_cmp _) (op2_cmp _) op_le op_lt me_int (me_var 0) (me_var 1))))))
theorem sc18 : FnScope ["value", "limits", "item", "limit"] ["value", "limits"] (defScope s18) := ⟨rfl, rfl, rfl, by decide +kernel, rfl, by decide +kernel, by decide +kernel⟩
def g18 (a : Ad) : List D → S → MF.R D := fnD 4 (sSeq (sIf (tOr2 (tNot1 (mTest (mCall (kCall 1 (g14 a)) (mCons (mVar 0) mNil)))) (mTest (mBin (gEq true) (mCall gLen (mCons (mVar 0) mNil)) (mCall gLen (mCons (mVar 1) mNil))))) (sRet (mC (.bl false))) sNil) (sSeq (sFor (itZip (mCons (mVar 0) (mCons (mVar 1) mNil))) (gTG 2 (gCo (gN 2) (gCo (gN 3) (gNs [])))) (sIf (tNot1 (mTest (mCall (kCall 2 (g16 a)) (mCons (mVar 2) (mCons (mVar 3) mNil))))) (sRet (mC (.bl false))) sNil)) (sRet (mC (.bl true)))))
theorem ok18 (T : Tx P w K mg base a) : FnG P w K mg base 4 T.f18 T.d18 ["value", "limits"] (g18 a) :=
  fnG_of T.h18.fn sc18 fun cdv A outer s H E hr hgd => have tk := L2N.takes_of (X := cxOf (L2N.CX P w) P w K mg base ["value", "limits", "item", "limit"] "is_row" (defScope s18) T.f18 cdv A outer s H E) (E := E) rfl rfl rfl rfl; (ms_cons (ms_if ((mw_or (mt_not (mt_val (me_callN (ok14 T) (hr.mono (by decide)) hgd tk (by rfl) T.h14.mg T.h14.kp T.h14.bi (ma_cons (me_var 0) ma_nil)))) (pw_or1 (mt_cmp op2_ne (op_neD hr.u64) (me_callB cl_len call_len (by rfl) T.len (by rfl) (ma_cons (me_var 0) ma_nil)) (me_callB cl_len call_len (by rfl) T.len (by rfl) (ma_cons (me_var 1) ma_nil)) (by first | exact nobehind _ (by decide) (by decide) | rfl))))).pt (ms_one (ms_ret me_bl)) ms_nil) (ms_cons (ms_for (passes_of rfl) rfl (mi_zip (by rfl) T.zip (ma_cons (me_var 0) (ma_cons (me_var 1) ma_nil))) (mg_tupG rfl (mgs_co (mg_name sc18.nd) (mgs_co (mg_name sc18.nd) mgs_nil))) (ms_one (ms_if (mt_not (mt_val (me_callN (ok16 T) (hr.mono (by decide)) hgd tk (by rfl) T.h16.mg T.h16.kp T.h16.bi (ma_cons (me_var 2) (ma_cons (me_var 3) ma_nil))))) (ms_one (ms_ret me_bl)) ms_nil))) (ms_one (ms_ret me_bl))))
theorem sc17 : FnScope ["value", "limit"] ["value", "limit"] (defScope s17) := ⟨rfl, rfl, rfl, by decide +kernel, rfl, by decide +kernel, by decide +kernel⟩
def g17 (a : Ad) : List D → S → MF.R D := fnD 2 (sRet (mAnd (mCall (kCall 1 (g14 a)) (mCons (mVar 0) mNil)) (mCall (kCall 2 (g18 a)) (mCons (mVar 0) (mCons (mBin (gMul) (mLst (mCons (mVar 1) mNil)) (mCall gLen (mCons (mVar 0) mNil))) mNil)))))
theorem ok17 (T : Tx P w K mg base a) : FnG P w K mg base 5 T.f17 T.d17 ["value", "limit"] (g17 a) :=
  fnG_of T.h17.fn sc17 fun cdv A outer s H E hr hgd => have tk := L2N.takes_of (X := cxOf (L2N.CX P w) P w K mg base ["value", "limit"] "are_below" (defScope s17) T.f17 cdv A outer s H E) (E := E) rfl rfl rfl rfl; (ms_one (ms_ret (me_and (me_callN (ok14 T) (hr.mono (by decide)) hgd tk (by rfl) T.h14.mg T.h14.kp T.h14.bi (ma_cons (me_var 0) ma_nil)) (pe_one (me_callN (ok18 T) (hr.mono (by decide)) hgd tk (by rfl) T.h18.mg T.h18.kp T.h18.bi (ma_cons (me_var 0) (ma_cons (me_bin op2_mul op_mulD (me_lst (ma_cons (me_var 1) ma_nil)) (me_callB cl_len call_len (by rfl) T.len (by rfl) (ma_cons (me_var 0) ma_nil))) ma_nil)))))))
theorem sc25 : FnScope ["value"] ["value"] (defScope s25) := ⟨rfl, rfl, rfl, by decide +kernel, rfl, by decide +kernel, by decide +kernel⟩
def g25 (a : Ad) : List D → S → MF.R D := fnD 1 (sRet (mAnd (mCall (kCall 2 (g17 a)) (mCons (mVar 0) (mCons (mBin (gAdd) (mC (.int 4)) (mC (.int 1))) mNil))) (mAnd (mChain (gCmp fun i j => decide (i ≤ j)) (gCmp fun i j => decide (i ≤ j)) (mC (.int 1)) (mCall gLen (mCons (mVar 0) mNil)) (mC (.int 4))) (mBin (gIn true) (mC (.int 0)) (mVar 0)))))
theorem ok25 (T : Tx P w K mg base a) : FnG P w K mg base 6 T.f25 T.d25 ["value"] (g25 a) :=
  fnG_of T.h25.fn sc25 fun cdv A outer s H E hr hgd => have tk := L2N.takes_of (X := cxOf (L2N.CX P w) P w K mg base ["value"] "are_columns" (defScope s25) T.f25 cdv A outer s H E) (E := E) rfl rfl rfl rfl; (ms_one (ms_ret (me_and (me_callN (ok17 T) (hr.mono (by decide)) hgd tk (by rfl) T.h17.mg T.h17.kp T.h17.bi (ma_cons (me_var 0) (ma_cons (me_bin op2_add op_addD (me_globI (by rfl) T.c_MOST_VALUES) me_int) ma_nil))) (me_and (me_chain (op2_cmp _) (op2_cmp _) op_le op_le me_int (me_callB cl_len call_len (by rfl) T.len (by rfl) (ma_cons (me_var 0) ma_nil)) (me_globI (by rfl) T.c_MOST_COLUMNS)) (pe_one (me_cmp (op2_in true) op_notIn_seq me_int (me_var 0) (by first | exact nobehind _ (by decide) (by decide) | rfl)))))))
theorem sc28 : FnScope ["sizes", "value", "row"] ["sizes", "value"] (defScope s28) := ⟨rfl, rfl, rfl, by decide +kernel, rfl, by decide +kernel, by decide +kernel⟩
def g28 (a : Ad) : List D → S → MF.R D := fnD 3 (sSeq (sIf (tNot1 (mTest (mCall (kCall 1 (g14 a)) (mCons (mVar 1) mNil)))) (sRet (mC (.bl false))) sNil) (sSeq (sFor (itS (mVar 1)) (gN 2) (sIf (tNot1 (mTest (mCall (kCall 2 (g18 a)) (mCons (mVar 2) (mCons (mVar 0) mNil))))) (sRet (mC (.bl false))) sNil)) (sRet (mC (.bl true)))))
theorem ok28 (T : Tx P w K mg base a) : FnG P w K mg base 5 T.f28 T.d28 ["sizes", "value"] (g28 a) :=
  fnG_of T.h28.fn sc28 fun cdv A outer s H E hr hgd => have tk := L2N.takes_of (X := cxOf (L2N.CX P w) P w K mg base ["sizes", "value", "row"] "are_rows" (defScope s28) T.f28 cdv A outer s H E) (E := E) rfl rfl rfl rfl; (ms_cons (ms_if (mt_not (mt_val (me_callN (ok14 T) (hr.mono (by decide)) hgd tk (by rfl) T.h14.mg T.h14.kp T.h14.bi (ma_cons (me_var 1) ma_nil)))) (ms_one (ms_ret me_bl)) ms_nil) (ms_cons (ms_for (passes_of rfl) rfl (mi_seq (me_var 1)) (mg_name sc28.nd) (ms_one (ms_if (mt_not (mt_val (me_callN (ok18 T) (hr.mono (by decide)) hgd tk (by rfl) T.h18.mg T.h18.kp T.h18.bi (ma_cons (me_var 2) (ma_cons (me_var 0) ma_nil))))) (ms_one (ms_ret me_bl)) ms_nil))) (ms_one (ms_ret me_bl))))
theorem sc27 : FnScope ["columns", "value"] ["columns", "value"] (defScope s27) := ⟨rfl, rfl, rfl, by decide +kernel, rfl, by decide +kernel, by decide +kernel⟩
def g27 (a : Ad) : List D → S → MF.R D := fnD 2 (sRet (mAnd (mCall (kCall 2 (g17 a)) (mCons (mVar 1) (mCons (mCall gLen (mCons (mVar 0) mNil)) mNil))) (mChain (gCmp fun i j => decide (i ≤ j)) (gCmp fun i j => decide (i ≤ j)) (mC (.int 1)) (mCall gLen (mCons (mVar 1) mNil)) (mC (.int 3)))))
theorem ok27 (T : Tx P w K mg base a) : FnG P w K mg base 6 T.f27 T.d27 ["columns", "value"] (g27 a) :=
  fnG_of T.h27.fn sc27 fun cdv A outer s H E hr hgd => have tk := L2N.takes_of (X := cxOf (L2N.CX P w) P w K mg base ["columns", "value"] "are_places" (defScope s27) T.f27 cdv A outer s H E) (E := E) rfl rfl rfl rfl; (ms_one (ms_ret (me_and (me_callN (ok17 T) (hr.mono (by decide)) hgd tk (by rfl) T.h17.mg T.h17.kp T.h17.bi (ma_cons (me_var 1) (ma_cons (me_callB cl_len call_len (by rfl) T.len (by rfl) (ma_cons (me_var 0) ma_nil)) ma_nil))) (pe_one (me_chain (op2_cmp _) (op2_cmp _) op_le op_le me_int (me_callB cl_len call_len (by rfl) T.len (by rfl) (ma_cons (me_var 1) ma_nil)) (me_globI (by rfl) T.c_MOST_PLACES))))))
theorem sc26 : FnScope ["columns", "value", "places", "rows", "column"] ["columns", "value"] (defScope s26) := ⟨rfl, rfl, rfl, by decide +kernel, rfl, by decide +kernel, by decide +kernel⟩
def g26 (a : Ad) : List D → S → MF.R D := fnD 5 (sSeq (sIf (tOr2 (tNot1 (mTest (mCall (kCall 1 (g14 a)) (mCons (mVar 1) mNil)))) (mTest (mBin (gEq true) (mCall gLen (mCons (mVar 1) mNil)) (mC (.int 2))))) (sRet (mC (.bl false))) sNil) (sSeq (sAsg (gTG 2 (gCo (gN 2) (gCo (gN 3) (gNs [])))) (mVar 1)) (sRet (mAnd (mCall (kCall 2 (g27 a)) (mCons (mVar 0) (mCons (mVar 2) mNil))) (mCall (kCall 2 (g28 a)) (mCons (mComp [4] (itS (mVar 2)) (gN 4) tTrue (mBin gIx (mVar 0) (mVar 4))) (mCons (mVar 3) mNil)))))))
theorem ok26 (T : Tx P w K mg base a) : FnG P w K mg base 7 T.f26 T.d26 ["columns", "value"] (g26 a) :=
  fnG_of T.h26.fn sc26 fun cdv A outer s H E hr hgd => have tk := L2N.takes_of (X := cxOf (L2N.CX P w) P w K mg base ["columns", "value", "places", "rows", "column"] "is_check" (defScope s26) T.f26 cdv A outer s H E) (E := E) rfl rfl rfl rfl; (ms_cons (ms_if ((mw_or (mt_not (mt_val (me_callN (ok14 T) (hr.mono (by decide)) hgd tk (by rfl) T.h14.mg T.h14.kp T.h14.bi (ma_cons (me_var 1) ma_nil)))) (pw_or1 (mt_cmp op2_ne (op_neD hr.u64) (me_callB cl_len call_len (by rfl) T.len (by rfl) (ma_cons (me_var 1) ma_nil)) me_int (by first | exact nobehind _ (by decide) (by decide) | rfl))))).pt (ms_one (ms_ret me_bl)) ms_nil) (ms_cons (ms_asg (me_var 1) (mg_tupG rfl (mgs_co (mg_name sc26.nd) (mgs_co (mg_name sc26.nd) mgs_nil)))) (ms_one (ms_ret (me_and (me_callN (ok27 T) (hr.mono (by decide)) hgd tk (by rfl) T.h27.mg T.h27.kp T.h27.bi (ma_cons (me_var 0) (ma_cons (me_var 2) ma_nil))) (pe_one (me_callN (ok28 T) (hr.mono (by decide)) hgd tk (by rfl) T.h28.mg T.h28.kp T.h28.bi (ma_cons (me_lc rfl sc26.nd (mi_seq (me_var 2)) (own := [("column", 4)]) (blkOk_by (N := ["columns", "value", "places", "rows", "column"]) (sc := defScope s26) (by decide +kernel)) (by decide) (fun _ _ _ _ _ => (mg_name sc26.nd)) (fun _ _ _ _ _ => mts_nil) (fun _ _ _ _ _ => (me_ix (me_var 0) (me_var 4)))) (ma_cons (me_var 3) ma_nil)))))))))
theorem sc29 : FnScope ["places", "rows", "row"] ["places", "rows"] (defScope s29) := ⟨rfl, rfl, rfl, by decide +kernel, rfl, by decide +kernel, by decide +kernel⟩
def g29 (a : Ad) : List D → S → MF.R D := fnD 3 (sRet (mTup (mCons (mCall gTuple (mCons (mVar 0) mNil)) (mCons (mCall gTuple (mCons (mSorC [2] (itS (mVar 1)) (gN 2) tTrue (mCall gTuple (mCons (mVar 2) mNil))) mNil)) mNil))))
theorem ok29 (T : Tx P w K mg base a) : FnG P w K mg base 2 T.f29 T.d29 ["places", "rows"] (g29 a) :=
  fnG_of T.h29.fn sc29 fun cdv A outer s H E hr hgd => have tk := L2N.takes_of (X := cxOf (L2N.CX P w) P w K mg base ["places", "rows", "row"] "tidy_check" (defScope s29) T.f29 cdv A outer s H E) (E := E) rfl rfl rfl rfl; (ms_one (ms_ret (me_tup (ma_cons (me_callTy cl_tuple call_tuple_of (by rfl) T.tuple (by rfl) (ma_cons (me_var 0) ma_nil)) (ma_cons (me_callTy cl_tuple call_tuple_of (by rfl) T.tuple (by rfl) (ma_cons (me_sorC hr.u1 rfl sc29.nd (by rfl) T.sorted (mi_seq (me_var 1)) (own := [("row", 2)]) (blkOk_by (N := ["places", "rows", "row"]) (sc := defScope s29) (by decide +kernel)) (by decide) (fun _ _ _ _ _ => (mg_name sc29.nd)) (fun _ _ _ _ _ => mts_nil) (fun _ _ _ _ _ => (me_callTy cl_tuple call_tuple_of (by rfl) T.tuple (by rfl) (ma_cons (me_var 2) ma_nil)))) ma_nil)) ma_nil)))))
theorem sc30 : FnScope ["rows", "row"] ["rows"] (defScope s30) := ⟨rfl, rfl, rfl, by decide +kernel, rfl, by decide +kernel, by decide +kernel⟩
def g30 (a : Ad) : List D → S → MF.R D := fnD 2 (sRet (mCo (.dct []) [1] (itS (mVar 0)) (gN 1) tTrue (aDic (mVar 1) (mC (.bl true)))))
theorem ok30 (T : Tx P w K mg base a) : FnG P w K mg base 2 T.f30 T.d30 ["rows"] (g30 a) :=
  fnG_of T.h30.fn sc30 fun cdv A outer s H E hr hgd => have tk := L2N.takes_of (X := cxOf (L2N.CX P w) P w K mg base ["rows", "row"] "table_of" (defScope s30) T.f30 cdv A outer s H E) (E := E) rfl rfl rfl rfl; (ms_one (ms_ret (me_dcT hr.u1 rfl sc30.nd (mi_seq (me_var 0)) (own := [("row", 1)]) (blkOk_by (N := ["rows", "row"]) (sc := defScope s30) (by decide +kernel)) (by decide) (fun _ _ _ _ _ => (mg_name sc30.nd)) (fun _ _ _ _ _ => mts_nil) (fun _ _ _ _ _ => (me_var 1)) (fun _ _ _ _ _ => me_bl)).1))
theorem sc31 : FnScope ["book", "value"] ["book", "value"] (defScope s31) := ⟨rfl, rfl, rfl, by decide +kernel, rfl, by decide +kernel, by decide +kernel⟩
def g31 (a : Ad) : List D → S → MF.R D := fnD 2 (sSeq (sIf (tNot1 (mTest (mCall (kCall 2 (g16 a)) (mCons (mVar 1) (mCons (mCall gLen (mCons (mFld a.cs_checks "checks" (mVar 0)) mNil)) mNil))))) (sRaise a.C_NoCheck "check" (mVar 1)) sNil) (sRet (mVar 1)))
theorem ok31 (T : Tx P w K mg base a) : FnG P w K mg base 4 T.f31 T.d31 ["book", "value"] (g31 a) :=
  fnG_of T.h31.fn sc31 fun cdv A outer s H E hr hgd => have tk := L2N.takes_of (X := cxOf (L2N.CX P w) P w K mg base ["book", "value"] "need_check" (defScope s31) T.f31 cdv A outer s H E) (E := E) rfl rfl rfl rfl; (ms_cons (ms_if (mt_not (mt_val (me_callN (ok16 T) (hr.mono (by decide)) hgd tk (by rfl) T.h16.mg T.h16.kp T.h16.bi (ma_cons (me_var 1) (ma_cons (me_callB cl_len call_len (by rfl) T.len (by rfl) (ma_cons (me_fld T.f_checks (me_var 0)) ma_nil)) ma_nil))))) (ms_one (ms_raise T.x_NoCheck rfl tk (hr.mono (by decide)) (by rfl) (me_var 1))) ms_nil) (ms_one (ms_ret (me_var 1))))
theorem sc33 : FnScope ["book", "value", "size"] ["book", "value"] (defScope s33) := ⟨rfl, rfl, rfl, by decide +kernel, rfl, by decide +kernel, by decide +kernel⟩
def g33 (a : Ad) : List D → S → MF.R D := fnD 3 (sSeq (sIf (tOr2 (tNot1 (mTest (mCall (kCall 1 (g14 a)) (mCons (mVar 1) mNil)))) (tOr2 (mTest (mBin (gEq true) (mCall gLen (mCons (mVar 1) mNil)) (mC (.int 3)))) (tNot1 (mTest (mCall (kCall 2 (g16 a)) (mCons (mBin gIx (mVar 1) (mC (.int 0))) (mCons (mCall gLen (mCons (mFld a.cs_columns "columns" (mVar 0)) mNil)) mNil))))))) (sRet (mC (.bl false))) sNil) (sSeq (sAsg (gN 2) (mBin gIx (mFld a.cs_columns "columns" (mVar 0)) (mBin gIx (mVar 1) (mC (.int 0))))) (sRet (mAnd (mCall (kCall 2 (g16 a)) (mCons (mBin gIx (mVar 1) (mC (.int 1))) (mCons (mVar 2) mNil))) (mAnd (mCall (kCall 2 (g16 a)) (mCons (mBin gIx (mVar 1) (mC (.int 2))) (mCons (mVar 2) mNil))) (mBin (gEq true) (mBin gIx (mVar 1) (mC (.int 1))) (mBin gIx (mVar 1) (mC (.int 2)))))))))
theorem ok33 (T : Tx P w K mg base a) : FnG P w K mg base 4 T.f33 T.d33 ["book", "value"] (g33 a) :=
  fnG_of T.h33.fn sc33 fun cdv A outer s H E hr hgd => have tk := L2N.takes_of (X := cxOf (L2N.CX P w) P w K mg base ["book", "value", "size"] "is_kind" (defScope s33) T.f33 cdv A outer s H E) (E := E) rfl rfl rfl rfl; (ms_cons (ms_if ((mw_or (mt_not (mt_val (me_callN (ok14 T) (hr.mono (by decide)) hgd tk (by rfl) T.h14.mg T.h14.kp T.h14.bi (ma_cons (me_var 1) ma_nil)))) (mw_or (mt_cmp op2_ne (op_neD hr.u64) (me_callB cl_len call_len (by rfl) T.len (by rfl) (ma_cons (me_var 1) ma_nil)) me_int (by first | exact nobehind _ (by decide) (by decide) | rfl)) (pw_or1 (mt_not (mt_val (me_callN (ok16 T) (hr.mono (by decide)) hgd tk (by rfl) T.h16.mg T.h16.kp T.h16.bi (ma_cons (me_ix (me_var 1) me_int) (ma_cons (me_callB cl_len call_len (by rfl) T.len (by rfl) (ma_cons (me_fld T.f_columns (me_var 0)) ma_nil)) ma_nil))))))))).pt (ms_one (ms_ret me_bl)) ms_nil) (ms_cons (ms_set (i := 2) sc33.nd (me_ix (me_fld T.f_columns (me_var 0)) (me_ix (me_var 1) me_int))) (ms_one (ms_ret (me_and (me_callN (ok16 T) (hr.mono (by decide)) hgd tk (by rfl) T.h16.mg T.h16.kp T.h16.bi (ma_cons (me_ix (me_var 1) me_int) (ma_cons (me_var 2) ma_nil))) (me_and (me_callN (ok16 T) (hr.mono (by decide)) hgd tk (by rfl) T.h16.mg T.h16.kp T.h16.bi (ma_cons (me_ix (me_var 1) me_int) (ma_cons (me_var 2) ma_nil))) (pe_one (me_cmp op2_ne (op_neD hr.u64) (me_ix (me_var 1) me_int) (me_ix (me_var 1) me_int) (by first | exact nobehind _ (by decide) (by decide) | rfl)))))))))
theorem sc34 : FnScope ["book", "value"] ["book", "value"] (defScope s34) := ⟨rfl, rfl, rfl, by decide +kernel, rfl, by decide +kernel, by decide +kernel⟩
def g34 (a : Ad) : List D → S → MF.R D := fnD 2 (sSeq (sIf (tNot1 (mTest (mCall (kCall 2 (g33 a)) (mCons (mVar 0) (mCons (mVar 1) mNil))))) (sRaise a.C_NoKind "kind" (mVar 1)) sNil) (sRet (mCall gTuple (mCons (mVar 1) mNil))))
theorem ok34 (T : Tx P w K mg base a) : FnG P w K mg base 5 T.f34 T.d34 ["book", "value"] (g34 a) :=
  fnG_of T.h34.fn sc34 fun cdv A outer s H E hr hgd => have tk := L2N.takes_of (X := cxOf (L2N.CX P w) P w K mg base ["book", "value"] "need_kind" (defScope s34) T.f34 cdv A outer s H E) (E := E) rfl rfl rfl rfl; (ms_cons (ms_if (mt_not (mt_val (me_callN (ok33 T) (hr.mono (by decide)) hgd tk (by rfl) T.h33.mg T.h33.kp T.h33.bi (ma_cons (me_var 0) (ma_cons (me_var 1) ma_nil))))) (ms_one (ms_raise T.x_NoKind rfl tk (hr.mono (by decide)) (by rfl) (me_var 1))) ms_nil) (ms_one (ms_ret (me_callTy cl_tuple call_tuple_of (by rfl) T.tuple (by rfl) (ma_cons (me_var 1) ma_nil)))))
theorem sc24_2 : FnScope ["self", "check", "row"] ["self", "check", "row"] (defScope s24_2) := ⟨rfl, rfl, rfl, by decide +kernel, rfl, by decide +kernel, by decide +kernel⟩
def g24_2 (a : Ad) : List D → S → MF.R D := fnD 3 (sRet (mDIn false (mVar 2) (mBin gIx (mFld a.cs__rows "_rows" (mVar 0)) (mVar 1))))
theorem ok24_2 (T : Tx P w K mg base a) : FnG P w K mg base 2 T.f24_2 T.d24_2 ["self", "check", "row"] (g24_2 a) :=
  fnG_of T.h24_2 sc24_2 fun cdv A outer s H E hr hgd => have tk := L2N.takes_of (X := cxOf (L2N.CX P w) P w K mg base ["self", "check", "row"] "Book.lets" (defScope s24_2) T.f24_2 cdv A outer s H E) (E := E) rfl rfl rfl rfl; (ms_one (ms_ret (me_pc (mc_din hr.u1 (me_var 2) (me_ix (me_fld T.f__rows (me_var 0)) (me_var 1))))))
theorem sc24_0 : FnScope ["self", "columns", "checks", "at", "check", "places", "rows"] ["self", "columns", "checks"] (defScope s24_0) := ⟨rfl, rfl, rfl, by decide +kernel, rfl, by decide +kernel, by decide +kernel⟩
def g24_0 (a : Ad) : List D → S → MF.R D := fnD 7 (sSeq (sIf (tOr2 (tNot1 (mTest (mCall (kCall 1 (g25 a)) (mCons (mVar 1) mNil)))) (tOr2 (tNot1 (mTest (mCall (kCall 1 (g14 a)) (mCons (mVar 2) mNil)))) (mTest (mBin (gCmp fun i j => decide (j < i)) (mCall gLen (mCons (mVar 2) mNil)) (mC (.int 6)))))) (sRaise a.C_BadBook "at" (mNeg (mC (.int 1)))) sNil) (sSeq (sFor (itEnum (mCons (mVar 2) mNil)) (gTG 2 (gCo (gN 3) (gCo (gN 4) (gNs [])))) (sIf (tNot1 (mTest (mCall (kCall 2 (g26 a)) (mCons (mVar 1) (mCons (mVar 4) mNil))))) (sRaise a.C_BadBook "at" (mVar 3)) sNil)) (sSeq (sPutF a.cs_columns "columns" (mVar 0) (mCall gTuple (mCons (mVar 1) mNil))) (sSeq (sPutF a.cs_checks "checks" (mVar 0) (mCall gTuple (mCons (mComp [5, 6] (itS (mVar 2)) (gTG 2 (gCo (gN 5) (gCo (gN 6) (gNs [])))) tTrue (mCall (kCall 2 (g29 a)) (mCons (mVar 5) (mCons (mVar 6) mNil)))) mNil))) (sSeq (sPutF a.cs__rows "_rows" (mVar 0) (mComp [5, 6] (itS (mFld a.cs_checks "checks" (mVar 0))) (gTG 2 (gCo (gN 5) (gCo (gN 6) (gNs [])))) tTrue (mCall (kCall 1 (g30 a)) (mCons (mVar 6) mNil)))) (sPutF a.cs__bars "_bars" (mVar 0) (mLst mNil)))))))
theorem ok24_0 (T : Tx P w K mg base a) : FnG P w K mg base 8 T.f24_0 T.d24_0 ["self", "columns", "checks"] (g24_0 a) :=
  fnG_ofD T.h24_0 sc24_0 fun cdv A outer s H E hr hgd => have tk := L2N.takes_of (X := cxOf (L2N.CX P w) P w K mg base ["self", "columns", "checks", "at", "check", "places", "rows"] "Book.__init__" (defScope s24_0) T.f24_0 cdv A outer s H E) (E := E) rfl rfl rfl rfl; (ms_cons (ms_if ((mw_or (mt_not (mt_val (me_callN (ok25 T) (hr.mono (by decide)) hgd tk (by rfl) T.h25.mg T.h25.kp T.h25.bi (ma_cons (me_var 1) ma_nil)))) (mw_or (mt_not (mt_val (me_callN (ok14 T) (hr.mono (by decide)) hgd tk (by rfl) T.h14.mg T.h14.kp T.h14.bi (ma_cons (me_var 2) ma_nil)))) (pw_or1 (mt_cmp (op2_cmp _) op_gt (me_callB cl_len call_len (by rfl) T.len (by rfl) (ma_cons (me_var 2) ma_nil)) (me_globI (by rfl) T.c_MOST_CHECKS) (by first | exact nobehind _ (by decide) (by decide) | rfl)))))).pt (ms_one (ms_raise T.x_BadBook rfl tk (hr.mono (by decide)) (by rfl) (me_neg me_int))) ms_nil) (ms_cons (ms_for (passes_of rfl) rfl (mi_enum (by rfl) T.enumerate (ma_cons (me_var 2) ma_nil)) (mg_tupG rfl (mgs_co (mg_name sc24_0.nd) (mgs_co (mg_name sc24_0.nd) mgs_nil))) (ms_one (ms_if (mt_not (mt_val (me_callN (ok26 T) (hr.mono (by decide)) hgd tk (by rfl) T.h26.mg T.h26.kp T.h26.bi (ma_cons (me_var 1) (ma_cons (me_var 4) ma_nil))))) (ms_one (ms_raise T.x_BadBook rfl tk (hr.mono (by decide)) (by rfl) (me_var 3))) ms_nil))) (ms_cons (ms_fld T.f_columns (me_var 0) (me_callTy cl_tuple call_tuple_of (by rfl) T.tuple (by rfl) (ma_cons (me_var 1) ma_nil))) (ms_cons (ms_fld T.f_checks (me_var 0) (me_callTy cl_tuple call_tuple_of (by rfl) T.tuple (by rfl) (ma_cons (me_lc rfl sc24_0.nd (mi_seq (me_var 2)) (own := [("places", 5), ("rows", 6)]) (blkOk_by (N := ["self", "columns", "checks", "at", "check", "places", "rows"]) (sc := defScope s24_0) (by decide +kernel)) (by decide) (fun _ _ _ _ _ => (mg_tupG rfl (mgs_co (mg_name sc24_0.nd) (mgs_co (mg_name sc24_0.nd) mgs_nil)))) (fun _ _ _ _ _ => mts_nil) (fun _ _ _ _ _ => (me_callN (ok29 T) (hr.mono (by decide)) hgd takesN (by rfl) T.h29.mg T.h29.kp T.h29.bi (ma_cons (me_var 5) (ma_cons (me_var 6) ma_nil))))) ma_nil))) (ms_cons (ms_fld T.f__rows (me_var 0) (me_lc rfl sc24_0.nd (mi_seq (me_fld T.f_checks (me_var 0))) (own := [("places", 5), ("rows", 6)]) (blkOk_by (N := ["self", "columns", "checks", "at", "check", "places", "rows"]) (sc := defScope s24_0) (by decide +kernel)) (by decide) (fun _ _ _ _ _ => (mg_tupG rfl (mgs_co (mg_name sc24_0.nd) (mgs_co (mg_name sc24_0.nd) mgs_nil)))) (fun _ _ _ _ _ => mts_nil) (fun _ _ _ _ _ => (me_callN (ok30 T) (hr.mono (by decide)) hgd takesN (by rfl) T.h30.mg T.h30.kp T.h30.bi (ma_cons (me_var 6) ma_nil))))) (ms_one (ms_fld T.f__bars (me_var 0) (me_lst ma_nil))))))))
theorem sc51 : FnScope ["book", "value"] ["book", "value"] (defScope s51) := ⟨rfl, rfl, rfl, by decide +kernel, rfl, by decide +kernel, by decide +kernel⟩
def g51 (a : Ad) : List D → S → MF.R D := fnD 2 (sRet (mAnd (mCall (kCall 2 (g17 a)) (mCons (mVar 1) (mCons (mCall gLen (mCons (mFld a.cs_columns "columns" (mVar 0)) mNil)) mNil))) (mChain (gCmp fun i j => decide (i ≤ j)) (gCmp fun i j => decide (i ≤ j)) (mC (.int 1)) (mCall gLen (mCons (mVar 1) mNil)) (mC (.int 200)))))
theorem ok51 (T : Tx P w K mg base a) : FnG P w K mg base 6 T.f51 T.d51 ["book", "value"] (g51 a) :=
  fnG_of T.h51.fn sc51 fun cdv A outer s H E hr hgd => have tk := L2N.takes_of (X := cxOf (L2N.CX P w) P w K mg base ["book", "value"] "are_cells" (defScope s51) T.f51 cdv A outer s H E) (E := E) rfl rfl rfl rfl; (ms_one (ms_ret (me_and (me_callN (ok17 T) (hr.mono (by decide)) hgd tk (by rfl) T.h17.mg T.h17.kp T.h17.bi (ma_cons (me_var 1) (ma_cons (me_callB cl_len call_len (by rfl) T.len (by rfl) (ma_cons (me_fld T.f_columns (me_var 0)) ma_nil)) ma_nil))) (pe_one (me_chain (op2_cmp _) (op2_cmp _) op_le op_le me_int (me_callB cl_len call_len (by rfl) T.len (by rfl) (ma_cons (me_var 1) ma_nil)) (me_globI (by rfl) T.c_MOST_CELLS))))))
theorem sc52 : FnScope ["book", "cells", "value", "check", "looked_at", "cell"] ["book", "cells", "value"] (defScope s52) := ⟨rfl, rfl, rfl, by decide +kernel, rfl, by decide +kernel, by decide +kernel⟩
def g52 (a : Ad) : List D → S → MF.R D := fnD 6 (sSeq (sIf (tOr2 (tNot1 (mTest (mCall (kCall 1 (g14 a)) (mCons (mVar 2) mNil)))) (mTest (mBin (gEq true) (mCall gLen (mCons (mVar 2) mNil)) (mC (.int 2))))) (sRet (mC (.bl false))) sNil) (sSeq (sAsg (gTG 2 (gCo (gN 3) (gCo (gN 4) (gNs [])))) (mVar 2)) (sSeq (sIf (tOr2 (tNot1 (mTest (mCall (kCall 2 (g16 a)) (mCons (mVar 3) (mCons (mCall gLen (mCons (mFld a.cs_checks "checks" (mVar 0)) mNil)) mNil))))) (tNot1 (mTest (mCall (kCall 2 (g17 a)) (mCons (mVar 4) (mCons (mCall gLen (mCons (mVar 1) mNil)) mNil)))))) (sRet (mC (.bl false))) sNil) (sRet (mBin (gEq false) (mComp [5] (itS (mVar 4)) (gN 5) tTrue (mBin gIx (mVar 1) (mVar 5))) (mCall gList (mCons (mBin gIx (mBin gIx (mFld a.cs_checks "checks" (mVar 0)) (mVar 3)) (mC (.int 0))) mNil)))))))
theorem ok52 (T : Tx P w K mg base a) : FnG P w K mg base 6 T.f52 T.d52 ["book", "cells", "value"] (g52 a) :=
  fnG_of T.h52.fn sc52 fun cdv A outer s H E hr hgd => have tk := L2N.takes_of (X := cxOf (L2N.CX P w) P w K mg base ["book", "cells", "value", "check", "looked_at", "cell"] "is_laid" (defScope s52) T.f52 cdv A outer s H E) (E := E) rfl rfl rfl rfl; (ms_cons (ms_if ((mw_or (mt_not (mt_val (me_callN (ok14 T) (hr.mono (by decide)) hgd tk (by rfl) T.h14.mg T.h14.kp T.h14.bi (ma_cons (me_var 2) ma_nil)))) (pw_or1 (mt_cmp op2_ne (op_neD hr.u64) (me_callB cl_len call_len (by rfl) T.len (by rfl) (ma_cons (me_var 2) ma_nil)) me_int (by first | exact nobehind _ (by decide) (by decide) | rfl))))).pt (ms_one (ms_ret me_bl)) ms_nil) (ms_cons (ms_asg (me_var 2) (mg_tupG rfl (mgs_co (mg_name sc52.nd) (mgs_co (mg_name sc52.nd) mgs_nil)))) (ms_cons (ms_if ((mw_or (mt_not (mt_val (me_callN (ok16 T) (hr.mono (by decide)) hgd tk (by rfl) T.h16.mg T.h16.kp T.h16.bi (ma_cons (me_var 3) (ma_cons (me_callB cl_len call_len (by rfl) T.len (by rfl) (ma_cons (me_fld T.f_checks (me_var 0)) ma_nil)) ma_nil))))) (pw_or1 (mt_not (mt_val (me_callN (ok17 T) (hr.mono (by decide)) hgd tk (by rfl) T.h17.mg T.h17.kp T.h17.bi (ma_cons (me_var 4) (ma_cons (me_callB cl_len call_len (by rfl) T.len (by rfl) (ma_cons (me_var 1) ma_nil)) ma_nil)))))))).pt (ms_one (ms_ret me_bl)) ms_nil) (ms_one (ms_ret (me_cmp op2_eq (op_eqD hr.u64) (me_lc rfl sc52.nd (mi_seq (me_var 4)) (own := [("cell", 5)]) (blkOk_by (N := ["book", "cells", "value", "check", "looked_at", "cell"]) (sc := defScope s52) (by decide +kernel)) (by decide) (fun _ _ _ _ _ => (mg_name sc52.nd)) (fun _ _ _ _ _ => mts_nil) (fun _ _ _ _ _ => (me_ix (me_var 1) (me_var 5)))) (me_callTy cl_list call_list_of (by rfl) T.list (by rfl) (ma_cons (me_ix (me_ix (me_fld T.f_checks (me_var 0)) (me_var 3)) me_int) ma_nil)) (by first | exact nobehind _ (by decide) (by decide) | rfl)))))))
theorem sc53 : FnScope ["cells", "laid", "found", "_", "number", "looked_at", "cell", "numbers"] ["cells", "laid"] (defScope s53) := ⟨rfl, rfl, rfl, by decide +kernel, rfl, by decide +kernel, by decide +kernel⟩
def g53 (a : Ad) : List D → S → MF.R D := fnD 8 (sSeq (sBlkF 2 (sSeq (sAsg (gN 2) (mCompM [3] (itS (mVar 0)) (gN 3) tTrue (mLstM mNil))) (sFor (itEnum (mCons (mVar 1) mNil)) (gTG 2 (gCo (gN 4) (gCo (gTG 2 (gCo (gN 3) (gCo (gN 5) (gNs [])))) (gNs [])))) (sFor (itS (mSorS (mVar 5))) (gN 6) (sExpr (mMeth gAppend (mBin gIx (mVar 2) (mVar 6)) (mCons (mVar 4) mNil))))))) (sRet (mCall gTuple (mCons (mComp [7] (itS (mVar 2)) (gN 7) tTrue (mCall gTuple (mCons (mVar 7) mNil))) mNil))))
theorem ok53 (T : Tx P w K mg base a) : FnG P w K mg base 2 T.f53 T.d53 ["cells", "laid"] (g53 a) :=
  fnG_of T.h53.fn sc53 fun cdv A outer s H E hr hgd => have tk := L2N.takes_of (X := cxOf (L2N.CX P w) P w K mg base ["cells", "laid", "found", "_", "number", "looked_at", "cell", "numbers"] "laid_by_cell" (defScope s53) T.f53 cdv A outer s H E) (E := E) rfl rfl rfl rfl; (ms_cut 2 (mss_frz 2 (ms_cons (ms_setLcM rfl sc53.nd rfl rfl rfl (mi_seq (me_var 0)) (own := [("_", 3)]) (blkOk_by (N := ["cells", "laid", "found", "_", "number", "looked_at", "cell", "numbers"]) (sc := defScope s53) (by decide +kernel)) (by decide) (fun _ _ _ _ _ => (mg_name sc53.nd)) (fun _ _ _ _ _ => mts_nil) (fun _ _ _ _ _ => (me_lstM ma_nil))) (ms_one (ms_for (passes_of rfl) rfl (mi_enum (by rfl) T.enumerate (ma_cons (me_var 1) ma_nil)) (mg_tupG rfl (mgs_co (mg_name sc53.nd) (mgs_co (mg_tupG rfl (mgs_co (mg_name sc53.nd) (mgs_co (mg_name sc53.nd) mgs_nil))) mgs_nil))) (ms_one (ms_for (passes_of rfl) rfl (mi_seq (me_sorS hr.u64 rfl (by rfl) T.sorted (by rfl) T.set (me_var 5))) (mg_name sc53.nd) (ms_one (ms_expr (me_methL mtl_append PySem.F.slot_list_append PySem.F.type_list_append mt_append (me_ix (me_var 2) (me_var 6)) (ma_cons (me_var 4) ma_nil)))))))))) (ms_one (ms_ret (me_callTy cl_tuple call_tuple_of (by rfl) T.tuple (by rfl) (ma_cons (me_lc rfl sc53.nd (mi_seq (me_var 2)) (own := [("numbers", 7)]) (blkOk_by (N := ["cells", "laid", "found", "_", "number", "looked_at", "cell", "numbers"]) (sc := defScope s53) (by decide +kernel)) (by decide) (fun _ _ _ _ _ => (mg_name sc53.nd)) (fun _ _ _ _ _ => mts_nil) (fun _ _ _ _ _ => (me_callTy cl_tuple call_tuple_of (by rfl) T.tuple (by rfl) (ma_cons (me_var 7) ma_nil)))) ma_nil)))))
theorem sc50_0 : FnScope ["self", "book", "cells", "laid", "at", "item", "check", "looked_at"] ["self", "book", "cells", "laid"] (defScope s50_0) := ⟨rfl, rfl, rfl, by decide +kernel, rfl, by decide +kernel, by decide +kernel⟩
def g50_0 (a : Ad) : List D → S → MF.R D := fnD 8 (sSeq (sIf (tOr2 (tNot1 (mTest (mCall (kCall 2 (g51 a)) (mCons (mVar 1) (mCons (mVar 2) mNil))))) (tOr2 (tNot1 (mTest (mCall (kCall 1 (g14 a)) (mCons (mVar 3) mNil)))) (mTest (mBin (gCmp fun i j => decide (j < i)) (mCall gLen (mCons (mVar 3) mNil)) (mC (.int 4000)))))) (sRaise a.C_BadStore "at" (mNeg (mC (.int 1)))) sNil) (sSeq (sFor (itEnum (mCons (mVar 3) mNil)) (gTG 2 (gCo (gN 4) (gCo (gN 5) (gNs [])))) (sIf (tNot1 (mTest (mCall (kCall 3 (g52 a)) (mCons (mVar 1) (mCons (mVar 2) (mCons (mVar 5) mNil)))))) (sRaise a.C_BadStore "at" (mVar 4)) sNil)) (sSeq (sPutF a.cs_book "book" (mVar 0) (mVar 1)) (sSeq (sPutF a.cs_cells "cells" (mVar 0) (mCall gTuple (mCons (mVar 2) mNil))) (sSeq (sPutF a.cs_laid "laid" (mVar 0) (mCall gTuple (mCons (mComp [6, 7] (itS (mVar 3)) (gTG 2 (gCo (gN 6) (gCo (gN 7) (gNs [])))) tTrue (mTup (mCons (mVar 6) (mCons (mCall gTuple (mCons (mVar 7) mNil)) mNil)))) mNil))) (sPutF a.cs__laid_on "_laid_on" (mVar 0) (mCall (kCall 2 (g53 a)) (mCons (mFld a.cs_cells "cells" (mVar 0)) (mCons (mFld a.cs_laid "laid" (mVar 0)) mNil)))))))))
theorem ok50_0 (T : Tx P w K mg base a) : FnG P w K mg base 7 T.f50_0 T.d50_0 ["self", "book", "cells", "laid"] (g50_0 a) :=
  fnG_ofD T.h50_0 sc50_0 fun cdv A outer s H E hr hgd => have tk := L2N.takes_of (X := cxOf (L2N.CX P w) P w K mg base ["self", "book", "cells", "laid", "at", "item", "check", "looked_at"] "Store.__init__" (defScope s50_0) T.f50_0 cdv A outer s H E) (E := E) rfl rfl rfl rfl; (ms_cons (ms_if ((mw_or (mt_not (mt_val (me_callN (ok51 T) (hr.mono (by decide)) hgd tk (by rfl) T.h51.mg T.h51.kp T.h51.bi (ma_cons (me_var 1) (ma_cons (me_var 2) ma_nil))))) (mw_or (mt_not (mt_val (me_callN (ok14 T) (hr.mono (by decide)) hgd tk (by rfl) T.h14.mg T.h14.kp T.h14.bi (ma_cons (me_var 3) ma_nil)))) (pw_or1 (mt_cmp (op2_cmp _) op_gt (me_callB cl_len call_len (by rfl) T.len (by rfl) (ma_cons (me_var 3) ma_nil)) (me_globI (by rfl) T.c_MOST_LAID) (by first | exact nobehind _ (by decide) (by decide) | rfl)))))).pt (ms_one (ms_raise T.x_BadStore rfl tk (hr.mono (by decide)) (by rfl) (me_neg me_int))) ms_nil) (ms_cons (ms_for (passes_of rfl) rfl (mi_enum (by rfl) T.enumerate (ma_cons (me_var 3) ma_nil)) (mg_tupG rfl (mgs_co (mg_name sc50_0.nd) (mgs_co (mg_name sc50_0.nd) mgs_nil))) (ms_one (ms_if (mt_not (mt_val (me_callN (ok52 T) (hr.mono (by decide)) hgd tk (by rfl) T.h52.mg T.h52.kp T.h52.bi (ma_cons (me_var 1) (ma_cons (me_var 2) (ma_cons (me_var 5) ma_nil)))))) (ms_one (ms_raise T.x_BadStore rfl tk (hr.mono (by decide)) (by rfl) (me_var 4))) ms_nil))) (ms_cons (ms_fld T.f_book (me_var 0) (me_var 1)) (ms_cons (ms_fld T.f_cells (me_var 0) (me_callTy cl_tuple call_tuple_of (by rfl) T.tuple (by rfl) (ma_cons (me_var 2) ma_nil))) (ms_cons (ms_fld T.f_laid (me_var 0) (me_callTy cl_tuple call_tuple_of (by rfl) T.tuple (by rfl) (ma_cons (me_lc rfl sc50_0.nd (mi_seq (me_var 3)) (own := [("check", 6), ("looked_at", 7)]) (blkOk_by (N := ["self", "book", "cells", "laid", "at", "item", "check", "looked_at"]) (sc := defScope s50_0) (by decide +kernel)) (by decide) (fun _ _ _ _ _ => (mg_tupG rfl (mgs_co (mg_name sc50_0.nd) (mgs_co (mg_name sc50_0.nd) mgs_nil)))) (fun _ _ _ _ _ => mts_nil) (fun _ _ _ _ _ => (me_tup (ma_cons (me_var 6) (ma_cons (me_callTy cl_tuple call_tuple_of (by rfl) T.tuple (by rfl) (ma_cons (me_var 7) ma_nil)) ma_nil))))) ma_nil))) (ms_one (ms_fld T.f__laid_on (me_var 0) (me_callN (ok53 T) (hr.mono (by decide)) hgd tk (by rfl) T.h53.mg T.h53.kp T.h53.bi (ma_cons (me_fld T.f_cells (me_var 0)) (ma_cons (me_fld T.f_laid (me_var 0)) ma_nil))))))))))
theorem sc54 : FnScope ["store", "value"] ["store", "value"] (defScope s54) := ⟨rfl, rfl, rfl, by decide +kernel, rfl, by decide +kernel, by decide +kernel⟩
def g54 (a : Ad) : List D → S → MF.R D := fnD 2 (sSeq (sIf (tNot1 (mTest (mCall (kCall 2 (g16 a)) (mCons (mVar 1) (mCons (mCall gLen (mCons (mFld a.cs_cells "cells" (mVar 0)) mNil)) mNil))))) (sRaise a.C_NoCell "cell" (mVar 1)) sNil) (sRet (mVar 1)))
theorem ok54 (T : Tx P w K mg base a) : FnG P w K mg base 4 T.f54 T.d54 ["store", "value"] (g54 a) :=
  fnG_of T.h54.fn sc54 fun cdv A outer s H E hr hgd => have tk := L2N.takes_of (X := cxOf (L2N.CX P w) P w K mg base ["store", "value"] "need_cell" (defScope s54) T.f54 cdv A outer s H E) (E := E) rfl rfl rfl rfl; (ms_cons (ms_if (mt_not (mt_val (me_callN (ok16 T) (hr.mono (by decide)) hgd tk (by rfl) T.h16.mg T.h16.kp T.h16.bi (ma_cons (me_var 1) (ma_cons (me_callB cl_len call_len (by rfl) T.len (by rfl) (ma_cons (me_fld T.f_cells (me_var 0)) ma_nil)) ma_nil))))) (ms_one (ms_raise T.x_NoCell rfl tk (hr.mono (by decide)) (by rfl) (me_var 1))) ms_nil) (ms_one (ms_ret (me_var 1))))
theorem sc55 : FnScope ["store", "value", "cell", "item"] ["store", "value"] (defScope s55) := ⟨rfl, rfl, rfl, by decide +kernel, rfl, by decide +kernel, by decide +kernel⟩
def g55 (a : Ad) : List D → S → MF.R D := fnD 4 (sSeq (sIf (tOr2 (tNot1 (mTest (mCall (kCall 1 (g14 a)) (mCons (mVar 1) mNil)))) (mTest (mBin (gEq true) (mCall gLen (mCons (mVar 1) mNil)) (mCall gLen (mCons (mFld a.cs_cells "cells" (mVar 0)) mNil))))) (sRet (mNeg (mC (.int 1)))) sNil) (sSeq (sFor (itEnum (mCons (mVar 1) mNil)) (gTG 2 (gCo (gN 2) (gCo (gN 3) (gNs [])))) (sIf (tNot1 (mTest (mCall (kCall 2 (g16 a)) (mCons (mVar 3) (mCons (mBin gIx (mFld a.cs_columns "columns" (mFld a.cs_book "book" (mVar 0))) (mBin gIx (mFld a.cs_cells "cells" (mVar 0)) (mVar 2))) mNil))))) (sRet (mVar 2)) sNil)) (sRet (mC .non))))
theorem ok55 (T : Tx P w K mg base a) : FnG P w K mg base 4 T.f55 T.d55 ["store", "value"] (g55 a) :=
  fnG_of T.h55.fn sc55 fun cdv A outer s H E hr hgd => have tk := L2N.takes_of (X := cxOf (L2N.CX P w) P w K mg base ["store", "value", "cell", "item"] "state_fault" (defScope s55) T.f55 cdv A outer s H E) (E := E) rfl rfl rfl rfl; (ms_cons (ms_if ((mw_or (mt_not (mt_val (me_callN (ok14 T) (hr.mono (by decide)) hgd tk (by rfl) T.h14.mg T.h14.kp T.h14.bi (ma_cons (me_var 1) ma_nil)))) (pw_or1 (mt_cmp op2_ne (op_neD hr.u64) (me_callB cl_len call_len (by rfl) T.len (by rfl) (ma_cons (me_var 1) ma_nil)) (me_callB cl_len call_len (by rfl) T.len (by rfl) (ma_cons (me_fld T.f_cells (me_var 0)) ma_nil)) (by first | exact nobehind _ (by decide) (by decide) | rfl))))).pt (ms_one (ms_ret (me_neg me_int))) ms_nil) (ms_cons (ms_for (passes_of rfl) rfl (mi_enum (by rfl) T.enumerate (ma_cons (me_var 1) ma_nil)) (mg_tupG rfl (mgs_co (mg_name sc55.nd) (mgs_co (mg_name sc55.nd) mgs_nil))) (ms_one (ms_if (mt_not (mt_val (me_callN (ok16 T) (hr.mono (by decide)) hgd tk (by rfl) T.h16.mg T.h16.kp T.h16.bi (ma_cons (me_var 3) (ma_cons (me_ix (me_fld T.f_columns (me_fld T.f_book (me_var 0))) (me_ix (me_fld T.f_cells (me_var 0)) (me_var 2))) ma_nil))))) (ms_one (ms_ret (me_var 2))) ms_nil))) (ms_one (ms_ret me_non))))
theorem sc56 : FnScope ["store", "value", "at"] ["store", "value"] (defScope s56) := ⟨rfl, rfl, rfl, by decide +kernel, rfl, by decide +kernel, by decide +kernel⟩
def g56 (a : Ad) : List D → S → MF.R D := fnD 3 (sSeq (sAsg (gN 2) (mCall (kCall 2 (g55 a)) (mCons (mVar 0) (mCons (mVar 1) mNil)))) (sSeq (sIf (mTest (mBin (gIsN true) (mVar 2) (mC .non))) (sRaise a.C_BadState "at" (mVar 2)) sNil) (sRet (mCall gTuple (mCons (mVar 1) mNil)))))
theorem ok56 (T : Tx P w K mg base a) : FnG P w K mg base 5 T.f56 T.d56 ["store", "value"] (g56 a) :=
  fnG_of T.h56.fn sc56 fun cdv A outer s H E hr hgd => have tk := L2N.takes_of (X := cxOf (L2N.CX P w) P w K mg base ["store", "value", "at"] "check_state" (defScope s56) T.f56 cdv A outer s H E) (E := E) rfl rfl rfl rfl; (ms_cons (ms_set (i := 2) sc56.nd (me_callN (ok55 T) (hr.mono (by decide)) hgd tk (by rfl) T.h55.mg T.h55.kp T.h55.bi (ma_cons (me_var 0) (ma_cons (me_var 1) ma_nil)))) (ms_cons (ms_if (mt_cmp op2_notN op_notN (me_var 2) me_non (by first | exact nobehind _ (by decide) (by decide) | rfl)) (ms_one (ms_raise T.x_BadState rfl tk (hr.mono (by decide)) (by rfl) (me_var 2))) ms_nil) (ms_one (ms_ret (me_callTy cl_tuple call_tuple_of (by rfl) T.tuple (by rfl) (ma_cons (me_var 1) ma_nil))))))
theorem sc57 : FnScope ["store", "values", "number", "cell"] ["store", "values", "number"] (defScope s57) := ⟨rfl, rfl, rfl, by decide +kernel, rfl, by decide +kernel, by decide +kernel⟩
def g57 (a : Ad) : List D → S → MF.R D := fnD 4 (sRet (mCall gTuple (mCons (mComp [3] (itS (mBin gIx (mBin gIx (mFld a.cs_laid "laid" (mVar 0)) (mVar 2)) (mC (.int 1)))) (gN 3) tTrue (mBin gIx (mVar 1) (mVar 3))) mNil)))
theorem ok57 (T : Tx P w K mg base a) : FnG P w K mg base 2 T.f57 T.d57 ["store", "values", "number"] (g57 a) :=
  fnG_of T.h57.fn sc57 fun cdv A outer s H E hr hgd => have tk := L2N.takes_of (X := cxOf (L2N.CX P w) P w K mg base ["store", "values", "number", "cell"] "looked_row" (defScope s57) T.f57 cdv A outer s H E) (E := E) rfl rfl rfl rfl; (ms_one (ms_ret (me_callTy cl_tuple call_tuple_of (by rfl) T.tuple (by rfl) (ma_cons (me_lc rfl sc57.nd (mi_seq (me_ix (me_ix (me_fld T.f_laid (me_var 0)) (me_var 2)) me_int)) (own := [("cell", 3)]) (blkOk_by (N := ["store", "values", "number", "cell"]) (sc := defScope s57) (by decide +kernel)) (by decide) (fun _ _ _ _ _ => (mg_name sc57.nd)) (fun _ _ _ _ _ => mts_nil) (fun _ _ _ _ _ => (me_ix (me_var 1) (me_var 3)))) ma_nil))))
theorem sc58 : FnScope ["store", "values", "number"] ["store", "values", "number"] (defScope s58) := ⟨rfl, rfl, rfl, by decide +kernel, rfl, by decide +kernel, by decide +kernel⟩
def g58 (a : Ad) : List D → S → MF.R D := fnD 3 (sRet (mMethK a.C_Book "lets" 2 3 (fun ds _ => ds) (g24_2 a) (mFld a.cs_book "book" (mVar 0)) (mCons (mBin gIx (mBin gIx (mFld a.cs_laid "laid" (mVar 0)) (mVar 2)) (mC (.int 0))) (mCons (mCall (kCall 3 (g57 a)) (mCons (mVar 0) (mCons (mVar 1) (mCons (mVar 2) mNil)))) mNil))))
theorem ok58 (T : Tx P w K mg base a) : FnG P w K mg base 3 T.f58 T.d58 ["store", "values", "number"] (g58 a) :=
  fnG_of T.h58.fn sc58 fun cdv A outer s H E hr hgd => have tk := L2N.takes_of (X := cxOf (L2N.CX P w) P w K mg base ["store", "values", "number"] "lets_at" (defScope s58) T.f58 cdv A outer s H E) (E := E) rfl rfl rfl rfl; (ms_one (ms_ret (me_methN T.cl_Book T.mt_Book_lets (ok24_2 T) (hr.mono (by decide)) hgd tk T.kb_Book_lets (me_fld T.f_book (me_var 0)) (ma_cons (me_ix (me_ix (me_fld T.f_laid (me_var 0)) (me_var 2)) me_int) (ma_cons (me_callN (ok57 T) (hr.mono (by decide)) hgd tk (by rfl) T.h57.mg T.h57.kp T.h57.bi (ma_cons (me_var 0) (ma_cons (me_var 1) (ma_cons (me_var 2) ma_nil)))) ma_nil)))))
theorem sc59 : FnScope ["store", "state", "values", "number"] ["store", "state"] (defScope s59) := ⟨rfl, rfl, rfl, by decide +kernel, rfl, by decide +kernel, by decide +kernel⟩
def g59 (a : Ad) : List D → S → MF.R D := fnD 4 (sSeq (sAsg (gN 2) (mCall (kCall 2 (g56 a)) (mCons (mVar 0) (mCons (mVar 1) mNil)))) (sRet (mCall gTuple (mCons (mComp [3] (itRange (mCons (mCall gLen (mCons (mFld a.cs_laid "laid" (mVar 0)) mNil)) mNil)) (gN 3) (tNot1 (mTest (mCall (kCall 3 (g58 a)) (mCons (mVar 0) (mCons (mVar 2) (mCons (mVar 3) mNil)))))) (mVar 3)) mNil))))
theorem ok59 (T : Tx P w K mg base a) : FnG P w K mg base 6 T.f59 T.d59 ["store", "state"] (g59 a) :=
  fnG_of T.h59.fn sc59 fun cdv A outer s H E hr hgd => have tk := L2N.takes_of (X := cxOf (L2N.CX P w) P w K mg base ["store", "state", "values", "number"] "broken" (defScope s59) T.f59 cdv A outer s H E) (E := E) rfl rfl rfl rfl; (ms_cons (ms_set (i := 2) sc59.nd (me_callN (ok56 T) (hr.mono (by decide)) hgd tk (by rfl) T.h56.mg T.h56.kp T.h56.bi (ma_cons (me_var 0) (ma_cons (me_var 1) ma_nil)))) (ms_one (ms_ret (me_callTy cl_tuple call_tuple_of (by rfl) T.tuple (by rfl) (ma_cons (me_lc rfl sc59.nd (mi_range (by rfl) T.range (ma_cons (me_callB cl_len call_len (by rfl) T.len (by rfl) (ma_cons (me_fld T.f_laid (me_var 0)) ma_nil)) ma_nil)) (own := [("number", 3)]) (blkOk_by (N := ["store", "state", "values", "number"]) (sc := defScope s59) (by decide +kernel)) (by decide) (fun _ _ _ _ _ => (mg_name sc59.nd)) (fun _ _ _ _ _ => (mts_one (mt_not (mt_val (me_callN (ok58 T) (hr.mono (by decide)) hgd takesN (by rfl) T.h58.mg T.h58.kp T.h58.bi (ma_cons (me_var 0) (ma_cons (me_var 2) (ma_cons (me_var 3) ma_nil)))))))) (fun _ _ _ _ _ => (me_var 3))) ma_nil)))))
theorem sc60 : FnScope ["store", "state"] ["store", "state"] (defScope s60) := ⟨rfl, rfl, rfl, by decide +kernel, rfl, by decide +kernel, by decide +kernel⟩
def g60 (a : Ad) : List D → S → MF.R D := fnD 2 (sRet (mNotT (mCall (kCall 2 (g59 a)) (mCons (mVar 0) (mCons (mVar 1) mNil)))))
theorem ok60 (T : Tx P w K mg base a) : FnG P w K mg base 7 T.f60 T.d60 ["store", "state"] (g60 a) :=
  fnG_of T.h60.fn sc60 fun cdv A outer s H E hr hgd => have tk := L2N.takes_of (X := cxOf (L2N.CX P w) P w K mg base ["store", "state"] "is_good" (defScope s60) T.f60 cdv A outer s H E) (E := E) rfl rfl rfl rfl; (ms_one (ms_ret (me_notT (me_callN (ok59 T) (hr.mono (by decide)) hgd tk (by rfl) T.h59.mg T.h59.kp T.h59.bi (ma_cons (me_var 0) (ma_cons (me_var 1) ma_nil))))))
theorem sc61 : FnScope ["store", "state", "values"] ["store", "state"] (defScope s61) := ⟨rfl, rfl, rfl, by decide +kernel, rfl, by decide +kernel, by decide +kernel⟩
def g61 (a : Ad) : List D → S → MF.R D := fnD 3 (sSeq (sAsg (gN 2) (mCall (kCall 2 (g56 a)) (mCons (mVar 0) (mCons (mVar 1) mNil)))) (sSeq (sIf (tNot1 (mTest (mCall (kCall 2 (g60 a)) (mCons (mVar 0) (mCons (mVar 2) mNil))))) (sRaise a.C_Refused "at" (mVar 1)) sNil) (sRet (mVar 2))))
theorem ok61 (T : Tx P w K mg base a) : FnG P w K mg base 8 T.f61 T.d61 ["store", "state"] (g61 a) :=
  fnG_of T.h61.fn sc61 fun cdv A outer s H E hr hgd => have tk := L2N.takes_of (X := cxOf (L2N.CX P w) P w K mg base ["store", "state", "values"] "good_state" (defScope s61) T.f61 cdv A outer s H E) (E := E) rfl rfl rfl rfl; (ms_cons (ms_set (i := 2) sc61.nd (me_callN (ok56 T) (hr.mono (by decide)) hgd tk (by rfl) T.h56.mg T.h56.kp T.h56.bi (ma_cons (me_var 0) (ma_cons (me_var 1) ma_nil)))) (ms_cons (ms_if (mt_not (mt_val (me_callN (ok60 T) (hr.mono (by decide)) hgd tk (by rfl) T.h60.mg T.h60.kp T.h60.bi (ma_cons (me_var 0) (ma_cons (me_var 2) ma_nil))))) (ms_one (ms_raise T.x_Refused rfl tk (hr.mono (by decide)) (by rfl) (me_var 1))) ms_nil) (ms_one (ms_ret (me_var 2)))))
theorem sc62 : FnScope ["store", "old", "new", "start"] ["store", "old", "new"] (defScope s62) := ⟨rfl, rfl, rfl, by decide +kernel, rfl, by decide +kernel, by decide +kernel⟩
def g62 (a : Ad) : List D → S → MF.R D := fnD 4 (sSeq (sAsg (gN 3) (mCall (kCall 2 (g61 a)) (mCons (mVar 0) (mCons (mVar 1) mNil)))) (sRet (mTup (mCons (mVar 3) (mCons (mCall (kCall 2 (g61 a)) (mCons (mVar 0) (mCons (mVar 2) mNil))) mNil)))))
theorem ok62 (T : Tx P w K mg base a) : FnG P w K mg base 9 T.f62 T.d62 ["store", "old", "new"] (g62 a) :=
  fnG_of T.h62.fn sc62 fun cdv A outer s H E hr hgd => have tk := L2N.takes_of (X := cxOf (L2N.CX P w) P w K mg base ["store", "old", "new", "start"] "check_batch" (defScope s62) T.f62 cdv A outer s H E) (E := E) rfl rfl rfl rfl; (ms_cons (ms_set (i := 3) sc62.nd (me_callN (ok61 T) (hr.mono (by decide)) hgd tk (by rfl) T.h61.mg T.h61.kp T.h61.bi (ma_cons (me_var 0) (ma_cons (me_var 1) ma_nil)))) (ms_one (ms_ret (me_tup (ma_cons (me_var 3) (ma_cons (me_callN (ok61 T) (hr.mono (by decide)) hgd tk (by rfl) T.h61.mg T.h61.kp T.h61.bi (ma_cons (me_var 0) (ma_cons (me_var 2) ma_nil))) ma_nil))))))
theorem sc63 : FnScope ["one", "other", "cell"] ["one", "other"] (defScope s63) := ⟨rfl, rfl, rfl, by decide +kernel, rfl, by decide +kernel, by decide +kernel⟩
def g63 (a : Ad) : List D → S → MF.R D := fnD 3 (sRet (mCall gTuple (mCons (mComp [2] (itRange (mCons (mCall gLen (mCons (mVar 0) mNil)) mNil)) (gN 2) (mTest (mBin (gEq true) (mBin gIx (mVar 0) (mVar 2)) (mBin gIx (mVar 1) (mVar 2)))) (mVar 2)) mNil)))
theorem ok63 (T : Tx P w K mg base a) : FnG P w K mg base 2 T.f63 T.d63 ["one", "other"] (g63 a) :=
  fnG_of T.h63.fn sc63 fun cdv A outer s H E hr hgd => have tk := L2N.takes_of (X := cxOf (L2N.CX P w) P w K mg base ["one", "other", "cell"] "unlike_cells" (defScope s63) T.f63 cdv A outer s H E) (E := E) rfl rfl rfl rfl; (ms_one (ms_ret (me_callTy cl_tuple call_tuple_of (by rfl) T.tuple (by rfl) (ma_cons (me_lc rfl sc63.nd (mi_range (by rfl) T.range (ma_cons (me_callB cl_len call_len (by rfl) T.len (by rfl) (ma_cons (me_var 0) ma_nil)) ma_nil)) (own := [("cell", 2)]) (blkOk_by (N := ["one", "other", "cell"]) (sc := defScope s63) (by decide +kernel)) (by decide) (fun _ _ _ _ _ => (mg_name sc63.nd)) (fun _ _ _ _ _ => (mts_one (mt_cmp op2_ne (op_neD hr.u64) (me_ix (me_var 0) (me_var 2)) (me_ix (me_var 1) (me_var 2)) (by first | exact nobehind _ (by decide) (by decide) | rfl)))) (fun _ _ _ _ _ => (me_var 2))) ma_nil))))
theorem sc66 : FnScope ["rules", "store", "start", "goal", "bits", "found", "number", "check", "looked_at", "own", "cell", "lot", "row"] ["rules", "store", "start", "goal", "bits"] (defScope s66) := ⟨rfl, rfl, rfl, by decide +kernel, rfl, by decide +kernel, by decide +kernel⟩
def g66 (a : Ad) : List D → S → MF.R D := fnD 13 (sSeq (sAsg (gN 5) mNewI) (sSeq (sFor (itEnum (mCons (mFld a.cs_laid "laid" (mVar 1)) mNil)) (gTG 2 (gCo (gN 6) (gCo (gTG 2 (gCo (gN 7) (gCo (gN 8) (gNs [])))) (gNs [])))) sNever) (sRet (mVar 5))))
theorem ok66 (T : Tx P w K mg base a) : FnG P w K mg base 2 T.f66 T.d66 ["rules", "store", "start", "goal", "bits"] (g66 a) :=
  fnG_of T.h66.fn sc66 fun cdv A outer s H E hr hgd => have tk := L2N.takes_of (X := cxOf (L2N.CX P w) P w K mg base ["rules", "store", "start", "goal", "bits", "found", "number", "check", "looked_at", "own", "cell", "lot", "row"] "find_faults" (defScope s66) T.f66 cdv A outer s H E) (E := E) rfl rfl rfl rfl; (ms_cons (ms_set (i := 5) sc66.nd me_dnewI) (ms_cons (ms_for (passes_of rfl) rfl (mi_enum (by rfl) T.enumerate (ma_cons (me_fld T.f_laid (me_var 1)) ma_nil)) (mg_tupG rfl (mgs_co (mg_name sc66.nd) (mgs_co (mg_tupG rfl (mgs_co (mg_name sc66.nd) (mgs_co (mg_name sc66.nd) mgs_nil))) mgs_nil))) ms_never) (ms_one (ms_ret (me_var 5)))))
theorem sc65_0 : FnScope ["self", "rules", "store", "start", "goal", "at", "cell", "_", "mask", "part", "bit"] ["self", "rules", "store", "start", "goal"] (defScope s65_0) := ⟨rfl, rfl, rfl, by decide +kernel, rfl, by decide +kernel, by decide +kernel⟩
def g65_0 (a : Ad) : List D → S → MF.R D := fnD 11 (sSeq (sPutF a.cs_cells "cells" (mVar 0) (mCall (kCall 2 (g63 a)) (mCons (mVar 3) (mCons (mVar 4) mNil)))) (sSeq (sPutF a.cs_bits "bits" (mVar 0) (mCo (.dik []) [5, 6] (itEnum (mCons (mFld a.cs_cells "cells" (mVar 0)) mNil)) (gTG 2 (gCo (gN 5) (gCo (gN 6) (gNs [])))) tTrue (aDic (mVar 6) (mBin (gShl) (mC (.int 1)) (mVar 5))))) (sSeq (sPutF a.cs_whole "whole" (mVar 0) (mSumV (mFld a.cs_bits "bits" (mVar 0)))) (sSeq (sPutF a.cs_faults "faults" (mVar 0) (mCall gTupI0 (mCons (mCall (kCall 5 (g66 a)) (mCons (mVar 1) (mCons (mVar 2) (mCons (mVar 3) (mCons (mVar 4) (mCons (mFld a.cs_bits "bits" (mVar 0)) mNil)))))) mNil))) (sSeq (sPutF a.cs_by_part "by_part" (mVar 0) (mComp [7] (itS (mFld a.cs_cells "cells" (mVar 0))) (gN 7) tTrue (mLst mNil))) (sSeq (sPutF a.cs_by_top "by_top" (mVar 0) (mComp [7] (itS (mFld a.cs_cells "cells" (mVar 0))) (gN 7) tTrue (mLst mNil))) (sFor (itS (mFld a.cs_faults "faults" (mVar 0))) (gTG 2 (gCo (gN 8) (gCo (gN 9) (gNs [])))) sNever)))))))
theorem ok65_0 (T : Tx P w K mg base a) : FnG P w K mg base 3 T.f65_0 T.d65_0 ["self", "rules", "store", "start", "goal"] (g65_0 a) :=
  fnG_of T.h65_0 sc65_0 fun cdv A outer s H E hr hgd => have tk := L2N.takes_of (X := cxOf (L2N.CX P w) P w K mg base ["self", "rules", "store", "start", "goal", "at", "cell", "_", "mask", "part", "bit"] "Course.__init__" (defScope s65_0) T.f65_0 cdv A outer s H E) (E := E) rfl rfl rfl rfl; (ms_cons (ms_fld T.f_cells (me_var 0) (me_callN (ok63 T) (hr.mono (by decide)) hgd tk (by rfl) T.h63.mg T.h63.kp T.h63.bi (ma_cons (me_var 3) (ma_cons (me_var 4) ma_nil)))) (ms_cons (ms_fld T.f_bits (me_var 0) (me_dcI hr.u1 rfl sc65_0.nd (mi_enum (by rfl) T.enumerate (ma_cons (me_fld T.f_cells (me_var 0)) ma_nil)) (own := [("at", 5), ("cell", 6)]) (blkOk_by (N := ["self", "rules", "store", "start", "goal", "at", "cell", "_", "mask", "part", "bit"]) (sc := defScope s65_0) (by decide +kernel)) (by decide) (fun _ _ _ _ _ => (mg_tupG rfl (mgs_co (mg_name sc65_0.nd) (mgs_co (mg_name sc65_0.nd) mgs_nil)))) (fun _ _ _ _ _ => mts_nil) (fun _ _ _ _ _ => (me_var 6)) (fun _ _ _ _ _ => (me_bin op2_shl op_shl me_int (me_var 5)))).1) (ms_cons (ms_fld T.f_whole (me_var 0) (me_sumV rfl (by rfl) T.sum (me_fld T.f_bits (me_var 0)))) (ms_cons (ms_fld T.f_faults (me_var 0) (me_callTy cl_tupI0 (call_tupI0 rfl) (by rfl) T.tuple (by rfl) (ma_cons (me_callN (ok66 T) (hr.mono (by decide)) hgd tk (by rfl) T.h66.mg T.h66.kp T.h66.bi (ma_cons (me_var 1) (ma_cons (me_var 2) (ma_cons (me_var 3) (ma_cons (me_var 4) (ma_cons (me_fld T.f_bits (me_var 0)) ma_nil)))))) ma_nil))) (ms_cons (ms_fld T.f_by_part (me_var 0) (me_lc rfl sc65_0.nd (mi_seq (me_fld T.f_cells (me_var 0))) (own := [("_", 7)]) (blkOk_by (N := ["self", "rules", "store", "start", "goal", "at", "cell", "_", "mask", "part", "bit"]) (sc := defScope s65_0) (by decide +kernel)) (by decide) (fun _ _ _ _ _ => (mg_name sc65_0.nd)) (fun _ _ _ _ _ => mts_nil) (fun _ _ _ _ _ => (me_lst ma_nil)))) (ms_cons (ms_fld T.f_by_top (me_var 0) (me_lc rfl sc65_0.nd (mi_seq (me_fld T.f_cells (me_var 0))) (own := [("_", 7)]) (blkOk_by (N := ["self", "rules", "store", "start", "goal", "at", "cell", "_", "mask", "part", "bit"]) (sc := defScope s65_0) (by decide +kernel)) (by decide) (fun _ _ _ _ _ => (mg_name sc65_0.nd)) (fun _ _ _ _ _ => mts_nil) (fun _ _ _ _ _ => (me_lst ma_nil)))) (ms_one (ms_for (passes_of rfl) rfl (mi_seq (me_fld T.f_faults (me_var 0))) (mg_tupG rfl (mgs_co (mg_name sc65_0.nd) (mgs_co (mg_name sc65_0.nd) mgs_nil))) ms_never))))))))
theorem sc67 : FnScope ["faults", "lot", "mask", "part"] ["faults", "lot"] (defScope s67) := ⟨rfl, rfl, rfl, by decide +kernel, rfl, by decide +kernel, by decide +kernel⟩
def g67 (a : Ad) : List D → S → MF.R D := fnD 4 (sSeq (sFor (itS (mVar 0)) (gTG 2 (gCo (gN 2) (gCo (gN 3) (gNs [])))) (sIf (mTest (mBin (gEq false) (mBin (gI0 Builtin.bitAnd) (mVar 1) (mVar 2)) (mVar 3))) (sRet (mC (.bl true))) sNil)) (sRet (mC (.bl false))))
theorem ok67 (T : Tx P w K mg base a) : FnG P w K mg base 2 T.f67 T.d67 ["faults", "lot"] (g67 a) :=
  fnG_of T.h67.fn sc67 fun cdv A outer s H E hr hgd => have tk := L2N.takes_of (X := cxOf (L2N.CX P w) P w K mg base ["faults", "lot", "mask", "part"] "has_fault" (defScope s67) T.f67 cdv A outer s H E) (E := E) rfl rfl rfl rfl; (ms_cons (ms_for (passes_of rfl) rfl (mi_seq (me_var 0)) (mg_tupG rfl (mgs_co (mg_name sc67.nd) (mgs_co (mg_name sc67.nd) mgs_nil))) (ms_one (ms_if (mt_cmp op2_eq (op_eqD hr.u64) (me_bin op2_i0 op_and (me_var 1) (me_var 2)) (me_var 3) (by first | exact nobehind _ (by decide) (by decide) | rfl)) (ms_one (ms_ret me_bl)) ms_nil))) (ms_one (ms_ret me_bl)))
theorem sc69 : FnScope ["course", "lot", "found", "at", "faults", "longer"] ["course", "lot"] (defScope s69) := ⟨rfl, rfl, rfl, by decide +kernel, rfl, by decide +kernel, by decide +kernel⟩
def g69 (a : Ad) : List D → S → MF.R D := fnD 6 (sSeq (sAsg (gN 2) (mLstM mNil)) (sSeq (sFor (itEnum (mCons (mFld a.cs_by_part "by_part" (mVar 0)) mNil)) (gTG 2 (gCo (gN 3) (gCo (gN 4) (gNs [])))) (sSeq (sAsg (gN 5) (mBin (gI0 Builtin.bitOr) (mVar 1) (mBin (gShl) (mC (.int 1)) (mVar 3)))) (sIf (tAnd2 (mTest (mBin (gEq true) (mVar 5) (mVar 1))) (tNot1 (mTest (mCall (kCall 2 (g67 a)) (mCons (mVar 4) (mCons (mVar 5) mNil)))))) (sExpr (mMeth gAppend (mVar 2) (mCons (mVar 5) mNil))) sNil))) (sRet (mVar 2))))
theorem ok69 (T : Tx P w K mg base a) : FnG P w K mg base 3 T.f69 T.d69 ["course", "lot"] (g69 a) :=
  fnG_of T.h69.fn sc69 fun cdv A outer s H E hr hgd => have tk := L2N.takes_of (X := cxOf (L2N.CX P w) P w K mg base ["course", "lot", "found", "at", "faults", "longer"] "longer_by_one" (defScope s69) T.f69 cdv A outer s H E) (E := E) rfl rfl rfl rfl; (ms_cons (ms_set (i := 2) sc69.nd (me_lstM ma_nil)) (ms_cons (ms_for (passes_of rfl) rfl (mi_enum (by rfl) T.enumerate (ma_cons (me_fld T.f_by_part (me_var 0)) ma_nil)) (mg_tupG rfl (mgs_co (mg_name sc69.nd) (mgs_co (mg_name sc69.nd) mgs_nil))) (ms_cons (ms_set (i := 5) sc69.nd (me_bin op2_i0 op_or (me_var 1) (me_bin op2_shl op_shl me_int (me_var 3)))) (ms_one (ms_if ((mw_and (mt_cmp op2_ne (op_neD hr.u64) (me_var 5) (me_var 1) (by first | exact nobehind _ (by decide) (by decide) | rfl)) (pw_and1 (mt_not (mt_val (me_callN (ok67 T) (hr.mono (by decide)) hgd tk (by rfl) T.h67.mg T.h67.kp T.h67.bi (ma_cons (me_var 4) (ma_cons (me_var 5) ma_nil)))))))).pt (ms_one (ms_expr (me_methL mtl_append PySem.F.slot_list_append PySem.F.type_list_append mt_append (me_var 2) (ma_cons (me_var 5) ma_nil)))) ms_nil)))) (ms_one (ms_ret (me_var 2)))))
def gL0 (a : Ad) : D → List D → S → MF.R D := fnL 2 (mCall (kCall 2 (g69 a)) (mCons (mVar 1) (mCons (mVar 0) mNil)))
theorem lm0 (T : Tx P w K mg base a) : LmG P w K mg base 4 0 ["lot"] "course" (gL0 a) :=
  lm_of (N := ["lot", "course"]) (NdefX.nscope_by (by decide +kernel)) (fun _ _ _ _ us hl => match us, hl with | [_], _ => rfl) fun f c c' A outer s H E hr hgd =>
    have tk := L2N.takes_of (X := NdefX.ncx (L2N.CX P w) P w K mg base ["lot", "course"] (lamF 0 "course" c c') f A outer s H E) (E := E) rfl rfl rfl rfl
    me_callN (ok69 T) (hr.mono (by decide)) hgd tk (by rfl) T.h69.mg T.h69.kp T.h69.bi (ma_cons (me_var 1) (ma_cons (me_var 0) ma_nil))
theorem sc71 : FnScope ["course", "size"] ["course", "size"] (defScope s71) := ⟨rfl, rfl, rfl, by decide +kernel, rfl, by decide +kernel, by decide +kernel⟩
def g71 (a : Ad) : List D → S → MF.R D := gLam 2 0 0 "course" a.p_gs (mTest (mBin (gEq false) (mVar 1) (mC (.int 1))))
theorem ok71 (T : Tx P w K mg base a) : FnG P w K mg base 2 T.f71 T.d71 ["course", "size"] (g71 a) :=
  fnG_lam T.h71.fn T.tb_gs sc71 (by rfl) (by rfl) (by rfl) (by rfl) (fun _ => rfl) (by decide +kernel) (fun _ => rfl) fun A outer s H E hr hgd => (mt_cmp op2_eq (op_eqD hr.u64) (me_var 1) me_int (by first | exact nobehind _ (by decide) (by decide) | rfl))
theorem sc43 : FnScope ["start", "steps", "most", "ahead", "waiting", "further", "place", "behind"] ["start", "steps", "most"] (defScope s43) := ⟨rfl, rfl, rfl, by decide +kernel, rfl, by decide +kernel, by decide +kernel⟩
def g43 (a : Ad) : List D → S → MF.R D := fnD 8 (sSeq (sAsg (gN 3) (mDisp2 0 0)) (sSeq (sAsg (gN 4) (mLst (mCons (mVar 0) mNil))) (sSeq (sWhile 20 (mTruth (mVar 4)) (sBlkF 5 (sSeq (sAsg (gN 5) (mLstM mNil)) (sSeq (sFor (itS (mVar 4)) (gN 6) (sSeq (sFor (itS (mClo 0 1 "course" (gL0 a) (mVar 1) (mCons (mVar 6) mNil))) (gN 7) (sIf (mTest (mDIn true (mVar 7) (mVar 3))) (sSeq (sDPutF (mVar 3) (mVar 7) (mVar 6)) (sExpr (mMeth gAppend (mVar 5) (mCons (mVar 7) mNil)))) sNil)) (sIf (mTest (mBin (gCmp fun i j => decide (j < i)) (mCall gLenD (mCons (mVar 3) mNil)) (mVar 2))) sNever sNil))) (sAsg (gN 4) (mVar 5)))))) (sRet (mVar 3)))))
theorem ok43 (T : Tx P w K mg base a) : FnG P w K mg base 5 T.f43 T.d43 ["start", "steps", "most"] (g43 a) :=
  fnG_of T.h43.fn sc43 fun cdv A outer s H E hr hgd => have tk := L2N.takes_of (X := cxOf (L2N.CX P w) P w K mg base ["start", "steps", "most", "ahead", "waiting", "further", "place", "behind"] "search_from" (defScope s43) T.f43 cdv A outer s H E) (E := E) rfl rfl rfl rfl; (ms_cons (ms_set (i := 3) sc43.nd (me_disp2 (i := 0) (j := 0))) (ms_cons (ms_set (i := 4) sc43.nd (me_lst (ma_cons (me_var 0) ma_nil))) (ms_cons (ms_while 20 (passes_of rfl) (mt_truth (me_var 4)) (mss_frz 5 (ms_cons (ms_set (i := 5) sc43.nd (me_lstM ma_nil)) (ms_cons (ms_for (passes_of rfl) rfl (mi_seq (me_var 4)) (mg_name sc43.nd) (ms_cons (ms_for (passes_of rfl) rfl (mi_seq (me_clo (i := 1) (lm0 T) (hr.mono (by decide)) hgd (by rfl) (by first | exact Or.inl rfl | exact Or.inr (Or.inl rfl) | exact Or.inr (Or.inr rfl)) (ma_cons (me_var 6) ma_nil))) (mg_name sc43.nd) (ms_one (ms_if (mt_pc (mc_dnotin hr.u1 (me_var 7) (me_var 3))) (ms_cons (ms_dput hr.u1 (me_var 3) (me_var 7) (me_var 6)) (ms_one (ms_expr (me_methL mtl_append PySem.F.slot_list_append PySem.F.type_list_append mt_append (me_var 5) (ma_cons (me_var 7) ma_nil))))) ms_nil))) (ms_one (ms_if (mt_cmp (op2_cmp _) op_gt (me_callB cl_lenD call_lenD (by rfl) T.len (by rfl) (ma_cons (me_var 3) ma_nil)) (me_var 2) (by first | exact nobehind _ (by decide) (by decide) | rfl)) ms_never ms_nil)))) (ms_one (ms_set (i := 4) sc43.nd (me_var 5))))))) (ms_one (ms_ret (me_var 3))))))
theorem sc44 : FnScope ["steps", "most"] ["steps", "most"] (defScope s44) := ⟨rfl, rfl, rfl, by decide +kernel, rfl, by decide +kernel, by decide +kernel⟩
def g44 (a : Ad) : List D → S → MF.R D := fnD 2 (sRet (mCall (kCall 3 (g43 a)) (mCons (mC (.int 0)) (mCons (mVar 0) (mCons (mVar 1) mNil)))))
theorem ok44 (T : Tx P w K mg base a) : FnG P w K mg base 6 T.f44 T.d44 ["steps", "most"] (g44 a) :=
  fnG_of T.h44.fn sc44 fun cdv A outer s H E hr hgd => have tk := L2N.takes_of (X := cxOf (L2N.CX P w) P w K mg base ["steps", "most"] "search_lots" (defScope s44) T.f44 cdv A outer s H E) (E := E) rfl rfl rfl rfl; (ms_one (ms_ret (me_callN (ok43 T) (hr.mono (by decide)) hgd tk (by rfl) T.h43.mg T.h43.kp T.h43.bi (ma_cons me_int (ma_cons (me_var 0) (ma_cons (me_var 1) ma_nil))))))
theorem sc45 : FnScope ["ahead", "steps", "goal", "ways", "lot", "longer"] ["ahead", "steps", "goal"] (defScope s45) := ⟨rfl, rfl, rfl, by decide +kernel, rfl, by decide +kernel, by decide +kernel⟩
def g45 (a : Ad) : List D → S → MF.R D := fnD 6 (sSeq (sAsg (gN 3) mNewI) (sSeq (sFor (itRev (mCall gListD (mCons (mVar 0) mNil))) (gN 4) (sDPutF (mVar 3) (mVar 4) (mIf (mTest (mBin (gEq false) (mVar 4) (mVar 2))) (mC (.int 1)) (mCall gSum (mCons (mComp [5] (itS (mClo 0 1 "course" (gL0 a) (mVar 1) (mCons (mVar 4) mNil))) (gN 5) tTrue (mDGet (mVar 3) (mVar 5))) mNil))))) (sRet (mVar 3))))
theorem ok45 (T : Tx P w K mg base a) : FnG P w K mg base 5 T.f45 T.d45 ["ahead", "steps", "goal"] (g45 a) :=
  fnG_of T.h45.fn sc45 fun cdv A outer s H E hr hgd => have tk := L2N.takes_of (X := cxOf (L2N.CX P w) P w K mg base ["ahead", "steps", "goal", "ways", "lot", "longer"] "count_ways" (defScope s45) T.f45 cdv A outer s H E) (E := E) rfl rfl rfl rfl; (ms_cons (ms_set (i := 3) sc45.nd me_dnewI) (ms_cons (ms_for (passes_of rfl) rfl (mi_rev (by rfl) T.reversed (me_callTy cl_listD (call_listD rfl) (by rfl) T.list (by rfl) (ma_cons (me_var 0) ma_nil))) (mg_name sc45.nd) (ms_one (ms_dput hr.u1 (me_var 3) (me_var 4) (me_if (mt_cmp op2_eq (op_eqD hr.u64) (me_var 4) (me_var 2) (by first | exact nobehind _ (by decide) (by decide) | rfl)) me_int (me_callB cl_sum (cr_sum rfl) (by rfl) T.sum (by rfl) (ma_cons (me_lc rfl sc45.nd (mi_seq (me_clo (i := 1) (lm0 T) (hr.mono (by decide)) hgd (by rfl) (by first | exact Or.inl rfl | exact Or.inr (Or.inl rfl) | exact Or.inr (Or.inr rfl)) (ma_cons (me_var 4) ma_nil))) (own := [("longer", 5)]) (blkOk_by (N := ["ahead", "steps", "goal", "ways", "lot", "longer"]) (sc := defScope s45) (by decide +kernel)) (by decide) (fun _ _ _ _ _ => (mg_name sc45.nd)) (fun _ _ _ _ _ => mts_nil) (fun _ _ _ _ _ => (me_dget hr.u1 (me_var 3) (me_var 5) (fun _ _ => rfl)))) ma_nil)))))) (ms_one (ms_ret (me_var 3)))))
theorem sc73 : FnScope ["store", "old", "new", "start", "goal"] ["store", "old", "new"] (defScope s73) := ⟨rfl, rfl, rfl, by decide +kernel, rfl, by decide +kernel, by decide +kernel⟩
def g73 (a : Ad) : List D → S → MF.R D := fnD 5 (sSeq (sAsg (gTG 2 (gCo (gN 3) (gCo (gN 4) (gNs [])))) (mCall (kCall 3 (g62 a)) (mCons (mVar 0) (mCons (mVar 1) (mCons (mVar 2) mNil))))) (sRet (mMakeK a.C_Course 4 0 5 (fun ds _ => ds) (g65_0 a) (mCons (mFld a.cs_book "book" (mVar 0)) (mCons (mVar 0) (mCons (mVar 3) (mCons (mVar 4) mNil)))) mNil)))
theorem ok73 (T : Tx P w K mg base a) : FnG P w K mg base 10 T.f73 T.d73 ["store", "old", "new"] (g73 a) :=
  fnG_of T.h73.fn sc73 fun cdv A outer s H E hr hgd => have tk := L2N.takes_of (X := cxOf (L2N.CX P w) P w K mg base ["store", "old", "new", "start", "goal"] "course_of" (defScope s73) T.f73 cdv A outer s H E) (E := E) rfl rfl rfl rfl; (ms_cons (ms_asg (me_callN (ok62 T) (hr.mono (by decide)) hgd tk (by rfl) T.h62.mg T.h62.kp T.h62.bi (ma_cons (me_var 0) (ma_cons (me_var 1) (ma_cons (me_var 2) ma_nil)))) (mg_tupG rfl (mgs_co (mg_name sc73.nd) (mgs_co (mg_name sc73.nd) mgs_nil)))) (ms_one (ms_ret (me_makeN T.M_Course (ok65_0 T) (hr.mono (by decide)) hgd tk (by rfl) T.m_Course T.kb_Course_4 (ma_cons (me_fld T.f_book (me_var 0)) (ma_cons (me_var 0) (ma_cons (me_var 3) (ma_cons (me_var 4) ma_nil)))) mk_nil))))
theorem sc74 : FnScope ["course", "most", "steps"] ["course", "most"] (defScope s74) := ⟨rfl, rfl, rfl, by decide +kernel, rfl, by decide +kernel, by decide +kernel⟩
def g74 (a : Ad) : List D → S → MF.R D := fnD 3 (sSeq (sAsg (gN 2) (mCall (kCall 2 (g71 a)) (mCons (mVar 0) (mCons (mC (.int 1)) mNil)))) (sRet (mCall (kCall 3 (g45 a)) (mCons (mCall (kCall 2 (g44 a)) (mCons (mVar 2) (mCons (mVar 1) mNil))) (mCons (mVar 2) (mCons (mFld a.cs_whole "whole" (mVar 0)) mNil))))))
theorem ok74 (T : Tx P w K mg base a) : FnG P w K mg base 7 T.f74 T.d74 ["course", "most"] (g74 a) :=
  fnG_of T.h74.fn sc74 fun cdv A outer s H E hr hgd => have tk := L2N.takes_of (X := cxOf (L2N.CX P w) P w K mg base ["course", "most", "steps"] "count_orders" (defScope s74) T.f74 cdv A outer s H E) (E := E) rfl rfl rfl rfl; (ms_cons (ms_set (i := 2) sc74.nd (me_callN (ok71 T) (hr.mono (by decide)) hgd tk (by rfl) T.h71.mg T.h71.kp T.h71.bi (ma_cons (me_var 0) (ma_cons me_int ma_nil)))) (ms_one (ms_ret (me_callN (ok45 T) (hr.mono (by decide)) hgd tk (by rfl) T.h45.mg T.h45.kp T.h45.bi (ma_cons (me_callN (ok44 T) (hr.mono (by decide)) hgd tk (by rfl) T.h44.mg T.h44.kp T.h44.bi (ma_cons (me_var 2) (ma_cons (me_var 1) ma_nil))) (ma_cons (me_var 2) (ma_cons (me_fld T.f_whole (me_var 0)) ma_nil)))))))
theorem sc76 : FnScope ["store", "old", "new", "number", "most", "course", "ways"] ["store", "old", "new", "number", "most"] (defScope s76) := ⟨rfl, rfl, rfl, by decide +kernel, rfl, by decide +kernel, by decide +kernel⟩
def g76 (a : Ad) : List D → S → MF.R D := fnD 7 (sSeq (sAsg (gN 5) (mCall (kCall 3 (g73 a)) (mCons (mVar 0) (mCons (mVar 1) (mCons (mVar 2) mNil))))) (sSeq (sAsg (gN 6) (mCall (kCall 2 (g74 a)) (mCons (mVar 5) (mCons (mVar 4) mNil)))) (sSeq (sIf (tNot1 (mTest (mCall (kCall 2 (g16 a)) (mCons (mVar 3) (mCons (mDGet (mVar 6) (mC (.int 0))) mNil))))) (sRaise a.C_Refused "at" (mVar 3)) sNil) sNever)))
theorem ok76 (T : Tx P w K mg base a) : FnG P w K mg base 11 T.f76 T.d76 ["store", "old", "new", "number", "most"] (g76 a) :=
  fnG_of T.h76.fn sc76 fun cdv A outer s H E hr hgd => have tk := L2N.takes_of (X := cxOf (L2N.CX P w) P w K mg base ["store", "old", "new", "number", "most", "course", "ways"] "nth_order" (defScope s76) T.f76 cdv A outer s H E) (E := E) rfl rfl rfl rfl; (ms_cons (ms_set (i := 5) sc76.nd (me_callN (ok73 T) (hr.mono (by decide)) hgd tk (by rfl) T.h73.mg T.h73.kp T.h73.bi (ma_cons (me_var 0) (ma_cons (me_var 1) (ma_cons (me_var 2) ma_nil))))) (ms_cons (ms_set (i := 6) sc76.nd (me_callN (ok74 T) (hr.mono (by decide)) hgd tk (by rfl) T.h74.mg T.h74.kp T.h74.bi (ma_cons (me_var 5) (ma_cons (me_var 4) ma_nil)))) (ms_cons (ms_if (mt_not (mt_val (me_callN (ok16 T) (hr.mono (by decide)) hgd tk (by rfl) T.h16.mg T.h16.kp T.h16.bi (ma_cons (me_var 3) (ma_cons (me_dget hr.u1 (me_var 6) me_int (fun _ _ => rfl)) ma_nil))))) (ms_one (ms_raise T.x_Refused rfl tk (hr.mono (by decide)) (by rfl) (me_var 3))) ms_nil) ms_never)))
theorem sc79 : FnScope ["word"] ["word"] (defScope s79) := ⟨rfl, rfl, rfl, by decide +kernel, rfl, by decide +kernel, by decide +kernel⟩
def g79 (a : Ad) : List D → S → MF.R D := fnD 1 (sRet (mAnd (mS0 (fun a => .bl (Txt.isascii a)) (mVar 0)) (mS0 (fun a => .bl (Txt.isdigit a)) (mVar 0))))
theorem ok79 (T : Tx P w K mg base a) : FnG P w K mg base 2 T.f79 T.d79 ["word"] (g79 a) :=
  fnG_of T.h79.fn sc79 fun cdv A outer s H E hr hgd => have tk := L2N.takes_of (X := cxOf (L2N.CX P w) P w K mg base ["word"] "is_figures" (defScope s79) T.f79 cdv A outer s H E) (E := E) rfl rfl rfl rfl; (ms_one (ms_ret (me_and (me_isascii (me_var 0)) (pe_one (me_isdigit (me_var 0))))))
theorem sc80 : FnScope ["word"] ["word"] (defScope s80) := ⟨rfl, rfl, rfl, by decide +kernel, rfl, by decide +kernel, by decide +kernel⟩
def g80 (a : Ad) : List D → S → MF.R D := fnD 1 (sSeq (sIf (tOr2 (tNot1 (mTest (mCall (kCall 1 (g79 a)) (mCons (mVar 0) mNil)))) (mTest (mBin (gCmp fun i j => decide (j < i)) (mCall gLen (mCons (mVar 0) mNil)) (mC (.int 6))))) (sRet (mC (.bl false))) sNil) (sRet (mOr (mBin (gEq false) (mVar 0) (mC (.str "0"))) (mNotT (mS1 gStarts (mVar 0) (mC (.str "0")))))))
theorem ok80 (T : Tx P w K mg base a) : FnG P w K mg base 3 T.f80 T.d80 ["word"] (g80 a) :=
  fnG_of T.h80.fn sc80 fun cdv A outer s H E hr hgd => have tk := L2N.takes_of (X := cxOf (L2N.CX P w) P w K mg base ["word"] "is_written_number" (defScope s80) T.f80 cdv A outer s H E) (E := E) rfl rfl rfl rfl; (ms_cons (ms_if ((mw_or (mt_not (mt_val (me_callN (ok79 T) (hr.mono (by decide)) hgd tk (by rfl) T.h79.mg T.h79.kp T.h79.bi (ma_cons (me_var 0) ma_nil)))) (pw_or1 (mt_cmp (op2_cmp _) op_gt (me_callB cl_len call_len (by rfl) T.len (by rfl) (ma_cons (me_var 0) ma_nil)) (me_globI (by rfl) T.c_MOST_FIGURES) (by first | exact nobehind _ (by decide) (by decide) | rfl))))).pt (ms_one (ms_ret me_bl)) ms_nil) (ms_one (ms_ret (me_or (me_cmp op2_eq (op_eqD hr.u64) (me_var 0) me_str (by first | exact nobehind _ (by decide) (by decide) | rfl)) (pe_one (me_notT (me_starts (me_var 0) me_str)))))))
theorem sc81 : FnScope ["opening", "line", "words", "word"] ["opening", "line"] (defScope s81) := ⟨rfl, rfl, rfl, by decide +kernel, rfl, by decide +kernel, by decide +kernel⟩
def g81 (a : Ad) : List D → S → MF.R D := fnD 4 (sSeq (sIf (tNot1 (mTest (mS1 gStarts (mVar 1) (mVar 0)))) (sRet (mC .non)) sNil) (sSeq (sAsg (gN 2) (mS1 gSplit (mSlS (mVar 1) (mPart (mCall gLen (mCons (mVar 0) mNil))) mNo) (mC (.str " ")))) (sSeq (sFor (itS (mVar 2)) (gN 3) (sIf (tNot1 (mTest (mCall (kCall 1 (g80 a)) (mCons (mVar 3) mNil)))) (sRet (mC .non)) sNil)) (sRet (mComp [3] (itS (mVar 2)) (gN 3) tTrue (mCall gIntS (mCons (mVar 3) mNil)))))))
theorem ok81 (T : Tx P w K mg base a) : FnG P w K mg base 4 T.f81 T.d81 ["opening", "line"] (g81 a) :=
  fnG_of T.h81.fn sc81 fun cdv A outer s H E hr hgd => have tk := L2N.takes_of (X := cxOf (L2N.CX P w) P w K mg base ["opening", "line", "words", "word"] "numbers_behind" (defScope s81) T.f81 cdv A outer s H E) (E := E) rfl rfl rfl rfl; (ms_cons (ms_if (mt_not (mt_val (me_starts (me_var 1) (me_var 0)))) (ms_one (ms_ret me_non)) ms_nil) (ms_cons (ms_set (i := 2) sc81.nd (me_split (me_slS (me_var 1) (mo_some (me_callB cl_len call_len (by rfl) T.len (by rfl) (ma_cons (me_var 0) ma_nil))) mo_none) me_str)) (ms_cons (ms_for (passes_of rfl) rfl (mi_seq (me_var 2)) (mg_name sc81.nd) (ms_one (ms_if (mt_not (mt_val (me_callN (ok80 T) (hr.mono (by decide)) hgd tk (by rfl) T.h80.mg T.h80.kp T.h80.bi (ma_cons (me_var 3) ma_nil)))) (ms_one (ms_ret me_non)) ms_nil))) (ms_one (ms_ret (me_lc rfl sc81.nd (mi_seq (me_var 2)) (own := [("word", 3)]) (blkOk_by (N := ["opening", "line", "words", "word"]) (sc := defScope s81) (by decide +kernel)) (by decide) (fun _ _ _ _ _ => (mg_name sc81.nd)) (fun _ _ _ _ _ => mts_nil) (fun _ _ _ _ _ => (me_callTy cl_intS call_int_str (by rfl) T.int (by rfl) (ma_cons (me_var 3) ma_nil)))))))))
theorem sc82 : FnScope ["text", "words", "word", "rows", "figure"] ["text"] (defScope s82) := ⟨rfl, rfl, rfl, by decide +kernel, rfl, by decide +kernel, by decide +kernel⟩
def g82 (a : Ad) : List D → S → MF.R D := fnD 5 (sSeq (sIf (mTest (mBin (gEq false) (mVar 0) (mC (.str "-")))) (sRet (mLst mNil)) sNil) (sSeq (sAsg (gN 1) (mS1 gSplit (mVar 0) (mC (.str " ")))) (sSeq (sFor (itS (mVar 1)) (gN 2) (sIf (tNot1 (mTest (mCall (kCall 1 (g79 a)) (mCons (mVar 2) mNil)))) (sRet (mC .non)) sNil)) (sSeq (sAsg (gN 3) (mComp [2] (itS (mVar 1)) (gN 2) tTrue (mCall gTuple (mCons (mComp [4] (itStr (mVar 2)) (gN 4) tTrue (mCall gIntS (mCons (mVar 4) mNil))) mNil)))) (sRet (mIf (mTest (mBin (gEq false) (mVar 3) (mSorS (mVar 3)))) (mVar 3) (mC .non)))))))
theorem ok82 (T : Tx P w K mg base a) : FnG P w K mg base 3 T.f82 T.d82 ["text"] (g82 a) :=
  fnG_of T.h82.fn sc82 fun cdv A outer s H E hr hgd => have tk := L2N.takes_of (X := cxOf (L2N.CX P w) P w K mg base ["text", "words", "word", "rows", "figure"] "rows_from" (defScope s82) T.f82 cdv A outer s H E) (E := E) rfl rfl rfl rfl; (ms_cons (ms_if (mt_cmp op2_eq (op_eqD hr.u64) (me_var 0) me_str (by first | exact nobehind _ (by decide) (by decide) | rfl)) (ms_one (ms_ret (me_lst ma_nil))) ms_nil) (ms_cons (ms_set (i := 1) sc82.nd (me_split (me_var 0) me_str)) (ms_cons (ms_for (passes_of rfl) rfl (mi_seq (me_var 1)) (mg_name sc82.nd) (ms_one (ms_if (mt_not (mt_val (me_callN (ok79 T) (hr.mono (by decide)) hgd tk (by rfl) T.h79.mg T.h79.kp T.h79.bi (ma_cons (me_var 2) ma_nil)))) (ms_one (ms_ret me_non)) ms_nil))) (ms_cons (ms_setLc rfl sc82.nd rfl rfl rfl (mi_seq (me_var 1)) (own := [("word", 2)]) (blkOk_by (N := ["text", "words", "word", "rows", "figure"]) (sc := defScope s82) (by decide +kernel)) (by decide) (fun _ _ _ _ _ => (mg_name sc82.nd)) (fun _ _ _ _ _ => mts_nil) (fun _ _ _ _ _ => (me_callTy cl_tuple call_tuple_of (by rfl) T.tuple (by rfl) (ma_cons (me_lc rfl sc82.nd (mi_str (me_var 2)) (own := [("figure", 4)]) (blkOk_by (by rfl)) (by decide) (fun _ _ _ _ _ => (mg_name sc82.nd)) (fun _ _ _ _ _ => mts_nil) (fun _ _ _ _ _ => (me_callTy cl_intS call_int_str (by rfl) T.int (by rfl) (ma_cons (me_var 4) ma_nil)))) ma_nil)))) (ms_one (ms_ret (me_if (mt_cmp op2_eq (op_eqD hr.u64) (me_var 3) (me_sorS hr.u64 rfl (by rfl) T.sorted (by rfl) T.set (me_var 3)) (by first | exact nobehind _ (by decide) (by decide) | rfl)) (me_var 3) me_non)))))))
theorem sc83 : FnScope ["columns", "line", "head", "_", "tail", "check"] ["columns", "line"] (defScope s83) := ⟨rfl, rfl, rfl, by decide +kernel, rfl, by decide +kernel, by decide +kernel⟩
def g83 (a : Ad) : List D → S → MF.R D := fnD 6 (sSeq (sAsg (gTG 3 (gCo (gN 2) (gCo (gN 3) (gCo (gN 4) (gNs []))))) (mS1 gPart (mVar 1) (mC (.str ": ")))) (sSeq (sAsg (gN 5) (mTup (mCons (mCall (kCall 2 (g81 a)) (mCons (mC (.str "check ")) (mCons (mVar 2) mNil))) (mCons (mCall (kCall 1 (g82 a)) (mCons (mVar 4) mNil)) mNil)))) (sRet (mIf (mTest (mCall (kCall 2 (g26 a)) (mCons (mVar 0) (mCons (mVar 5) mNil)))) (mVar 5) (mC .non)))))
theorem ok83 (T : Tx P w K mg base a) : FnG P w K mg base 8 T.f83 T.d83 ["columns", "line"] (g83 a) :=
  fnG_of T.h83.fn sc83 fun cdv A outer s H E hr hgd => have tk := L2N.takes_of (X := cxOf (L2N.CX P w) P w K mg base ["columns", "line", "head", "_", "tail", "check"] "check_from" (defScope s83) T.f83 cdv A outer s H E) (E := E) rfl rfl rfl rfl; (ms_cons (ms_asg (me_part (me_var 1) me_str) (mg_tupG rfl (mgs_co (mg_name sc83.nd) (mgs_co (mg_name sc83.nd) (mgs_co (mg_name sc83.nd) mgs_nil))))) (ms_cons (ms_set (i := 5) sc83.nd (me_tup (ma_cons (me_callN (ok81 T) (hr.mono (by decide)) hgd tk (by rfl) T.h81.mg T.h81.kp T.h81.bi (ma_cons me_str (ma_cons (me_var 2) ma_nil))) (ma_cons (me_callN (ok82 T) (hr.mono (by decide)) hgd tk (by rfl) T.h82.mg T.h82.kp T.h82.bi (ma_cons (me_var 4) ma_nil)) ma_nil)))) (ms_one (ms_ret (me_if (mt_val (me_callN (ok26 T) (hr.mono (by decide)) hgd tk (by rfl) T.h26.mg T.h26.kp T.h26.bi (ma_cons (me_var 0) (ma_cons (me_var 5) ma_nil)))) (me_var 5) me_non)))))
theorem sc84 : FnScope ["lines", "columns", "checks", "at", "line", "check"] ["lines"] (defScope s84) := ⟨rfl, rfl, rfl, by decide +kernel, rfl, by decide +kernel, by decide +kernel⟩
def g84 (a : Ad) : List D → S → MF.R D := fnD 6 (sSeq (sBlkF 2 (sSeq (sAsg (gN 1) (mIf (mTruth (mVar 0)) (mCall (kCall 2 (g81 a)) (mCons (mC (.str "columns ")) (mCons (mBin gIx (mVar 0) (mC (.int 0))) mNil))) (mC .non))) (sSeq (sIf (tNot1 (mTest (mCall (kCall 1 (g25 a)) (mCons (mVar 1) mNil)))) (sRaise a.C_BadText "at" (mC (.int 1))) sNil) (sSeq (sAsg (gN 2) (mLstM mNil)) (sFor (itEnum (mCons (mSl (mVar 0) (mPart (mC (.int 1))) mNo) mNil)) (gTG 2 (gCo (gN 3) (gCo (gN 4) (gNs [])))) (sSeq (sAsg (gN 5) (mCall (kCall 2 (g83 a)) (mCons (mVar 1) (mCons (mVar 4) mNil)))) (sSeq (sIf (tOr2 (mTest (mBin (gIsN false) (mVar 5) (mC .non))) (mTest (mBin (gCmp fun i j => decide (j ≤ i)) (mVar 3) (mC (.int 6))))) (sRaise a.C_BadText "at" (mBin (gAdd) (mVar 3) (mC (.int 2)))) sNil) (sExpr (mMeth gAppend (mVar 2) (mCons (mVar 5) mNil)))))))))) (sRet (mMakeK a.C_Book 2 0 3 (fun ds _ => ds) (g24_0 a) (mCons (mVar 1) (mCons (mVar 2) mNil)) mNil)))
theorem ok84 (T : Tx P w K mg base a) : FnG P w K mg base 10 T.f84 T.d84 ["lines"] (g84 a) :=
  fnG_of T.h84.fn sc84 fun cdv A outer s H E hr hgd => have tk := L2N.takes_of (X := cxOf (L2N.CX P w) P w K mg base ["lines", "columns", "checks", "at", "line", "check"] "book_from" (defScope s84) T.f84 cdv A outer s H E) (E := E) rfl rfl rfl rfl; (ms_cut 4 (mss_frz 2 (ms_cons (ms_set (i := 1) sc84.nd (me_if (mt_truth (me_var 0)) (me_callN (ok81 T) (hr.mono (by decide)) hgd tk (by rfl) T.h81.mg T.h81.kp T.h81.bi (ma_cons me_str (ma_cons (me_ix (me_var 0) me_int) ma_nil))) me_non)) (ms_cons (ms_if (mt_not (mt_val (me_callN (ok25 T) (hr.mono (by decide)) hgd tk (by rfl) T.h25.mg T.h25.kp T.h25.bi (ma_cons (me_var 1) ma_nil)))) (ms_one (ms_raise T.x_BadText rfl tk (hr.mono (by decide)) (by rfl) me_int)) ms_nil) (ms_cons (ms_set (i := 2) sc84.nd (me_lstM ma_nil)) (ms_one (ms_for (passes_of rfl) rfl (mi_enum (by rfl) T.enumerate (ma_cons (me_sl (me_var 0) (mo_some me_int) mo_none) ma_nil)) (mg_tupG rfl (mgs_co (mg_name sc84.nd) (mgs_co (mg_name sc84.nd) mgs_nil))) (ms_cons (ms_set (i := 5) sc84.nd (me_callN (ok83 T) (hr.mono (by decide)) hgd tk (by rfl) T.h83.mg T.h83.kp T.h83.bi (ma_cons (me_var 1) (ma_cons (me_var 4) ma_nil)))) (ms_cons (ms_if ((mw_or (mt_cmp op2_isN op_isN (me_var 5) me_non (by first | exact nobehind _ (by decide) (by decide) | rfl)) (pw_or1 (mt_cmp (op2_cmp _) op_ge (me_var 3) (me_globI (by rfl) T.c_MOST_CHECKS) (by first | exact nobehind _ (by decide) (by decide) | rfl))))).pt (ms_one (ms_raise T.x_BadText rfl tk (hr.mono (by decide)) (by rfl) (me_bin op2_add op_addD (me_var 3) me_int))) ms_nil) (ms_one (ms_expr (me_methL mtl_append PySem.F.slot_list_append PySem.F.type_list_append mt_append (me_var 2) (ma_cons (me_var 5) ma_nil)))))))))))) (ms_one (ms_ret (me_makeN T.M_Book (ok24_0 T) (hr.mono (by decide)) hgd tk (by rfl) T.m_Book T.kb_Book_2 (ma_cons (me_var 1) (ma_cons (me_var 2) ma_nil)) mk_nil))))
theorem sc85 : FnScope ["text"] ["text"] (defScope s85) := ⟨rfl, rfl, rfl, by decide +kernel, rfl, by decide +kernel, by decide +kernel⟩
def g85 (a : Ad) : List D → S → MF.R D := fnD 1 (sSeq (sIf (tNot1 (mTest (mIsi (fun c => isiB c "str") (mVar 0)))) (sRaise a.C_BadText "at" (mC (.int 0))) sNil) (sRet (mCall (kCall 1 (g84 a)) (mCons (mS1 gSplit (mVar 0) (mC (.str "\n"))) mNil))))
theorem ok85 (T : Tx P w K mg base a) : FnG P w K mg base 11 T.f85 T.d85 ["text"] (g85 a) :=
  fnG_of T.h85.fn sc85 fun cdv A outer s H E hr hgd => have tk := L2N.takes_of (X := cxOf (L2N.CX P w) P w K mg base ["text"] "read_book" (defScope s85) T.f85 cdv A outer s H E) (E := E) rfl rfl rfl rfl; (ms_cons (ms_if (mt_not (mt_val (me_isi kit_str (by rfl) T.isinstance (by rfl) T.str (by rfl) (me_var 0)))) (ms_one (ms_raise T.x_BadText rfl tk (hr.mono (by decide)) (by rfl) me_int)) ms_nil) (ms_one (ms_ret (me_callN (ok84 T) (hr.mono (by decide)) hgd tk (by rfl) T.h84.mg T.h84.kp T.h84.bi (ma_cons (me_split (me_var 0) me_str) ma_nil)))))
theorem sc87 : FnScope ["_law_script", "_law_k", "_law_cell"] ["_law_script", "_law_k"] (defScope s87) := ⟨rfl, rfl, rfl, by decide +kernel, rfl, by decide +kernel, by decide +kernel⟩
def g87 (a : Ad) : List D → S → MF.R D := fnP 3 (sSeq (sAsg (gN 2) (mBin (gAdd) (mBin (gMul) (mC (.int 9629)) (mVar 1)) (mC (.int 479)))) (sSeq (sIf (mTest (mBin (gCmp fun i j => decide (i < j)) (mVar 1) (mCall gLen (mCons (mVar 0) mNil)))) (sAsg (gN 2) (mCall gAbs (mCons (mBin gIx (mVar 0) (mVar 1)) mNil))) (sIf (mTest (mBin (gCmp fun i j => decide (j < i)) (mCall gLen (mCons (mVar 0) mNil)) (mC (.int 0)))) (sAsg (gN 2) (mBin (gAdd) (mVar 2) (mBin (gMul) (mBin (gMod) (mCall gInt (mCons (mCall gAbs (mCons (mBin gIx (mVar 0) (mBin (gMod) (mCall gInt (mCons (mVar 1) mNil)) (mCall gLen (mCons (mVar 0) mNil)))) mNil)) mNil)) (mC (.int 2147483477))) (mC (.int 48311))))) sNil)) (sRet (mLstM (mCons (mBin gIx (mLst (mCons (mC (.int 0)) (mCons (mVar 2) mNil))) (mCall gInt (mCons (mBin (gCmp fun i j => decide (j ≤ i)) (mVar 2) (mBin (gPow) (mC (.int 10)) (mC (.int 18)))) mNil))) (mCons (mBin (gAdd) (mBin (gMod) (mCall gInt (mCons (mBin (gAdd) (mBin (gMul) (mBin (gMod) (mCall gInt (mCons (mVar 2) mNil)) (mC (.int 2147483477))) (mC (.int 38803))) (mBin (gMul) (mC (.int 37003)) (mVar 1))) mNil)) (mC (.int 2147483477))) (mC (.int 1))) (mCons (mC (.int 0)) mNil)))))))
theorem ok87 (T : Tx P w K mg base a) : FnG P w K mg base 2 T.f87 T.d87 ["_law_script", "_law_k"] (g87 a) :=
  fnG_ofP T.h87.fn sc87 fun cdv A outer s H E hr hgd => have tk := L2N.takes_of (X := cxOf (L2N.CX P w) P w K mg base ["_law_script", "_law_k", "_law_cell"] "_law_box" (defScope s87) T.f87 cdv A outer s H E) (E := E) rfl rfl rfl rfl; (ms_cons (ms_set (i := 2) sc87.nd (me_bin op2_add op_addD (me_bin op2_mul op_mulD me_int (me_var 1)) me_int)) (ms_cons (ms_if (mt_cmp (op2_cmp _) op_lt (me_var 1) (me_callB cl_len call_len (by rfl) T.len (by rfl) (ma_cons (me_var 0) ma_nil)) (by first | exact nobehind _ (by decide) (by decide) | rfl)) (ms_one (ms_set (i := 2) sc87.nd (me_callB cl_abs call_abs (by rfl) T.abs (by rfl) (ma_cons (me_ix (me_var 0) (me_var 1)) ma_nil)))) (ms_one (ms_if (mt_cmp (op2_cmp _) op_gt (me_callB cl_len call_len (by rfl) T.len (by rfl) (ma_cons (me_var 0) ma_nil)) me_int (by first | exact nobehind _ (by decide) (by decide) | rfl)) (ms_one (ms_set (i := 2) sc87.nd (me_bin op2_add op_addD (me_var 2) (me_bin op2_mul op_mulD (me_bin op2_mod op_mod (me_callTy cl_int call_int1 (by rfl) T.int (by rfl) (ma_cons (me_callB cl_abs call_abs (by rfl) T.abs (by rfl) (ma_cons (me_ix (me_var 0) (me_bin op2_mod op_mod (me_callTy cl_int call_int1 (by rfl) T.int (by rfl) (ma_cons (me_var 1) ma_nil)) (me_callB cl_len call_len (by rfl) T.len (by rfl) (ma_cons (me_var 0) ma_nil)))) ma_nil)) ma_nil)) me_int) me_int)))) ms_nil))) (ms_one (ms_ret (me_lstM (ma_cons (me_ix (me_lst (ma_cons me_int (ma_cons (me_var 2) ma_nil))) (me_callTy cl_int call_int1 (by rfl) T.int (by rfl) (ma_cons (me_cmp (op2_cmp _) op_ge (me_var 2) (me_bin op2_pow op_pow me_int me_int) (by first | exact nobehind _ (by decide) (by decide) | rfl)) ma_nil))) (ma_cons (me_bin op2_add op_addD (me_bin op2_mod op_mod (me_callTy cl_int call_int1 (by rfl) T.int (by rfl) (ma_cons (me_bin op2_add op_addD (me_bin op2_mul op_mulD (me_bin op2_mod op_mod (me_callTy cl_int call_int1 (by rfl) T.int (by rfl) (ma_cons (me_var 2) ma_nil)) me_int) me_int) (me_bin op2_mul op_mulD me_int (me_var 1))) ma_nil)) me_int) me_int) (ma_cons me_int ma_nil))))))))
theorem sc88 : FnScope ["_law_box_here", "_law_many", "_law_digit", "_law_raw"] ["_law_box_here", "_law_many"] (defScope s88) := ⟨rfl, rfl, rfl, by decide +kernel, rfl, by decide +kernel, by decide +kernel⟩
def g88 (a : Ad) : List D → S → MF.R D := fnD 4 (sSeq (sIf (mTest (mBin (gCmp fun i j => decide (j < i)) (mBin gIx (mVar 0) (mC (.int 0))) (mC (.int 0)))) (sSeq (sAsg (gN 2) (mBin (gMod) (mCall gInt (mCons (mBin gIx (mVar 0) (mC (.int 0))) mNil)) (mVar 1))) (sSeq (sPut (mVar 0) (mC (.int 0)) (mBin (gFdiv) (mBin gIx (mVar 0) (mC (.int 0))) (mVar 1))) (sRet (mVar 2)))) sNil) (sSeq (sPut (mVar 0) (mC (.int 2)) (mBin (gAdd) (mBin gIx (mVar 0) (mC (.int 2))) (mC (.int 1)))) (sSeq (sAsg (gN 3) (mBin (gMod) (mCall gInt (mCons (mBin (gAdd) (mBin (gMul) (mBin (gAdd) (mBin gIx (mVar 0) (mC (.int 1))) (mBin (gMul) (mC (.int 67021)) (mBin gIx (mVar 0) (mC (.int 2))))) (mC (.int 54251))) (mC (.int 71))) mNil)) (mC (.int 2147483423)))) (sSeq (sPut (mVar 0) (mC (.int 1)) (mBin (gAdd) (mBin (gMod) (mCall gInt (mCons (mBin (gAdd) (mBin (gMul) (mVar 3) (mC (.int 48121))) (mC (.int 13003))) mNil)) (mC (.int 2147483477))) (mC (.int 1)))) (sRet (mBin (gMod) (mCall gInt (mCons (mBin (gFdiv) (mBin (gAdd) (mBin (gMul) (mVar 3) (mC (.int 2147483629))) (mBin gIx (mVar 0) (mC (.int 1)))) (mC (.int 8191))) mNil)) (mVar 1)))))))
theorem ok88 (T : Tx P w K mg base a) : FnG P w K mg base 2 T.f88 T.d88 ["_law_box_here", "_law_many"] (g88 a) :=
  fnG_of T.h88.fn sc88 fun cdv A outer s H E hr hgd => have tk := L2N.takes_of (X := cxOf (L2N.CX P w) P w K mg base ["_law_box_here", "_law_many", "_law_digit", "_law_raw"] "_law_take" (defScope s88) T.f88 cdv A outer s H E) (E := E) rfl rfl rfl rfl; (ms_cons (ms_if (mt_cmp (op2_cmp _) op_gt (me_ix (me_var 0) me_int) me_int (by first | exact nobehind _ (by decide) (by decide) | rfl)) (ms_cons (ms_set (i := 2) sc88.nd (me_bin op2_mod op_mod (me_callTy cl_int call_int1 (by rfl) T.int (by rfl) (ma_cons (me_ix (me_var 0) me_int) ma_nil)) (me_var 1))) (ms_cons (ms_put (me_bin op2_fdiv op_fdiv (me_ix (me_var 0) me_int) (me_var 1)) (me_var 0) me_int) (ms_one (ms_ret (me_var 2))))) ms_nil) (ms_cons (ms_put (me_bin op2_add op_addD (me_ix (me_var 0) me_int) me_int) (me_var 0) me_int) (ms_cons (ms_set (i := 3) sc88.nd (me_bin op2_mod op_mod (me_callTy cl_int call_int1 (by rfl) T.int (by rfl) (ma_cons (me_bin op2_add op_addD (me_bin op2_mul op_mulD (me_bin op2_add op_addD (me_ix (me_var 0) me_int) (me_bin op2_mul op_mulD me_int (me_ix (me_var 0) me_int))) me_int) me_int) ma_nil)) me_int)) (ms_cons (ms_put (me_bin op2_add op_addD (me_bin op2_mod op_mod (me_callTy cl_int call_int1 (by rfl) T.int (by rfl) (ma_cons (me_bin op2_add op_addD (me_bin op2_mul op_mulD (me_var 3) me_int) me_int) ma_nil)) me_int) me_int) (me_var 0) me_int) (ms_one (ms_ret (me_bin op2_mod op_mod (me_callTy cl_int call_int1 (by rfl) T.int (by rfl) (ma_cons (me_bin op2_fdiv op_fdiv (me_bin op2_add op_addD (me_bin op2_mul op_mulD (me_var 3) me_int) (me_ix (me_var 0) me_int)) me_int) ma_nil)) (me_var 1))))))))
theorem sc89 : FnScope ["_law_box_here", "_law_some"] ["_law_box_here", "_law_some"] (defScope s89) := ⟨rfl, rfl, rfl, by decide +kernel, rfl, by decide +kernel, by decide +kernel⟩
def g89 (a : Ad) : List D → S → MF.R D := fnD 2 (sRet (mBin gIx (mVar 1) (mCall (kCall 2 (g88 a)) (mCons (mVar 0) (mCons (mCall gLen (mCons (mVar 1) mNil)) mNil)))))
theorem ok89 (T : Tx P w K mg base a) : FnG P w K mg base 3 T.f89 T.d89 ["_law_box_here", "_law_some"] (g89 a) :=
  fnG_of T.h89.fn sc89 fun cdv A outer s H E hr hgd => have tk := L2N.takes_of (X := cxOf (L2N.CX P w) P w K mg base ["_law_box_here", "_law_some"] "_law_pick" (defScope s89) T.f89 cdv A outer s H E) (E := E) rfl rfl rfl rfl; (ms_one (ms_ret (me_ix (me_var 1) (me_callN (ok88 T) (hr.mono (by decide)) hgd tk (by rfl) T.h88.mg T.h88.kp T.h88.bi (ma_cons (me_var 0) (ma_cons (me_callB cl_len call_len (by rfl) T.len (by rfl) (ma_cons (me_var 1) ma_nil)) ma_nil))))))
theorem sc90 : FnScope ["_law_box_here", "_law_number"] ["_law_box_here"] (defScope s90) := ⟨rfl, rfl, rfl, by decide +kernel, rfl, by decide +kernel, by decide +kernel⟩
def g90 (a : Ad) : List D → S → MF.R D := fnD 2 (sSeq (sAsg (gN 1) (mBin (gSub) (mCall (kCall 2 (g88 a)) (mCons (mVar 0) (mCons (mBin (gPow) (mC (.int 10)) (mC (.int 9))) mNil))) (mBin (gMul) (mC (.int 5)) (mBin (gPow) (mC (.int 10)) (mC (.int 8)))))) (sRet (mCall (kCall 2 (g89 a)) (mCons (mVar 0) (mCons (mLst (mCons (mVar 1) (mCons (mBin (gSub) (mC (.int 0)) (mVar 1)) (mCons (mC .non) (mCons (mC (.bl true)) (mCons (mC (.str "")) (mCons (mC (.str "abc")) (mCons (mTup (mCons (mVar 1) (mCons (mC .non) mNil))) (mCons (mLst (mCons (mC (.int 1)) (mCons (mLst (mCons (mVar 1) mNil)) mNil))) (mCons (mC (.int 0)) mNil)))))))))) mNil)))))
theorem ok90 (T : Tx P w K mg base a) : FnG P w K mg base 4 T.f90 T.d90 ["_law_box_here"] (g90 a) :=
  fnG_of T.h90.fn sc90 fun cdv A outer s H E hr hgd => have tk := L2N.takes_of (X := cxOf (L2N.CX P w) P w K mg base ["_law_box_here", "_law_number"] "_law_value" (defScope s90) T.f90 cdv A outer s H E) (E := E) rfl rfl rfl rfl; (ms_cons (ms_set (i := 1) sc90.nd (me_bin op2_sub op_sub (me_callN (ok88 T) (hr.mono (by decide)) hgd tk (by rfl) T.h88.mg T.h88.kp T.h88.bi (ma_cons (me_var 0) (ma_cons (me_bin op2_pow op_pow me_int me_int) ma_nil))) (me_bin op2_mul op_mulD me_int (me_bin op2_pow op_pow me_int me_int)))) (ms_one (ms_ret (me_callN (ok89 T) (hr.mono (by decide)) hgd tk (by rfl) T.h89.mg T.h89.kp T.h89.bi (ma_cons (me_var 0) (ma_cons (me_lst (ma_cons (me_var 1) (ma_cons (me_bin op2_sub op_sub me_int (me_var 1)) (ma_cons me_non (ma_cons me_bl (ma_cons me_str (ma_cons me_str (ma_cons (me_tup (ma_cons (me_var 1) (ma_cons me_non ma_nil))) (ma_cons (me_lst (ma_cons me_int (ma_cons (me_lst (ma_cons (me_var 1) ma_nil)) ma_nil))) (ma_cons me_int ma_nil)))))))))) ma_nil))))))
theorem sc91 : FnScope ["_law_error", "_law_found", "_law_name", "_law_is_one"] ["_law_error"] (defScope s91) := ⟨rfl, rfl, rfl, by decide +kernel, rfl, by decide +kernel, by decide +kernel⟩
def g91 (a : Ad) : List D → S → MF.R D := fnD 4 (sSeq (sAsg (gN 1) (mLstM mNil)) (sSeq (sFor (itS (mLst (mCons (mTup (mCons (mC (.str "BadBook")) (mCons (mIsX a.xs a.is_BadBook (mVar 0)) mNil))) (mCons (mTup (mCons (mC (.str "BadState")) (mCons (mIsX a.xs a.is_BadState (mVar 0)) mNil))) (mCons (mTup (mCons (mC (.str "BadStore")) (mCons (mIsX a.xs a.is_BadStore (mVar 0)) mNil))) (mCons (mTup (mCons (mC (.str "BadText")) (mCons (mIsX a.xs a.is_BadText (mVar 0)) mNil))) (mCons (mTup (mCons (mC (.str "Knotted")) (mCons (mIsX a.xs a.is_Knotted (mVar 0)) mNil))) (mCons (mTup (mCons (mC (.str "Refused")) (mCons (mIsX a.xs a.is_Refused (mVar 0)) mNil))) (mCons (mTup (mCons (mC (.str "TooGreat")) (mCons (mIsX a.xs a.is_TooGreat (mVar 0)) mNil))) (mCons (mTup (mCons (mC (.str "NoCell")) (mCons (mIsX a.xs a.is_NoCell (mVar 0)) mNil))) (mCons (mTup (mCons (mC (.str "NoCheck")) (mCons (mIsX a.xs a.is_NoCheck (mVar 0)) mNil))) (mCons (mTup (mCons (mC (.str "NoKind")) (mCons (mIsX a.xs a.is_NoKind (mVar 0)) mNil))) (mCons (mTup (mCons (mC (.str "BatchError")) (mCons (mIsX a.xs a.is_BatchError (mVar 0)) mNil))) (mCons (mTup (mCons (mC (.str "KeyError")) (mCons (mIsX a.xs a.is_KeyError (mVar 0)) mNil))) (mCons (mTup (mCons (mC (.str "ValueError")) (mCons (mIsX a.xs a.is_ValueError (mVar 0)) mNil))) mNil))))))))))))))) (gTG 2 (gCo (gN 2) (gCo (gN 3) (gNs [])))) (sIf (mTruth (mVar 3)) (sExpr (mMeth gAppend (mVar 1) (mCons (mVar 2) mNil))) sNil)) (sRet (mVar 1))))
theorem ok91 (T : Tx P w K mg base a) : FnG P w K mg base 2 T.f91 T.d91 ["_law_error"] (g91 a) :=
  fnG_of T.h91.fn sc91 fun cdv A outer s H E hr hgd => have tk := L2N.takes_of (X := cxOf (L2N.CX P w) P w K mg base ["_law_error", "_law_found", "_law_name", "_law_is_one"] "_law_bases" (defScope s91) T.f91 cdv A outer s H E) (E := E) rfl rfl rfl rfl; (ms_cons (ms_set (i := 1) sc91.nd (me_lstM ma_nil)) (ms_cons (ms_for (passes_of rfl) rfl (mi_seq (me_lst (ma_cons (me_tup (ma_cons me_str (ma_cons (me_isx T.i_BadBook (.own (by rfl) T.x_BadBook.gC) (by rfl) T.isinstance (me_var 0)) ma_nil))) (ma_cons (me_tup (ma_cons me_str (ma_cons (me_isx T.i_BadState (.own (by rfl) T.x_BadState.gC) (by rfl) T.isinstance (me_var 0)) ma_nil))) (ma_cons (me_tup (ma_cons me_str (ma_cons (me_isx T.i_BadStore (.own (by rfl) T.x_BadStore.gC) (by rfl) T.isinstance (me_var 0)) ma_nil))) (ma_cons (me_tup (ma_cons me_str (ma_cons (me_isx T.i_BadText (.own (by rfl) T.x_BadText.gC) (by rfl) T.isinstance (me_var 0)) ma_nil))) (ma_cons (me_tup (ma_cons me_str (ma_cons (me_isx T.i_Knotted (.own (by rfl) T.x_Knotted.gC) (by rfl) T.isinstance (me_var 0)) ma_nil))) (ma_cons (me_tup (ma_cons me_str (ma_cons (me_isx T.i_Refused (.own (by rfl) T.x_Refused.gC) (by rfl) T.isinstance (me_var 0)) ma_nil))) (ma_cons (me_tup (ma_cons me_str (ma_cons (me_isx T.i_TooGreat (.own (by rfl) T.x_TooGreat.gC) (by rfl) T.isinstance (me_var 0)) ma_nil))) (ma_cons (me_tup (ma_cons me_str (ma_cons (me_isx T.i_NoCell (.own (by rfl) T.x_NoCell.gC) (by rfl) T.isinstance (me_var 0)) ma_nil))) (ma_cons (me_tup (ma_cons me_str (ma_cons (me_isx T.i_NoCheck (.own (by rfl) T.x_NoCheck.gC) (by rfl) T.isinstance (me_var 0)) ma_nil))) (ma_cons (me_tup (ma_cons me_str (ma_cons (me_isx T.i_NoKind (.own (by rfl) T.x_NoKind.gC) (by rfl) T.isinstance (me_var 0)) ma_nil))) (ma_cons (me_tup (ma_cons me_str (ma_cons (me_isx T.i_BatchError (.own (by rfl) T.m_BatchError) (by rfl) T.isinstance (me_var 0)) ma_nil))) (ma_cons (me_tup (ma_cons me_str (ma_cons (me_isx T.i_KeyError (.blt (by rfl) T.KeyError (by rfl) (by decide)) (by rfl) T.isinstance (me_var 0)) ma_nil))) (ma_cons (me_tup (ma_cons me_str (ma_cons (me_isx T.i_ValueError (.blt (by rfl) T.ValueError (by rfl) (by decide)) (by rfl) T.isinstance (me_var 0)) ma_nil))) ma_nil))))))))))))))) (mg_tupG rfl (mgs_co (mg_name sc91.nd) (mgs_co (mg_name sc91.nd) mgs_nil))) (ms_one (ms_if (mt_truth (me_var 3)) (ms_one (ms_expr (me_methL mtl_append PySem.F.slot_list_append PySem.F.type_list_append mt_append (me_var 1) (ma_cons (me_var 2) ma_nil)))) ms_nil))) (ms_one (ms_ret (me_var 1)))))
theorem sc92 : FnScope ["_law_box_here", "_law_value_here", "_law_more", "_law_told", "_law_name", "_law_error", "_law_named", "_law_great", "_law_knot", "_law_kind", "_law_cell", "_law_check"] ["_law_box_here"] (defScope s92) := ⟨rfl, rfl, rfl, by decide +kernel, rfl, by decide +kernel, by decide +kernel⟩
def g92 (a : Ad) : List D → S → MF.R D := fnD 12 (sSeq (sPar 1 2 (mCons (mCall (kCall 1 (g90 a)) (mCons (mVar 0) mNil)) (mCons (mCall (kCall 1 (g90 a)) (mCons (mVar 0) mNil)) mNil))) (sSeq (sAsg (gN 3) (mLst (mCons (mTup (mCons (mC (.str "BadBook")) (mCons (mExc a.C_BadBook "at" (mVar 1)) mNil))) (mCons (mTup (mCons (mC (.str "BadState")) (mCons (mExc a.C_BadState "at" (mVar 1)) mNil))) (mCons (mTup (mCons (mC (.str "BadStore")) (mCons (mExc a.C_BadStore "at" (mVar 1)) mNil))) (mCons (mTup (mCons (mC (.str "BadText")) (mCons (mExc a.C_BadText "at" (mVar 1)) mNil))) mNil)))))) (sSeq (sAsg (gN 3) (mBin (gAdd) (mVar 3) (mLst (mCons (mTup (mCons (mC (.str "Refused")) (mCons (mExc a.C_Refused "at" (mVar 1)) mNil))) (mCons (mTup (mCons (mC (.str "BadBook")) (mCons (mExc a.C_BadBook "at" (mVar 1)) mNil))) (mCons (mTup (mCons (mC (.str "BadState")) (mCons (mExc a.C_BadState "at" (mVar 1)) mNil))) mNil)))))) (sSeq (sAsg (gN 3) (mBin (gAdd) (mVar 3) (mLst (mCons (mTup (mCons (mC (.str "BadStore")) (mCons (mExc a.C_BadStore "at" (mVar 1)) mNil))) (mCons (mTup (mCons (mC (.str "BadText")) (mCons (mExc a.C_BadText "at" (mVar 1)) mNil))) (mCons (mTup (mCons (mC (.str "Refused")) (mCons (mExc a.C_Refused "at" (mVar 1)) mNil))) mNil)))))) (sSeq (sFor (itS (mVar 3)) (gTG 2 (gCo (gN 4) (gCo (gN 5) (gNs [])))) (sIf (tOr2 (mTest (mBin (gEq true) (mCall (kCall 1 (g91 a)) (mCons (mVar 5) mNil)) (mLst (mCons (mVar 4) (mCons (mC (.str "BatchError")) (mCons (mC (.str "ValueError")) mNil)))))) (mTest (mBin (gEq true) (mCall gRepr (mCons (mXat a.xs_at "at" (mVar 5)) mNil)) (mCall gRepr (mCons (mVar 1) mNil))))) (sRet (mC (.bl false))) sNil)) (sSeq (sAsg (gN 6) (mTup (mCons (mExc a.C_TooGreat "most" (mVar 2)) (mCons (mExc a.C_Knotted "kinds" (mVar 1)) (mCons (mExc a.C_NoKind "kind" (mVar 2)) (mCons (mExc a.C_NoCell "cell" (mVar 1)) (mCons (mExc a.C_NoCheck "check" (mVar 2)) mNil))))))) (sSeq (sFor (itS (mTup (mCons (mTup (mCons (mExc a.C_TooGreat "most" (mVar 2)) (mCons (mExc a.C_Knotted "kinds" (mVar 1)) (mCons (mExc a.C_NoKind "kind" (mVar 2)) (mCons (mExc a.C_NoCell "cell" (mVar 1)) (mCons (mExc a.C_NoCheck "check" (mVar 2)) mNil)))))) (mCons (mVar 6) mNil)))) (gTG 5 (gCo (gN 7) (gCo (gN 8) (gCo (gN 9) (gCo (gN 10) (gCo (gN 11) (gNs []))))))) (sSeq (sIf (tOr2 (mTest (mBin (gEq true) (mCall (kCall 1 (g91 a)) (mCons (mVar 7) mNil)) (mLst (mCons (mC (.str "TooGreat")) (mCons (mC (.str "BatchError")) (mCons (mC (.str "ValueError")) mNil)))))) (mTest (mBin (gEq true) (mCall (kCall 1 (g91 a)) (mCons (mVar 8) mNil)) (mLst (mCons (mC (.str "Knotted")) (mCons (mC (.str "BatchError")) (mCons (mC (.str "ValueError")) mNil))))))) (sRet (mC (.bl false))) sNil) (sSeq (sIf (mTest (mBin (gEq true) (mLst (mCons (mCall (kCall 1 (g91 a)) (mCons (mVar 9) mNil)) (mCons (mCall (kCall 1 (g91 a)) (mCons (mVar 10) mNil)) (mCons (mCall (kCall 1 (g91 a)) (mCons (mVar 11) mNil)) mNil)))) (mComp [4] (itS (mTup (mCons (mC (.str "NoKind")) (mCons (mC (.str "NoCell")) (mCons (mC (.str "NoCheck")) mNil))))) (gN 4) tTrue (mLst (mCons (mVar 4) (mCons (mC (.str "KeyError")) mNil)))))) (sRet (mC (.bl false))) sNil) (sIf (mTest (mBin (gEq true) (mCall gRepr (mCons (mLst (mCons (mXat a.xs_most "most" (mVar 7)) (mCons (mXat a.xs_kinds "kinds" (mVar 8)) (mCons (mXat a.xs_kind "kind" (mVar 9)) (mCons (mXat a.xs_cell "cell" (mVar 10)) (mCons (mXat a.xs_check "check" (mVar 11)) mNil)))))) mNil)) (mCall gRepr (mCons (mLst (mCons (mVar 2) (mCons (mVar 1) (mCons (mVar 2) (mCons (mVar 1) (mCons (mVar 2) mNil)))))) mNil)))) (sRet (mC (.bl false))) sNil)))) (sRet (mC (.bl true))))))))))
theorem ok92 (T : Tx P w K mg base a) : FnG P w K mg base 5 T.f92 T.d92 ["_law_box_here"] (g92 a) :=
  fnG_of T.h92.fn sc92 fun cdv A outer s H E hr hgd => have tk := L2N.takes_of (X := cxOf (L2N.CX P w) P w K mg base ["_law_box_here", "_law_value_here", "_law_more", "_law_told", "_law_name", "_law_error", "_law_named", "_law_great", "_law_knot", "_law_kind", "_law_cell", "_law_check"] "_law_kept_right" (defScope s92) T.f92 cdv A outer s H E) (E := E) rfl rfl rfl rfl; (ms_cons (ms_par (i := 1) (j := 2) rfl sc92.nd rfl rfl (by decide) rfl rfl (ma_cons (me_callN (ok90 T) (hr.mono (by decide)) hgd tk (by rfl) T.h90.mg T.h90.kp T.h90.bi (ma_cons (me_var 0) ma_nil)) (ma_cons (me_callN (ok90 T) (hr.mono (by decide)) hgd tk (by rfl) T.h90.mg T.h90.kp T.h90.bi (ma_cons (me_var 0) ma_nil)) ma_nil)) rfl) (ms_cons (ms_set (i := 3) sc92.nd (me_lst (ma_cons (me_tup (ma_cons me_str (ma_cons (me_exc T.x_BadBook (hr.mono (by decide)) (by rfl) (me_var 1)) ma_nil))) (ma_cons (me_tup (ma_cons me_str (ma_cons (me_exc T.x_BadState (hr.mono (by decide)) (by rfl) (me_var 1)) ma_nil))) (ma_cons (me_tup (ma_cons me_str (ma_cons (me_exc T.x_BadStore (hr.mono (by decide)) (by rfl) (me_var 1)) ma_nil))) (ma_cons (me_tup (ma_cons me_str (ma_cons (me_exc T.x_BadText (hr.mono (by decide)) (by rfl) (me_var 1)) ma_nil))) ma_nil)))))) (ms_cons (ms_set (i := 3) sc92.nd (me_bin op2_add op_addD (me_var 3) (me_lst (ma_cons (me_tup (ma_cons me_str (ma_cons (me_exc T.x_Refused (hr.mono (by decide)) (by rfl) (me_var 1)) ma_nil))) (ma_cons (me_tup (ma_cons me_str (ma_cons (me_excK T.x_BadBook (hr.mono (by decide)) (by rfl) (me_var 1)) ma_nil))) (ma_cons (me_tup (ma_cons me_str (ma_cons (me_excK T.x_BadState (hr.mono (by decide)) (by rfl) (me_var 1)) ma_nil))) ma_nil)))))) (ms_cons (ms_set (i := 3) sc92.nd (me_bin op2_add op_addD (me_var 3) (me_lst (ma_cons (me_tup (ma_cons me_str (ma_cons (me_excK T.x_BadStore (hr.mono (by decide)) (by rfl) (me_var 1)) ma_nil))) (ma_cons (me_tup (ma_cons me_str (ma_cons (me_excK T.x_BadText (hr.mono (by decide)) (by rfl) (me_var 1)) ma_nil))) (ma_cons (me_tup (ma_cons me_str (ma_cons (me_excK T.x_Refused (hr.mono (by decide)) (by rfl) (me_var 1)) ma_nil))) ma_nil)))))) (ms_cons (ms_for (passes_of rfl) rfl (mi_seq (me_var 3)) (mg_tupG rfl (mgs_co (mg_name sc92.nd) (mgs_co (mg_name sc92.nd) mgs_nil))) (ms_one (ms_if ((mw_or (mt_cmp op2_ne (op_neD hr.u64) (me_callN (ok91 T) (hr.mono (by decide)) hgd tk (by rfl) T.h91.mg T.h91.kp T.h91.bi (ma_cons (me_var 5) ma_nil)) (me_lst (ma_cons (me_var 4) (ma_cons me_str (ma_cons me_str ma_nil)))) (by first | exact nobehind _ (by decide) (by decide) | rfl)) (pw_or1 (mt_cmp op2_ne (op_neD hr.u64) (me_callB cl_repr (callr_repr hgd hr.u66) (by rfl) T.repr (by rfl) (ma_cons (me_xat T.xf_at (me_var 5)) ma_nil)) (me_callB cl_repr (callr_repr hgd hr.u66) (by rfl) T.repr (by rfl) (ma_cons (me_var 1) ma_nil)) (by first | exact nobehind _ (by decide) (by decide) | rfl))))).pt (ms_one (ms_ret me_bl)) ms_nil))) (ms_cons (ms_set (i := 6) sc92.nd (me_tup (ma_cons (me_excK T.x_TooGreat (hr.mono (by decide)) (by rfl) (me_var 2)) (ma_cons (me_excK T.x_Knotted (hr.mono (by decide)) (by rfl) (me_var 1)) (ma_cons (me_excK T.x_NoKind (hr.mono (by decide)) (by rfl) (me_var 2)) (ma_cons (me_excK T.x_NoCell (hr.mono (by decide)) (by rfl) (me_var 1)) (ma_cons (me_excK T.x_NoCheck (hr.mono (by decide)) (by rfl) (me_var 2)) ma_nil))))))) (ms_cons (ms_for (passes_of rfl) rfl (mi_seq (me_tup (ma_cons (me_tup (ma_cons (me_exc T.x_TooGreat (hr.mono (by decide)) (by rfl) (me_var 2)) (ma_cons (me_exc T.x_Knotted (hr.mono (by decide)) (by rfl) (me_var 1)) (ma_cons (me_exc T.x_NoKind (hr.mono (by decide)) (by rfl) (me_var 2)) (ma_cons (me_exc T.x_NoCell (hr.mono (by decide)) (by rfl) (me_var 1)) (ma_cons (me_exc T.x_NoCheck (hr.mono (by decide)) (by rfl) (me_var 2)) ma_nil)))))) (ma_cons (me_var 6) ma_nil)))) (mg_tupG rfl (mgs_co (mg_name sc92.nd) (mgs_co (mg_name sc92.nd) (mgs_co (mg_name sc92.nd) (mgs_co (mg_name sc92.nd) (mgs_co (mg_name sc92.nd) mgs_nil)))))) (ms_cons (ms_if ((mw_or (mt_cmp op2_ne (op_neD hr.u64) (me_callN (ok91 T) (hr.mono (by decide)) hgd tk (by rfl) T.h91.mg T.h91.kp T.h91.bi (ma_cons (me_var 7) ma_nil)) (me_lst (ma_cons me_str (ma_cons me_str (ma_cons me_str ma_nil)))) (by first | exact nobehind _ (by decide) (by decide) | rfl)) (pw_or1 (mt_cmp op2_ne (op_neD hr.u64) (me_callN (ok91 T) (hr.mono (by decide)) hgd tk (by rfl) T.h91.mg T.h91.kp T.h91.bi (ma_cons (me_var 8) ma_nil)) (me_lst (ma_cons me_str (ma_cons me_str (ma_cons me_str ma_nil)))) (by first | exact nobehind _ (by decide) (by decide) | rfl))))).pt (ms_one (ms_ret me_bl)) ms_nil) (ms_cons (ms_if (mt_cmp op2_ne (op_neD hr.u64) (me_lst (ma_cons (me_callN (ok91 T) (hr.mono (by decide)) hgd tk (by rfl) T.h91.mg T.h91.kp T.h91.bi (ma_cons (me_var 9) ma_nil)) (ma_cons (me_callN (ok91 T) (hr.mono (by decide)) hgd tk (by rfl) T.h91.mg T.h91.kp T.h91.bi (ma_cons (me_var 10) ma_nil)) (ma_cons (me_callN (ok91 T) (hr.mono (by decide)) hgd tk (by rfl) T.h91.mg T.h91.kp T.h91.bi (ma_cons (me_var 11) ma_nil)) ma_nil)))) (me_lc rfl sc92.nd (mi_seq (me_tup (ma_cons me_str (ma_cons me_str (ma_cons me_str ma_nil))))) (own := [("_law_name", 4)]) (blkOk_by (N := ["_law_box_here", "_law_value_here", "_law_more", "_law_told", "_law_name", "_law_error", "_law_named", "_law_great", "_law_knot", "_law_kind", "_law_cell", "_law_check"]) (sc := defScope s92) (by decide +kernel)) (by decide) (fun _ _ _ _ _ => (mg_name sc92.nd)) (fun _ _ _ _ _ => mts_nil) (fun _ _ _ _ _ => (me_lst (ma_cons (me_var 4) (ma_cons me_str ma_nil))))) (by first | exact nobehind _ (by decide) (by decide) | rfl)) (ms_one (ms_ret me_bl)) ms_nil) (ms_one (ms_if (mt_cmp op2_ne (op_neD hr.u64) (me_callB cl_repr (callr_repr hgd hr.u66) (by rfl) T.repr (by rfl) (ma_cons (me_lst (ma_cons (me_xat T.xf_most (me_var 7)) (ma_cons (me_xat T.xf_kinds (me_var 8)) (ma_cons (me_xat T.xf_kind (me_var 9)) (ma_cons (me_xat T.xf_cell (me_var 10)) (ma_cons (me_xat T.xf_check (me_var 11)) ma_nil)))))) ma_nil)) (me_callB cl_repr (callr_repr hgd hr.u66) (by rfl) T.repr (by rfl) (ma_cons (me_lst (ma_cons (me_var 2) (ma_cons (me_var 1) (ma_cons (me_var 2) (ma_cons (me_var 1) (ma_cons (me_var 2) ma_nil)))))) ma_nil)) (by first | exact nobehind _ (by decide) (by decide) | rfl)) (ms_one (ms_ret me_bl)) ms_nil))))) (ms_one (ms_ret me_bl)))))))))
end
end PA
end
section
set_option Elab.async false
set_option linter.all false
set_option maxRecDepth 100000
set_option maxHeartbeats 4000000
namespace PA
open PySem PySem.Spec PyProof.Rows L2 MF
section
variable {P : Program} {w : World} {K : PySem.W.Frag} {mg : Str → Option Value} {base : Heap} {a : Ad}
def g91h (a : Ad) : List D → S → MF.R D := fnD 4 (sSeq (sAsg (gN 1) (mLstM mNil)) (sSeq (sFor (itL (mLst (mCons (mTup (mCons (mC (.str "BadBook")) (mCons (mIsX a.xs a.is_BadBook (mVar 0)) mNil))) (mCons (mTup (mCons (mC (.str "BadState")) (mCons (mIsX a.xs a.is_BadState (mVar 0)) mNil))) (mCons (mTup (mCons (mC (.str "BadStore")) (mCons (mIsX a.xs a.is_BadStore (mVar 0)) mNil))) (mCons (mTup (mCons (mC (.str "BadText")) (mCons (mIsX a.xs a.is_BadText (mVar 0)) mNil))) (mCons (mTup (mCons (mC (.str "Knotted")) (mCons (mIsX a.xs a.is_Knotted (mVar 0)) mNil))) (mCons (mTup (mCons (mC (.str "Refused")) (mCons (mIsX a.xs a.is_Refused (mVar 0)) mNil))) (mCons (mTup (mCons (mC (.str "TooGreat")) (mCons (mIsX a.xs a.is_TooGreat (mVar 0)) mNil))) (mCons (mTup (mCons (mC (.str "NoCell")) (mCons (mIsX a.xs a.is_NoCell (mVar 0)) mNil))) (mCons (mTup (mCons (mC (.str "NoCheck")) (mCons (mIsX a.xs a.is_NoCheck (mVar 0)) mNil))) (mCons (mTup (mCons (mC (.str "NoKind")) (mCons (mIsX a.xs a.is_NoKind (mVar 0)) mNil))) (mCons (mTup (mCons (mC (.str "BatchError")) (mCons (mIsX a.xs a.is_BatchError (mVar 0)) mNil))) (mCons (mTup (mCons (mC (.str "KeyError")) (mCons (mIsX a.xs a.is_KeyError (mVar 0)) mNil))) (mCons (mTup (mCons (mC (.str "ValueError")) (mCons (mIsX a.xs a.is_ValueError (mVar 0)) mNil))) mNil))))))))))))))) (gTO 2 (gCo (gN 2) (gCo (gN 3) (gNs [])))) (sIf (mTruth (mVar 3)) (sExpr (mMeth gAppend (mVar 1) (mCons (mVar 2) mNil))) sNil)) (sRet (mVar 1))))
theorem ok91h (T : Tx P w K mg base a) : FnGH P w K mg base 2 T.f91 T.d91 ["_law_error"] (g91h a) :=
  fnGH_of T.h91.fn sc91 fun cdv A outer s H E p ax hr => (ms_consH (ms_hot (ms_set (i := 1) sc91.nd (me_lstM ma_nil))) (ms_consH (ms_forH (passes_of rfl) (me_lst (ma_cons (me_tup (ma_cons me_str (ma_cons (me_isx T.i_BadBook (.own (by rfl) T.x_BadBook.gC) (by rfl) T.isinstance (me_var 0)) ma_nil))) (ma_cons (me_tup (ma_cons me_str (ma_cons (me_isx T.i_BadState (.own (by rfl) T.x_BadState.gC) (by rfl) T.isinstance (me_var 0)) ma_nil))) (ma_cons (me_tup (ma_cons me_str (ma_cons (me_isx T.i_BadStore (.own (by rfl) T.x_BadStore.gC) (by rfl) T.isinstance (me_var 0)) ma_nil))) (ma_cons (me_tup (ma_cons me_str (ma_cons (me_isx T.i_BadText (.own (by rfl) T.x_BadText.gC) (by rfl) T.isinstance (me_var 0)) ma_nil))) (ma_cons (me_tup (ma_cons me_str (ma_cons (me_isx T.i_Knotted (.own (by rfl) T.x_Knotted.gC) (by rfl) T.isinstance (me_var 0)) ma_nil))) (ma_cons (me_tup (ma_cons me_str (ma_cons (me_isx T.i_Refused (.own (by rfl) T.x_Refused.gC) (by rfl) T.isinstance (me_var 0)) ma_nil))) (ma_cons (me_tup (ma_cons me_str (ma_cons (me_isx T.i_TooGreat (.own (by rfl) T.x_TooGreat.gC) (by rfl) T.isinstance (me_var 0)) ma_nil))) (ma_cons (me_tup (ma_cons me_str (ma_cons (me_isx T.i_NoCell (.own (by rfl) T.x_NoCell.gC) (by rfl) T.isinstance (me_var 0)) ma_nil))) (ma_cons (me_tup (ma_cons me_str (ma_cons (me_isx T.i_NoCheck (.own (by rfl) T.x_NoCheck.gC) (by rfl) T.isinstance (me_var 0)) ma_nil))) (ma_cons (me_tup (ma_cons me_str (ma_cons (me_isx T.i_NoKind (.own (by rfl) T.x_NoKind.gC) (by rfl) T.isinstance (me_var 0)) ma_nil))) (ma_cons (me_tup (ma_cons me_str (ma_cons (me_isx T.i_BatchError (.own (by rfl) T.m_BatchError) (by rfl) T.isinstance (me_var 0)) ma_nil))) (ma_cons (me_tup (ma_cons me_str (ma_cons (me_isx T.i_KeyError (.blt (by rfl) T.KeyError (by rfl) (by decide)) (by rfl) T.isinstance (me_var 0)) ma_nil))) (ma_cons (me_tup (ma_cons me_str (ma_cons (me_isx T.i_ValueError (.blt (by rfl) T.ValueError (by rfl) (by decide)) (by rfl) T.isinstance (me_var 0)) ma_nil))) ma_nil)))))))))))))) (mg_tupH (mgs_co (mg_name sc91.nd) (mgs_co (mg_name sc91.nd) mgs_nil))) (ms_one (ms_if (mt_truth (me_var 3)) (ms_one (ms_expr (me_methL mtl_append PySem.F.slot_list_append PySem.F.type_list_append mt_append (me_var 1) (ma_cons (me_var 2) ma_nil)))) ms_nil))) (ms_oneH (ms_hot (ms_ret (me_var 1))))))
theorem sc93 : FnScope ["_law_number", "_law_length", "_law_book", "_law_store", "_law_asks"] ["_law_number", "_law_length"] (defScope s93) := ⟨rfl, rfl, rfl, by decide +kernel, rfl, by decide +kernel, by decide +kernel⟩
def lk (i : Nat) : LamK := lamK ((defBody s93).getD (i + 2) (.Pass ⟨0, 0, 0, 0⟩))
def ml0 (a : Ad) : MF.Env → S → MF.R D := (mMakeK a.C_Book 2 0 3 (fun ds _ => ds) (g24_0 a) (mCons (mTup (mCons (mC (.int 2)) mNil)) (mCons (mBin (gAdd) (mBin (gMul) (mLst (mCons (mTup (mCons (mTup (mCons (mC (.int 0)) mNil)) (mCons (mLst (mCons (mTup (mCons (mC (.int 0)) mNil)) mNil)) mNil))) mNil)) (mVar 1)) (mLst (mCons (mC .non) mNil))) mNil)) mNil)
theorem ls0 : LamX.LamS (defScope s93) (lk 0).scope := LamX.lamS_by (by decide +kernel)
def ml1 (a : Ad) : MF.Env → S → MF.R D := (mMakeK a.C_Store 3 0 4 (fun ds _ => ds) (g50_0 a) (mCons (mVar 2) (mCons (mTup (mCons (mC (.int 0)) (mCons (mC (.int 1)) mNil))) (mCons (mBin (gAdd) (mBin (gMul) (mLst (mCons (mTup (mCons (mC (.int 0)) (mCons (mTup (mCons (mC (.int 0)) (mCons (mC (.int 1)) mNil))) mNil))) mNil)) (mVar 1)) (mLst (mCons (mTup (mCons (mC (.int 0)) (mCons (mTup (mCons (mC (.int 1)) (mCons (mC (.int 0)) mNil))) mNil))) mNil))) mNil))) mNil)
theorem ls1 : LamX.LamS (defScope s93) (lk 1).scope := LamX.lamS_by (by decide +kernel)
def ml2 (a : Ad) : MF.Env → S → MF.R D := (mCall (kCall 2 (g56 a)) (mCons (mVar 3) (mCons (mBin (gAdd) (mBin (gMulT) (mTup (mCons (mC (.int 1)) mNil)) (mVar 1)) (mBin (gMulT) (mTup (mCons (mC (.int 2)) mNil)) (mBin (gSub) (mC (.int 8)) (mVar 1)))) mNil)))
theorem ls2 : LamX.LamS (defScope s93) (lk 2).scope := LamX.lamS_by (by decide +kernel)
def ml3 (a : Ad) : MF.Env → S → MF.R D := (mCall (kCall 1 (g85 a)) (mCons (mBin (gAdd) (mBin (gAdd) (mC (.str "columns 2")) (mBin (gMulS) (mC (.str "\ncheck 0: 0 1")) (mBin (gSub) (mVar 1) (mC (.int 1))))) (mC (.str "\n"))) mNil))
theorem ls3 : LamX.LamS (defScope s93) (lk 3).scope := LamX.lamS_by (by decide +kernel)
def ml4 (a : Ad) : MF.Env → S → MF.R D := (mCall (kCall 3 (g62 a)) (mCons (mVar 3) (mCons (mBin (gAdd) (mLst (mCons (mC (.int 0)) (mCons (mC (.int 1)) mNil))) (mBin (gMul) (mLst (mCons (mC (.int 0)) mNil)) (mC (.int 6)))) (mCons (mC .non) mNil))))
theorem ls4 : LamX.LamS (defScope s93) (lk 4).scope := LamX.lamS_by (by decide +kernel)
def ml5 (a : Ad) : MF.Env → S → MF.R D := (mCallK 4 1 5 (fun ds zs => ds ++ zs) (g76 a) (mCons (mMakeK a.C_Store 2 0 4 (fun ds _ => ds ++ [.ctp []]) (g50_0 a) (mCons (mVar 2) (mCons (mBin (gMulT) (mTup (mCons (mC (.int 0)) mNil)) (mC (.int 4))) mNil)) mNil) (mCons (mBin (gMulT) (mTup (mCons (mC (.int 0)) mNil)) (mC (.int 4))) (mCons (mBin (gMulT) (mTup (mCons (mC (.int 1)) mNil)) (mC (.int 4))) (mCons (mBin (gAdd) (mC (.int 30)) (mVar 1)) mNil)))) (mCons (mC (.int 99)) mNil))
theorem ls5 : LamX.LamS (defScope s93) (lk 5).scope := LamX.lamS_by (by decide +kernel)
def ml6 (a : Ad) : MF.Env → S → MF.R D := (mCall (kCall 2 (g34 a)) (mCons (mVar 2) (mCons (mTup (mCons (mC (.int 0)) (mCons (mC (.int 1)) (mCons (mBin (gAdd) (mVar 1) (mC (.int 1))) mNil)))) mNil)))
theorem ls6 : LamX.LamS (defScope s93) (lk 6).scope := LamX.lamS_by (by decide +kernel)
def ml7 (a : Ad) : MF.Env → S → MF.R D := (mCall (kCall 2 (g54 a)) (mCons (mVar 3) (mCons (mBin (gAdd) (mC (.int 7)) (mVar 1)) mNil)))
theorem ls7 : LamX.LamS (defScope s93) (lk 7).scope := LamX.lamS_by (by decide +kernel)
def ml8 (a : Ad) : MF.Env → S → MF.R D := (mCall (kCall 2 (g31 a)) (mCons (mVar 2) (mCons (mVar 1) mNil)))
theorem ls8 : LamX.LamS (defScope s93) (lk 8).scope := LamX.lamS_by (by decide +kernel)
def mls (a : Ad) : List (MF.Env → S → MF.R D) := [ml0 a, ml1 a, ml2 a, ml3 a, ml4 a, ml5 a, ml6 a, ml7 a, ml8 a]
def qAsk : Str := "_law_ask.<locals>.<lambda>"
def g93 (a : Ad) : List D → S → MF.R D := fnD 5 (sSeq (sAsg (gN 2) (mMakeK a.C_Book 2 0 3 (fun ds _ => ds) (g24_0 a) (mCons (mTup (mCons (mC (.int 2)) (mCons (mC (.int 2)) mNil))) (mCons (mLst (mCons (mTup (mCons (mTup (mCons (mC (.int 0)) (mCons (mC (.int 1)) mNil))) (mCons (mLst (mCons (mTup (mCons (mC (.int 0)) (mCons (mC (.int 0)) mNil))) (mCons (mTup (mCons (mC (.int 1)) (mCons (mC (.int 1)) mNil))) mNil))) mNil))) mNil)) mNil)) mNil)) (sSeq (sAsg (gN 3) (mMakeK a.C_Store 3 0 4 (fun ds _ => ds) (g50_0 a) (mCons (mVar 2) (mCons (mBin (gMulT) (mTup (mCons (mC (.int 0)) (mCons (mC (.int 1)) mNil))) (mC (.int 4))) (mCons (mLst (mCons (mTup (mCons (mC (.int 0)) (mCons (mTup (mCons (mC (.int 0)) (mCons (mC (.int 1)) mNil))) mNil))) mNil)) mNil))) mNil)) (mfAsk a.p_ask qAsk 4 (sRet (mAskE 0 (mls a))))))
theorem al0 (T : Tx P w K mg base a) (A : Around) (outer : List PySem.Env) (s : Shared) (H : Hp) (E : XK) : AskL (cxOf (L2N.CX P w) P w K mg base ["_law_number", "_law_length", "_law_book", "_law_store", "_law_asks"] "_law_ask" (defScope s93) T.f93 (.ref T.c_ask) A outer s H E) qAsk 11 (lk 0) (ml0 a) :=
  ⟨ls0, fun _ _ _ _ => rfl, fun A1 outer1 s1 H1 E1 f1 c1 hr hgd => have tk := L2N.takes_of (X := lamN (cxOf (L2N.CX P w) P w K mg base ["_law_number", "_law_length", "_law_book", "_law_store", "_law_asks"] "_law_ask" (defScope s93) T.f93 (.ref T.c_ask) A outer s H E) A1 outer1 s1 H1 E1 (lk 0).scope f1 c1) (E := E1) rfl rfl rfl rfl; (me_makeN T.M_Book (ok24_0 T) (hr.mono (by decide)) hgd tk (by rfl) T.m_Book T.kb_Book_2 (ma_cons (me_tup (ma_cons me_int ma_nil)) (ma_cons (me_bin op2_add op_addD (me_bin op2_mul op_mulD (me_lst (ma_cons (me_tup (ma_cons (me_tup (ma_cons me_int ma_nil)) (ma_cons (me_lst (ma_cons (me_tup (ma_cons me_int ma_nil)) ma_nil)) ma_nil))) ma_nil)) (me_var 1)) (me_lst (ma_cons me_non ma_nil))) ma_nil)) mk_nil)⟩
theorem al1 (T : Tx P w K mg base a) (A : Around) (outer : List PySem.Env) (s : Shared) (H : Hp) (E : XK) : AskL (cxOf (L2N.CX P w) P w K mg base ["_law_number", "_law_length", "_law_book", "_law_store", "_law_asks"] "_law_ask" (defScope s93) T.f93 (.ref T.c_ask) A outer s H E) qAsk 11 (lk 1) (ml1 a) :=
  ⟨ls1, fun _ _ _ _ => rfl, fun A1 outer1 s1 H1 E1 f1 c1 hr hgd => have tk := L2N.takes_of (X := lamN (cxOf (L2N.CX P w) P w K mg base ["_law_number", "_law_length", "_law_book", "_law_store", "_law_asks"] "_law_ask" (defScope s93) T.f93 (.ref T.c_ask) A outer s H E) A1 outer1 s1 H1 E1 (lk 1).scope f1 c1) (E := E1) rfl rfl rfl rfl; (me_makeN T.M_Store (ok50_0 T) (hr.mono (by decide)) hgd tk (by rfl) T.m_Store T.kb_Store_3 (ma_cons (me_var 2) (ma_cons (me_tup (ma_cons me_int (ma_cons me_int ma_nil))) (ma_cons (me_bin op2_add op_addD (me_bin op2_mul op_mulD (me_lst (ma_cons (me_tup (ma_cons me_int (ma_cons (me_tup (ma_cons me_int (ma_cons me_int ma_nil))) ma_nil))) ma_nil)) (me_var 1)) (me_lst (ma_cons (me_tup (ma_cons me_int (ma_cons (me_tup (ma_cons me_int (ma_cons me_int ma_nil))) ma_nil))) ma_nil))) ma_nil))) mk_nil)⟩
theorem al2 (T : Tx P w K mg base a) (A : Around) (outer : List PySem.Env) (s : Shared) (H : Hp) (E : XK) : AskL (cxOf (L2N.CX P w) P w K mg base ["_law_number", "_law_length", "_law_book", "_law_store", "_law_asks"] "_law_ask" (defScope s93) T.f93 (.ref T.c_ask) A outer s H E) qAsk 11 (lk 2) (ml2 a) :=
  ⟨ls2, fun _ _ _ _ => rfl, fun A1 outer1 s1 H1 E1 f1 c1 hr hgd => have tk := L2N.takes_of (X := lamN (cxOf (L2N.CX P w) P w K mg base ["_law_number", "_law_length", "_law_book", "_law_store", "_law_asks"] "_law_ask" (defScope s93) T.f93 (.ref T.c_ask) A outer s H E) A1 outer1 s1 H1 E1 (lk 2).scope f1 c1) (E := E1) rfl rfl rfl rfl; (me_callN (ok56 T) (hr.mono (by decide)) hgd tk (by rfl) T.h56.mg T.h56.kp T.h56.bi (ma_cons (me_var 3) (ma_cons (me_bin op2_add op_addD (me_bin op2_mulT op_mulT (me_tup (ma_cons me_int ma_nil)) (me_var 1)) (me_bin op2_mulT op_mulT (me_tup (ma_cons me_int ma_nil)) (me_bin op2_sub op_sub me_int (me_var 1)))) ma_nil)))⟩
theorem al3 (T : Tx P w K mg base a) (A : Around) (outer : List PySem.Env) (s : Shared) (H : Hp) (E : XK) : AskL (cxOf (L2N.CX P w) P w K mg base ["_law_number", "_law_length", "_law_book", "_law_store", "_law_asks"] "_law_ask" (defScope s93) T.f93 (.ref T.c_ask) A outer s H E) qAsk 11 (lk 3) (ml3 a) :=
  ⟨ls3, fun _ _ _ _ => rfl, fun A1 outer1 s1 H1 E1 f1 c1 hr hgd => have tk := L2N.takes_of (X := lamN (cxOf (L2N.CX P w) P w K mg base ["_law_number", "_law_length", "_law_book", "_law_store", "_law_asks"] "_law_ask" (defScope s93) T.f93 (.ref T.c_ask) A outer s H E) A1 outer1 s1 H1 E1 (lk 3).scope f1 c1) (E := E1) rfl rfl rfl rfl; (me_callN (ok85 T) (hr.mono (by decide)) hgd tk (by rfl) T.h85.mg T.h85.kp T.h85.bi (ma_cons (me_bin op2_add op_addD (me_bin op2_add op_addD me_str (me_bin op2_mulS op_mulS me_str (me_bin op2_sub op_sub (me_var 1) me_int))) me_str) ma_nil))⟩
theorem al4 (T : Tx P w K mg base a) (A : Around) (outer : List PySem.Env) (s : Shared) (H : Hp) (E : XK) : AskL (cxOf (L2N.CX P w) P w K mg base ["_law_number", "_law_length", "_law_book", "_law_store", "_law_asks"] "_law_ask" (defScope s93) T.f93 (.ref T.c_ask) A outer s H E) qAsk 11 (lk 4) (ml4 a) :=
  ⟨ls4, fun _ _ _ _ => rfl, fun A1 outer1 s1 H1 E1 f1 c1 hr hgd => have tk := L2N.takes_of (X := lamN (cxOf (L2N.CX P w) P w K mg base ["_law_number", "_law_length", "_law_book", "_law_store", "_law_asks"] "_law_ask" (defScope s93) T.f93 (.ref T.c_ask) A outer s H E) A1 outer1 s1 H1 E1 (lk 4).scope f1 c1) (E := E1) rfl rfl rfl rfl; (me_callN (ok62 T) (hr.mono (by decide)) hgd tk (by rfl) T.h62.mg T.h62.kp T.h62.bi (ma_cons (me_var 3) (ma_cons (me_bin op2_add op_addD (me_lst (ma_cons me_int (ma_cons me_int ma_nil))) (me_bin op2_mul op_mulD (me_lst (ma_cons me_int ma_nil)) me_int)) (ma_cons me_non ma_nil))))⟩
theorem al5 (T : Tx P w K mg base a) (A : Around) (outer : List PySem.Env) (s : Shared) (H : Hp) (E : XK) : AskL (cxOf (L2N.CX P w) P w K mg base ["_law_number", "_law_length", "_law_book", "_law_store", "_law_asks"] "_law_ask" (defScope s93) T.f93 (.ref T.c_ask) A outer s H E) qAsk 11 (lk 5) (ml5 a) :=
  ⟨ls5, fun _ _ _ _ => rfl, fun A1 outer1 s1 H1 E1 f1 c1 hr hgd => have tk := L2N.takes_of (X := lamN (cxOf (L2N.CX P w) P w K mg base ["_law_number", "_law_length", "_law_book", "_law_store", "_law_asks"] "_law_ask" (defScope s93) T.f93 (.ref T.c_ask) A outer s H E) A1 outer1 s1 H1 E1 (lk 5).scope f1 c1) (E := E1) rfl rfl rfl rfl; (me_callK (ok76 T) (hr.mono (by decide)) hgd tk (by rfl) T.h76.mg T.h76.kp T.kb_76 (ma_cons (me_makeN T.M_Store (ok50_0 T) (hr.mono (by decide)) hgd tk (by rfl) T.m_Store T.kb_Store_2 (ma_cons (me_var 2) (ma_cons (me_bin op2_mulT op_mulT (me_tup (ma_cons me_int ma_nil)) me_int) ma_nil)) mk_nil) (ma_cons (me_bin op2_mulT op_mulT (me_tup (ma_cons me_int ma_nil)) me_int) (ma_cons (me_bin op2_mulT op_mulT (me_tup (ma_cons me_int ma_nil)) me_int) (ma_cons (me_bin op2_add op_addD me_int (me_var 1)) ma_nil)))) (mk_cons me_int mk_nil))⟩
theorem al6 (T : Tx P w K mg base a) (A : Around) (outer : List PySem.Env) (s : Shared) (H : Hp) (E : XK) : AskL (cxOf (L2N.CX P w) P w K mg base ["_law_number", "_law_length", "_law_book", "_law_store", "_law_asks"] "_law_ask" (defScope s93) T.f93 (.ref T.c_ask) A outer s H E) qAsk 11 (lk 6) (ml6 a) :=
  ⟨ls6, fun _ _ _ _ => rfl, fun A1 outer1 s1 H1 E1 f1 c1 hr hgd => have tk := L2N.takes_of (X := lamN (cxOf (L2N.CX P w) P w K mg base ["_law_number", "_law_length", "_law_book", "_law_store", "_law_asks"] "_law_ask" (defScope s93) T.f93 (.ref T.c_ask) A outer s H E) A1 outer1 s1 H1 E1 (lk 6).scope f1 c1) (E := E1) rfl rfl rfl rfl; (me_callN (ok34 T) (hr.mono (by decide)) hgd tk (by rfl) T.h34.mg T.h34.kp T.h34.bi (ma_cons (me_var 2) (ma_cons (me_tup (ma_cons me_int (ma_cons me_int (ma_cons (me_bin op2_add op_addD (me_var 1) me_int) ma_nil)))) ma_nil)))⟩
theorem al7 (T : Tx P w K mg base a) (A : Around) (outer : List PySem.Env) (s : Shared) (H : Hp) (E : XK) : AskL (cxOf (L2N.CX P w) P w K mg base ["_law_number", "_law_length", "_law_book", "_law_store", "_law_asks"] "_law_ask" (defScope s93) T.f93 (.ref T.c_ask) A outer s H E) qAsk 11 (lk 7) (ml7 a) :=
  ⟨ls7, fun _ _ _ _ => rfl, fun A1 outer1 s1 H1 E1 f1 c1 hr hgd => have tk := L2N.takes_of (X := lamN (cxOf (L2N.CX P w) P w K mg base ["_law_number", "_law_length", "_law_book", "_law_store", "_law_asks"] "_law_ask" (defScope s93) T.f93 (.ref T.c_ask) A outer s H E) A1 outer1 s1 H1 E1 (lk 7).scope f1 c1) (E := E1) rfl rfl rfl rfl; (me_callN (ok54 T) (hr.mono (by decide)) hgd tk (by rfl) T.h54.mg T.h54.kp T.h54.bi (ma_cons (me_var 3) (ma_cons (me_bin op2_add op_addD me_int (me_var 1)) ma_nil)))⟩
theorem al8 (T : Tx P w K mg base a) (A : Around) (outer : List PySem.Env) (s : Shared) (H : Hp) (E : XK) : AskL (cxOf (L2N.CX P w) P w K mg base ["_law_number", "_law_length", "_law_book", "_law_store", "_law_asks"] "_law_ask" (defScope s93) T.f93 (.ref T.c_ask) A outer s H E) qAsk 11 (lk 8) (ml8 a) :=
  ⟨ls8, fun _ _ _ _ => rfl, fun A1 outer1 s1 H1 E1 f1 c1 hr hgd => have tk := L2N.takes_of (X := lamN (cxOf (L2N.CX P w) P w K mg base ["_law_number", "_law_length", "_law_book", "_law_store", "_law_asks"] "_law_ask" (defScope s93) T.f93 (.ref T.c_ask) A outer s H E) A1 outer1 s1 H1 E1 (lk 8).scope f1 c1) (E := E1) rfl rfl rfl rfl; (me_callN (ok31 T) (hr.mono (by decide)) hgd tk (by rfl) T.h31.mg T.h31.kp T.h31.bi (ma_cons (me_var 2) (ma_cons (me_var 1) ma_nil)))⟩
theorem ok93 (T : Tx P w K mg base a) : FnG P w K mg base 13 T.f93 T.d93 ["_law_number", "_law_length"] (g93 a) :=
  fnG_ofL T.h93.fn sc93 fun A outer s H E hr hgd => have tk := L2N.takes_of (X := cxOf (L2N.CX P w) P w K mg base ["_law_number", "_law_length", "_law_book", "_law_store", "_law_asks"] "_law_ask" (defScope s93) T.f93 (.ref T.c_ask) A outer s H E) (E := E) rfl rfl rfl rfl
  have B : AskB (cxOf (L2N.CX P w) P w K mg base ["_law_number", "_law_length", "_law_book", "_law_store", "_law_asks"] "_law_ask" (defScope s93) T.f93 (.ref T.c_ask) A outer s H E) qAsk 11 ([lk 0] ++ [lk 1] ++ [lk 2] ++ [lk 3] ++ [lk 4] ++ [lk 5] ++ [lk 6] ++ [lk 7] ++ [lk 8]) (mls a) := (.cons (al0 T A outer s H E) (.cons (al1 T A outer s H E) (.cons (al2 T A outer s H E) (.cons (al3 T A outer s H E) (.cons (al4 T A outer s H E) (.cons (al5 T A outer s H E) (.cons (al6 T A outer s H E) (.cons (al7 T A outer s H E) (.cons (al8 T A outer s H E) .nil)))))))))
  (ms_cons (ms_set (i := 2) sc93.nd (me_makeN T.M_Book (ok24_0 T) (hr.mono (by decide)) hgd tk (by rfl) T.m_Book T.kb_Book_2 (ma_cons (me_tup (ma_cons me_int (ma_cons me_int ma_nil))) (ma_cons (me_lst (ma_cons (me_tup (ma_cons (me_tup (ma_cons me_int (ma_cons me_int ma_nil))) (ma_cons (me_lst (ma_cons (me_tup (ma_cons me_int (ma_cons me_int ma_nil))) (ma_cons (me_tup (ma_cons me_int (ma_cons me_int ma_nil))) ma_nil))) ma_nil))) ma_nil)) ma_nil)) mk_nil)) (ms_cons (ms_set (i := 3) sc93.nd (me_makeN T.M_Store (ok50_0 T) (hr.mono (by decide)) hgd tk (by rfl) T.m_Store T.kb_Store_3 (ma_cons (me_var 2) (ma_cons (me_bin op2_mulT op_mulT (me_tup (ma_cons me_int (ma_cons me_int ma_nil))) me_int) (ma_cons (me_lst (ma_cons (me_tup (ma_cons me_int (ma_cons (me_tup (ma_cons me_int (ma_cons me_int ma_nil))) ma_nil))) ma_nil)) ma_nil))) mk_nil)) (ask_first (l := lk 0) (k := 4) (by rfl) T.tb_ask (by rfl) (by rfl) (by rfl) ls0 (by rfl) sc93.nd (by rfl) (ask_step (l := lk 1) (k := 4) (by rfl) T.tb_ask (by rfl) (by rfl) (by rfl) ls1 (by rfl) (.inl rfl) (by rw [sizeLine_eq]; decide) (ask_step (l := lk 2) (k := 4) (by rfl) T.tb_ask (by rfl) (by rfl) (by rfl) ls2 (by rfl) (.inl rfl) (by rw [sizeLine_eq]; decide) (ask_step (l := lk 3) (k := 4) (by rfl) T.tb_ask (by rfl) (by rfl) (by rfl) ls3 (by rfl) (.inl rfl) (by rw [sizeLine_eq]; decide) (ask_step (l := lk 4) (k := 4) (by rfl) T.tb_ask (by rfl) (by rfl) (by rfl) ls4 (by rfl) (.inl rfl) (by rw [sizeLine_eq]; decide) (ask_step (l := lk 5) (k := 4) (by rfl) T.tb_ask (by rfl) (by rfl) (by rfl) ls5 (by rfl) (.inl rfl) (by rw [sizeLine_eq]; decide) (ask_step (l := lk 6) (k := 4) (by rfl) T.tb_ask (by rfl) (by rfl) (by rfl) ls6 (by rfl) (.inl rfl) (by rw [sizeLine_eq]; decide) (ask_step (l := lk 7) (k := 4) (by rfl) T.tb_ask (by rfl) (by rfl) (by rfl) ls7 (by rfl) (.inl rfl) (by rw [sizeLine_eq]; decide) (ask_step (l := lk 8) (k := 4) (by rfl) T.tb_ask (by rfl) (by rfl) (by rfl) ls8 (by rfl) (.inl rfl) (by rw [sizeLine_eq]; decide) (ask_end (ask_pe (by rfl) (hr.mono (by decide)) hgd tk B (k := 4) (i := 0) (by rfl) (.inl rfl) (by rfl) (.inl rfl) (by decide))))))))))))))
theorem sc94 : FnScope ["_law_number", "_law_length", "e"] ["_law_number", "_law_length"] (defScope s94) := ⟨rfl, rfl, rfl, by decide +kernel, rfl, by decide +kernel, by decide +kernel⟩
def g94 (a : Ad) : List D → S → MF.R D := fnD 3 (sSeq (sTry 3 2 (sExpr (mCall (kCall 2 (g93 a)) (mCons (mVar 0) (mCons (mVar 1) mNil)))) [((fun C => if C ∈ a.xs then some (a.is_BadBook C || a.is_BadState C || a.is_BadStore C || a.is_BadText C || a.is_Refused C) else none), (sRet (mLst (mCons (mCall (kCall 1 (g91h a)) (mCons (mVar 2) mNil)) (mCons (mXat a.xs_at "at" (mVar 2)) mNil))))), ((fun C => if C ∈ a.xs then some (a.is_TooGreat C) else none), (sRet (mLst (mCons (mCall (kCall 1 (g91h a)) (mCons (mVar 2) mNil)) (mCons (mXat a.xs_most "most" (mVar 2)) mNil))))), ((fun C => if C ∈ a.xs then some (a.is_NoKind C) else none), (sRet (mLst (mCons (mCall (kCall 1 (g91h a)) (mCons (mVar 2) mNil)) (mCons (mXat a.xs_kind "kind" (mVar 2)) mNil))))), ((fun C => if C ∈ a.xs then some (a.is_NoCell C) else none), (sRet (mLst (mCons (mCall (kCall 1 (g91h a)) (mCons (mVar 2) mNil)) (mCons (mXat a.xs_cell "cell" (mVar 2)) mNil))))), ((fun C => if C ∈ a.xs then some (a.is_NoCheck C) else none), (sRet (mLst (mCons (mCall (kCall 1 (g91h a)) (mCons (mVar 2) mNil)) (mCons (mXat a.xs_check "check" (mVar 2)) mNil)))))]) (sRet (mC .non)))
theorem ok94 (T : Tx P w K mg base a) : FnG P w K mg base 14 T.f94 T.d94 ["_law_number", "_law_length"] (g94 a) :=
  fnG_of T.h94.fn sc94 fun cdv A outer s H E hr hgd => have tk := L2N.takes_of (X := cxOf (L2N.CX P w) P w K mg base ["_law_number", "_law_length", "e"] "_law_raised" (defScope s94) T.f94 cdv A outer s H E) (E := E) rfl rfl rfl rfl
  (ms_cons (ms_tryH (i := 2) rfl rfl sc94.nd (by rfl) (by rfl) tk rfl (fun W1 pn1 xe1 tk1 hp1 => (ms_one (ms_expr (me_callN (ok93 T) (hr.mono (by decide)) hgd tk1 (by rfl) T.h93.mg T.h93.kp T.h93.bi (ma_cons (me_var 0) (ma_cons (me_var 1) ma_nil)))))) (.cons (test_five (by rfl) T.x_BadBook.gC (by rfl) T.x_BadState.gC (by rfl) T.x_BadStore.gC (by rfl) T.x_BadText.gC (by rfl) T.x_Refused.gC) (fun C b hb => p5_of T.e_BadBook T.e_BadState T.e_BadStore T.e_BadText T.e_Refused hb) (fun ax pn => ms_oneH (ms_retH (me_lstH (ma_consH (me_callH (ok91h T) (hot_room ((L2H.roomH_of hr).mono (by decide))) takesN (by rfl) T.h91.mg T.h91.kp T.h91.bi (ma_cons (me_var 2) ma_nil)) (ma_cons (me_xat T.xf_at (me_var 2)) ma_nil))))) (.cons (test_name ⟨by rfl, by decide, .inl T.x_TooGreat.gC⟩) (fun C b hb => p1_of T.e_TooGreat hb) (fun ax pn => ms_oneH (ms_retH (me_lstH (ma_consH (me_callH (ok91h T) (hot_room ((L2H.roomH_of hr).mono (by decide))) takesN (by rfl) T.h91.mg T.h91.kp T.h91.bi (ma_cons (me_var 2) ma_nil)) (ma_cons (me_xat T.xf_most (me_var 2)) ma_nil))))) (.cons (test_name ⟨by rfl, by decide, .inl T.x_NoKind.gC⟩) (fun C b hb => p1_of T.e_NoKind hb) (fun ax pn => ms_oneH (ms_retH (me_lstH (ma_consH (me_callH (ok91h T) (hot_room ((L2H.roomH_of hr).mono (by decide))) takesN (by rfl) T.h91.mg T.h91.kp T.h91.bi (ma_cons (me_var 2) ma_nil)) (ma_cons (me_xat T.xf_kind (me_var 2)) ma_nil))))) (.cons (test_name ⟨by rfl, by decide, .inl T.x_NoCell.gC⟩) (fun C b hb => p1_of T.e_NoCell hb) (fun ax pn => ms_oneH (ms_retH (me_lstH (ma_consH (me_callH (ok91h T) (hot_room ((L2H.roomH_of hr).mono (by decide))) takesN (by rfl) T.h91.mg T.h91.kp T.h91.bi (ma_cons (me_var 2) ma_nil)) (ma_cons (me_xat T.xf_cell (me_var 2)) ma_nil))))) (.cons (test_name ⟨by rfl, by decide, .inl T.x_NoCheck.gC⟩) (fun C b hb => p1_of T.e_NoCheck hb) (fun ax pn => ms_oneH (ms_retH (me_lstH (ma_consH (me_callH (ok91h T) (hot_room ((L2H.roomH_of hr).mono (by decide))) takesN (by rfl) T.h91.mg T.h91.kp T.h91.bi (ma_cons (me_var 2) ma_nil)) (ma_cons (me_xat T.xf_check (me_var 2)) ma_nil))))) .nil)))))) (ms_one (ms_ret me_non)))
theorem sc95 : FnScope ["_law_script", "_law_k", "_law_box_here", "_law_length", "_law_dues", "_law_number", "_law_name", "_law_field"] ["_law_script"] (defScope s95) := ⟨rfl, rfl, rfl, by decide +kernel, rfl, by decide +kernel, by decide +kernel⟩
def g95 (a : Ad) : List D → S → MF.R D := fnD 8 (sSeq (sFor (itRange (mCons (mC (.int 3)) mNil)) (gN 1) (sBlkF 2 (sSeq (sAsg (gN 2) (mCall (kCall 2 (g87 a)) (mCons (mVar 0) (mCons (mVar 1) mNil)))) (sSeq (sAsg (gN 3) (mBin (gAdd) (mC (.int 1)) (mCall (kCall 2 (g88 a)) (mCons (mVar 2) (mCons (mC (.int 3)) mNil))))) (sSeq (sIf (tNot1 (mTest (mCall (kCall 1 (g92 a)) (mCons (mVar 2) mNil)))) (sRet (mC (.bl false))) sNil) (sSeq (sAsg (gN 4) (mLst (mCons (mTup (mCons (mC (.str "BadBook")) (mCons (mVar 3) mNil))) (mCons (mTup (mCons (mC (.str "BadStore")) (mCons (mVar 3) mNil))) (mCons (mTup (mCons (mC (.str "BadState")) (mCons (mVar 3) mNil))) (mCons (mTup (mCons (mC (.str "BadText")) (mCons (mBin (gAdd) (mVar 3) (mC (.int 1))) mNil))) (mCons (mTup (mCons (mC (.str "Refused")) (mCons (mBin (gAdd) (mLst (mCons (mC (.int 0)) (mCons (mC (.int 1)) mNil))) (mBin (gMul) (mLst (mCons (mC (.int 0)) mNil)) (mC (.int 6)))) mNil))) mNil))))))) (sSeq (sAsg (gN 4) (mBin (gAdd) (mVar 4) (mLst (mCons (mTup (mCons (mC (.str "Refused")) (mCons (mBin (gAdd) (mC (.int 30)) (mVar 3)) mNil))) mNil)))) (sSeq (sFor (itRange (mCons (mCall gLen (mCons (mVar 4) mNil)) mNil)) (gN 5) (sSeq (sAsg (gTG 2 (gCo (gN 6) (gCo (gN 7) (gNs [])))) (mBin gIx (mVar 4) (mVar 5))) (sIf (mTest (mBin (gEq true) (mCall gRepr (mCons (mCall (kCall 2 (g94 a)) (mCons (mVar 5) (mCons (mVar 3) mNil))) mNil)) (mCall gRepr (mCons (mLst (mCons (mLst (mCons (mVar 6) (mCons (mC (.str "BatchError")) (mCons (mC (.str "ValueError")) mNil)))) (mCons (mVar 7) mNil))) mNil)))) (sRet (mC (.bl false))) sNil))) (sFor (itS (mTup (mCons (mTup (mCons (mC (.int 6)) (mCons (mC (.str "NoKind")) (mCons (mTup (mCons (mC (.int 0)) (mCons (mC (.int 1)) (mCons (mBin (gAdd) (mVar 3) (mC (.int 1))) mNil)))) mNil)))) (mCons (mTup (mCons (mC (.int 7)) (mCons (mC (.str "NoCell")) (mCons (mBin (gAdd) (mC (.int 7)) (mVar 3)) mNil)))) (mCons (mTup (mCons (mC (.int 8)) (mCons (mC (.str "NoCheck")) (mCons (mVar 3) mNil)))) mNil))))) (gTG 3 (gCo (gN 5) (gCo (gN 6) (gCo (gN 7) (gNs []))))) (sIf (mTest (mBin (gEq true) (mCall gRepr (mCons (mCall (kCall 2 (g94 a)) (mCons (mVar 5) (mCons (mVar 3) mNil))) mNil)) (mCall gRepr (mCons (mLst (mCons (mLst (mCons (mVar 6) (mCons (mC (.str "KeyError")) mNil))) (mCons (mVar 7) mNil))) mNil)))) (sRet (mC (.bl false))) sNil)))))))))) (sRet (mC (.bl true))))
theorem ok95 (T : Tx P w K mg base a) : FnG P w K mg base 15 T.f95 T.d95 ["_law_script"] (g95 a) :=
  fnG_of T.h95.fn sc95 fun cdv A outer s H E hr hgd => have tk := L2N.takes_of (X := cxOf (L2N.CX P w) P w K mg base ["_law_script", "_law_k", "_law_box_here", "_law_length", "_law_dues", "_law_number", "_law_name", "_law_field"] "law" (defScope s95) T.f95 cdv A outer s H E) (E := E) rfl rfl rfl rfl; (ms_cons (ms_for (passes_of rfl) rfl (mi_range (by rfl) T.range (ma_cons me_int ma_nil)) (mg_name sc95.nd) (mss_frz 2 (ms_cons (ms_set (i := 2) sc95.nd (me_callN (ok87 T) (hr.mono (by decide)) hgd tk (by rfl) T.h87.mg T.h87.kp T.h87.bi (ma_cons (me_var 0) (ma_cons (me_var 1) ma_nil)))) (ms_cons (ms_set (i := 3) sc95.nd (me_bin op2_add op_addD me_int (me_callN (ok88 T) (hr.mono (by decide)) hgd tk (by rfl) T.h88.mg T.h88.kp T.h88.bi (ma_cons (me_var 2) (ma_cons me_int ma_nil))))) (ms_cons (ms_if (mt_not (mt_val (me_callN (ok92 T) (hr.mono (by decide)) hgd tk (by rfl) T.h92.mg T.h92.kp T.h92.bi (ma_cons (me_var 2) ma_nil)))) (ms_one (ms_ret me_bl)) ms_nil) (ms_cons (ms_set (i := 4) sc95.nd (me_lst (ma_cons (me_tup (ma_cons me_str (ma_cons (me_var 3) ma_nil))) (ma_cons (me_tup (ma_cons me_str (ma_cons (me_var 3) ma_nil))) (ma_cons (me_tup (ma_cons me_str (ma_cons (me_var 3) ma_nil))) (ma_cons (me_tup (ma_cons me_str (ma_cons (me_bin op2_add op_addD (me_var 3) me_int) ma_nil))) (ma_cons (me_tup (ma_cons me_str (ma_cons (me_bin op2_add op_addD (me_lst (ma_cons me_int (ma_cons me_int ma_nil))) (me_bin op2_mul op_mulD (me_lst (ma_cons me_int ma_nil)) me_int)) ma_nil))) ma_nil))))))) (ms_cons (ms_set (i := 4) sc95.nd (me_bin op2_add op_addD (me_var 4) (me_lst (ma_cons (me_tup (ma_cons me_str (ma_cons (me_bin op2_add op_addD me_int (me_var 3)) ma_nil))) ma_nil)))) (ms_cons (ms_for (passes_of rfl) rfl (mi_range (by rfl) T.range (ma_cons (me_callB cl_len call_len (by rfl) T.len (by rfl) (ma_cons (me_var 4) ma_nil)) ma_nil)) (mg_name sc95.nd) (ms_cons (ms_asg (me_ix (me_var 4) (me_var 5)) (mg_tupG rfl (mgs_co (mg_name sc95.nd) (mgs_co (mg_name sc95.nd) mgs_nil)))) (ms_one (ms_if (mt_cmp op2_ne (op_neD hr.u64) (me_callB cl_repr (callr_repr hgd hr.u66) (by rfl) T.repr (by rfl) (ma_cons (me_callN (ok94 T) (hr.mono (by decide)) hgd tk (by rfl) T.h94.mg T.h94.kp T.h94.bi (ma_cons (me_var 5) (ma_cons (me_var 3) ma_nil))) ma_nil)) (me_callB cl_repr (callr_repr hgd hr.u66) (by rfl) T.repr (by rfl) (ma_cons (me_lst (ma_cons (me_lst (ma_cons (me_var 6) (ma_cons me_str (ma_cons me_str ma_nil)))) (ma_cons (me_var 7) ma_nil))) ma_nil)) (by first | exact nobehind _ (by decide) (by decide) | rfl)) (ms_one (ms_ret me_bl)) ms_nil)))) (ms_one (ms_for (passes_of rfl) rfl (mi_seq (me_tup (ma_cons (me_tup (ma_cons me_int (ma_cons me_str (ma_cons (me_tup (ma_cons me_int (ma_cons me_int (ma_cons (me_bin op2_add op_addD (me_var 3) me_int) ma_nil)))) ma_nil)))) (ma_cons (me_tup (ma_cons me_int (ma_cons me_str (ma_cons (me_bin op2_add op_addD me_int (me_var 3)) ma_nil)))) (ma_cons (me_tup (ma_cons me_int (ma_cons me_str (ma_cons (me_var 3) ma_nil)))) ma_nil))))) (mg_tupG rfl (mgs_co (mg_name sc95.nd) (mgs_co (mg_name sc95.nd) (mgs_co (mg_name sc95.nd) mgs_nil)))) (ms_one (ms_if (mt_cmp op2_ne (op_neD hr.u64) (me_callB cl_repr (callr_repr hgd hr.u66) (by rfl) T.repr (by rfl) (ma_cons (me_callN (ok94 T) (hr.mono (by decide)) hgd tk (by rfl) T.h94.mg T.h94.kp T.h94.bi (ma_cons (me_var 5) (ma_cons (me_var 3) ma_nil))) ma_nil)) (me_callB cl_repr (callr_repr hgd hr.u66) (by rfl) T.repr (by rfl) (ma_cons (me_lst (ma_cons (me_lst (ma_cons (me_var 6) (ma_cons me_str ma_nil))) (ma_cons (me_var 7) ma_nil))) ma_nil)) (by first | exact nobehind _ (by decide) (by decide) | rfl)) (ms_one (ms_ret me_bl)) ms_nil)))))))))))) (ms_one (ms_ret me_bl)))
end
end PA
end
section
set_option Elab.async false
set_option linter.all false
set_option maxRecDepth 100000
set_option maxHeartbeats 4000000
namespace PA
open PySem PySem.Spec PyProof.Rows L2 MF
def ad : Ad := ⟨298, 462, 562, 51, 70, 89, 108, 127, 146, 165, 184, 204, 224, 31, 597, 717⟩
def noneL : List Str := ["len", "isinstance", "list", "tuple", "int", "bool", "str", "zip", "enumerate", "range", "sorted", "set", "sum", "reversed", "abs", "repr", "KeyError", "ValueError"]
def namedL0 : List (Str × Addr) := [("is_sequence", 234), ("is_whole", 241), ("is_below", 248), ("is_row", 262), ("are_below", 255), ("are_columns", 309), ("are_rows", 328), ("are_places", 321), ("is_check", 314), ("tidy_check", 333), ("table_of", 338), ("need_check", 345), ("is_kind", 357), ("need_kind", 364), ("are_cells", 473), ("is_laid", 478), ("laid_by_cell", 483), ("need_cell", 490), ("state_fault", 497), ("check_state", 504), ("looked_row", 509), ("lets_at", 516), ("broken", 521), ("is_good", 528), ("good_state", 535)]
def namedL1 : List (Str × Addr) := [("check_batch", 542), ("unlike_cells", 547), ("find_faults", 571), ("has_fault", 578), ("longer_by_one", 590), ("group_steps", 602), ("search_from", 412), ("search_lots", 419), ("count_ways", 424), ("course_of", 609), ("count_orders", 616), ("nth_order", 630), ("is_figures", 637), ("is_written_number", 644), ("numbers_behind", 649), ("rows_from", 654), ("check_from", 661), ("book_from", 668), ("read_book", 675), ("_law_box", 682), ("_law_take", 689), ("_law_pick", 696), ("_law_value", 703), ("_law_bases", 710), ("_law_kept_right", 715)]
def namedL2 : List (Str × Addr) := [("_law_ask", 722), ("_law_raised", 729), ("law", 736), ("BadBook", 51), ("BadStore", 70), ("BadState", 89), ("BadText", 108), ("Refused", 127), ("TooGreat", 146), ("Knotted", 165), ("NoKind", 184), ("NoCell", 204), ("NoCheck", 224), ("BatchError", 31), ("Book", 298), ("Store", 462), ("Course", 562)]
def namedL : List (Str × Addr) := namedL0 ++ namedL1 ++ namedL2
def intL : List (Str × Int) := [("MOST_COLUMNS", 4), ("MOST_VALUES", 4), ("MOST_CHECKS", 6), ("MOST_PLACES", 3), ("MOST_CELLS", 200), ("MOST_LAID", 4000), ("MOST_FIGURES", 6)]
def exL : List (Addr × Addr × Str) := [(51, 48, "at"), (70, 67, "at"), (89, 86, "at"), (108, 105, "at"), (127, 124, "at"), (146, 143, "most"), (165, 162, "kinds"), (184, 181, "kind"), (204, 201, "cell"), (224, 221, "check")]
def fldL : List (List Addr × Str) := [(ad.xs_at, "at"), (ad.xs_cell, "cell"), (ad.xs_check, "check"), (ad.xs_kind, "kind"), (ad.xs_kinds, "kinds"), (ad.xs_most, "most")]
def clsL : List (Addr × Addr) := [(298, 276), (462, 445), (562, 559)]
def naL : List (List Addr × Str) := [(ad.cs_columns, "columns"), (ad.cs_checks, "checks"), (ad.cs__rows, "_rows"), (ad.cs__bars, "_bars"), (ad.cs_book, "book"), (ad.cs_cells, "cells"), (ad.cs_laid, "laid"), (ad.cs__laid_on, "_laid_on"), (ad.cs_bits, "bits"), (ad.cs_whole, "whole"), (ad.cs_faults, "faults"), (ad.cs_by_part, "by_part"), (ad.cs_by_top, "by_top")]
def kitL : List (Value × (Addr → Bool)) := [(.ref ad.C_BadBook, ad.is_BadBook), (.ref ad.C_BadStore, ad.is_BadStore), (.ref ad.C_BadState, ad.is_BadState), (.ref ad.C_BadText, ad.is_BadText), (.ref ad.C_Refused, ad.is_Refused), (.ref ad.C_TooGreat, ad.is_TooGreat), (.ref ad.C_Knotted, ad.is_Knotted), (.ref ad.C_NoKind, ad.is_NoKind), (.ref ad.C_NoCell, ad.is_NoCell), (.ref ad.C_NoCheck, ad.is_NoCheck), (.ref ad.C_BatchError, ad.is_BatchError), (.type "KeyError", ad.is_KeyError), (.type "ValueError", ad.is_ValueError)]
def exmL : List (Value × (Addr → Bool)) := [(.ref ad.C_BadBook, ad.is_BadBook), (.ref ad.C_BadState, ad.is_BadState), (.ref ad.C_BadStore, ad.is_BadStore), (.ref ad.C_BadText, ad.is_BadText), (.ref ad.C_Refused, ad.is_Refused), (.ref ad.C_TooGreat, ad.is_TooGreat), (.ref ad.C_NoKind, ad.is_NoKind), (.ref ad.C_NoCell, ad.is_NoCell), (.ref ad.C_NoCheck, ad.is_NoCheck)]
def chk (K : PySem.W.Frag) : Bool := chkAll K noneL namedL intL exL fldL clsL naL kitL exmL ad.xs (298, 290)
abbrev si3 : Stmt := inClass (top 3) 0
theorem sci3 : FnScope ["self", "at"] ["self", "at"] (defScope si3) := ⟨rfl, rfl, rfl, by decide +kernel, rfl, by decide +kernel, by decide +kernel⟩
abbrev si4 : Stmt := inClass (top 4) 0
theorem sci4 : FnScope ["self", "at"] ["self", "at"] (defScope si4) := ⟨rfl, rfl, rfl, by decide +kernel, rfl, by decide +kernel, by decide +kernel⟩
abbrev si5 : Stmt := inClass (top 5) 0
theorem sci5 : FnScope ["self", "at"] ["self", "at"] (defScope si5) := ⟨rfl, rfl, rfl, by decide +kernel, rfl, by decide +kernel, by decide +kernel⟩
abbrev si6 : Stmt := inClass (top 6) 0
theorem sci6 : FnScope ["self", "at"] ["self", "at"] (defScope si6) := ⟨rfl, rfl, rfl, by decide +kernel, rfl, by decide +kernel, by decide +kernel⟩
abbrev si7 : Stmt := inClass (top 7) 0
theorem sci7 : FnScope ["self", "at"] ["self", "at"] (defScope si7) := ⟨rfl, rfl, rfl, by decide +kernel, rfl, by decide +kernel, by decide +kernel⟩
abbrev si8 : Stmt := inClass (top 8) 0
theorem sci8 : FnScope ["self", "most"] ["self", "most"] (defScope si8) := ⟨rfl, rfl, rfl, by decide +kernel, rfl, by decide +kernel, by decide +kernel⟩
abbrev si9 : Stmt := inClass (top 9) 0
theorem sci9 : FnScope ["self", "kinds"] ["self", "kinds"] (defScope si9) := ⟨rfl, rfl, rfl, by decide +kernel, rfl, by decide +kernel, by decide +kernel⟩
abbrev si10 : Stmt := inClass (top 10) 0
theorem sci10 : FnScope ["self", "kind"] ["self", "kind"] (defScope si10) := ⟨rfl, rfl, rfl, by decide +kernel, rfl, by decide +kernel, by decide +kernel⟩
abbrev si11 : Stmt := inClass (top 11) 0
theorem sci11 : FnScope ["self", "cell"] ["self", "cell"] (defScope si11) := ⟨rfl, rfl, rfl, by decide +kernel, rfl, by decide +kernel, by decide +kernel⟩
abbrev si12 : Stmt := inClass (top 12) 0
theorem sci12 : FnScope ["self", "check"] ["self", "check"] (defScope si12) := ⟨rfl, rfl, rfl, by decide +kernel, rfl, by decide +kernel, by decide +kernel⟩
theorem law_at {P : Program} {w : World} {K : PySem.W.Frag} {h : Heap} {mg : Str → Option Value} {c1 c2 : Addr} (X : K.In h) (G : h.Ns mainGlobals mg) (hchk : chk K = true)
    (h14 : FT K "is_sequence" "is_sequence" s14 234)
    (h15 : FT K "is_whole" "is_whole" s15 241)
    (h16 : FT K "is_below" "is_below" s16 248)
    (h18 : FT K "is_row" "is_row" s18 262)
    (h17 : FT K "are_below" "are_below" s17 255)
    (h25 : FT K "are_columns" "are_columns" s25 309)
    (h28 : FT K "are_rows" "are_rows" s28 328)
    (h27 : FT K "are_places" "are_places" s27 321)
    (h26 : FT K "is_check" "is_check" s26 314)
    (h29 : FT K "tidy_check" "tidy_check" s29 333)
    (h30 : FT K "table_of" "table_of" s30 338)
    (h31 : FT K "need_check" "need_check" s31 345)
    (h33 : FT K "is_kind" "is_kind" s33 357)
    (h34 : FT K "need_kind" "need_kind" s34 364)
    (h24_2 : FT K "lets" "Book.lets" s24_2 290)
    (h24_0 : FD K "Book.__init__" s24_0 276)
    (h51 : FT K "are_cells" "are_cells" s51 473)
    (h52 : FT K "is_laid" "is_laid" s52 478)
    (h53 : FT K "laid_by_cell" "laid_by_cell" s53 483)
    (h50_0 : FD K "Store.__init__" s50_0 445)
    (h54 : FT K "need_cell" "need_cell" s54 490)
    (h55 : FT K "state_fault" "state_fault" s55 497)
    (h56 : FT K "check_state" "check_state" s56 504)
    (h57 : FT K "looked_row" "looked_row" s57 509)
    (h58 : FT K "lets_at" "lets_at" s58 516)
    (h59 : FT K "broken" "broken" s59 521)
    (h60 : FT K "is_good" "is_good" s60 528)
    (h61 : FT K "good_state" "good_state" s61 535)
    (h62 : FT K "check_batch" "check_batch" s62 542)
    (h63 : FT K "unlike_cells" "unlike_cells" s63 547)
    (h66 : FT K "find_faults" "find_faults" s66 571)
    (h65_0 : FT K "__init__" "Course.__init__" s65_0 559)
    (h67 : FT K "has_fault" "has_fault" s67 578)
    (h69 : FT K "longer_by_one" "longer_by_one" s69 590)
    (h71 : FTc K "group_steps" "group_steps" s71 602 c1)
    (h43 : FT K "search_from" "search_from" s43 412)
    (h44 : FT K "search_lots" "search_lots" s44 419)
    (h45 : FT K "count_ways" "count_ways" s45 424)
    (h73 : FT K "course_of" "course_of" s73 609)
    (h74 : FT K "count_orders" "count_orders" s74 616)
    (h76 : FT K "nth_order" "nth_order" s76 630)
    (h79 : FT K "is_figures" "is_figures" s79 637)
    (h80 : FT K "is_written_number" "is_written_number" s80 644)
    (h81 : FT K "numbers_behind" "numbers_behind" s81 649)
    (h82 : FT K "rows_from" "rows_from" s82 654)
    (h83 : FT K "check_from" "check_from" s83 661)
    (h84 : FT K "book_from" "book_from" s84 668)
    (h85 : FT K "read_book" "read_book" s85 675)
    (h87 : FT K "_law_box" "_law_box" s87 682)
    (h88 : FT K "_law_take" "_law_take" s88 689)
    (h89 : FT K "_law_pick" "_law_pick" s89 696)
    (h90 : FT K "_law_value" "_law_value" s90 703)
    (h91 : FT K "_law_bases" "_law_bases" s91 710)
    (h92 : FT K "_law_kept_right" "_law_kept_right" s92 715)
    (h93 : FTc K "_law_ask" "_law_ask" s93 722 c2)
    (h94 : FT K "_law_raised" "_law_raised" s94 729)
    (h95 : FT K "law" "law" s95 736)
    (i3 : FT K "__init__" "BadBook.__init__" si3 48)
    (x3 : XV K 51 31)
    (i4 : FT K "__init__" "BadStore.__init__" si4 67)
    (x4 : XV K 70 31)
    (i5 : FT K "__init__" "BadState.__init__" si5 86)
    (x5 : XV K 89 31)
    (i6 : FT K "__init__" "BadText.__init__" si6 105)
    (x6 : XV K 108 31)
    (i7 : FT K "__init__" "Refused.__init__" si7 124)
    (x7 : XV K 127 31)
    (i8 : FT K "__init__" "TooGreat.__init__" si8 143)
    (x8 : XV K 146 31)
    (i9 : FT K "__init__" "Knotted.__init__" si9 162)
    (x9 : XV K 165 31)
    (i10 : FT K "__init__" "NoKind.__init__" si10 181)
    (x10 : XK K 184)
    (i11 : FT K "__init__" "NoCell.__init__" si11 201)
    (x11 : XK K 204)
    (i12 : FT K "__init__" "NoCheck.__init__" si12 221)
    (x12 : XK K 224) :
    ∃ fd : FuncData, (∀ (s : Shared) (v : Value), BindsTo s fd ⟨[v], []⟩ [("_law_script", v)]) ∧ ∀ base : Heap, K.In base → base.Ns mainGlobals mg → LamX.TabB base mg c1 597 → LamX.TabB base mg c2 717 → FnG P w K mg base 15 736 fd ["_law_script"] (g95 ad) := by
  obtain ⟨pN, pA, pk, pI, pE, pF, pC, pnA, pK, pX, pL, pG⟩ := chk_parts hchk
  obtain ⟨d14, H14⟩ := h14.fn
  obtain ⟨d15, H15⟩ := h15.fn
  obtain ⟨d16, H16⟩ := h16.fn
  obtain ⟨d18, H18⟩ := h18.fn
  obtain ⟨d17, H17⟩ := h17.fn
  obtain ⟨d25, H25⟩ := h25.fn
  obtain ⟨d28, H28⟩ := h28.fn
  obtain ⟨d27, H27⟩ := h27.fn
  obtain ⟨d26, H26⟩ := h26.fn
  obtain ⟨d29, H29⟩ := h29.fn
  obtain ⟨d30, H30⟩ := h30.fn
  obtain ⟨d31, H31⟩ := h31.fn
  obtain ⟨d33, H33⟩ := h33.fn
  obtain ⟨d34, H34⟩ := h34.fn
  obtain ⟨d24_2, H24_2⟩ := h24_2.fn
  obtain ⟨e24_0, d24_0, H24_0, kt24_0⟩ := h24_0
  obtain ⟨d51, H51⟩ := h51.fn
  obtain ⟨d52, H52⟩ := h52.fn
  obtain ⟨d53, H53⟩ := h53.fn
  obtain ⟨e50_0, d50_0, H50_0, kt50_0⟩ := h50_0
  obtain ⟨d54, H54⟩ := h54.fn
  obtain ⟨d55, H55⟩ := h55.fn
  obtain ⟨d56, H56⟩ := h56.fn
  obtain ⟨d57, H57⟩ := h57.fn
  obtain ⟨d58, H58⟩ := h58.fn
  obtain ⟨d59, H59⟩ := h59.fn
  obtain ⟨d60, H60⟩ := h60.fn
  obtain ⟨d61, H61⟩ := h61.fn
  obtain ⟨d62, H62⟩ := h62.fn
  obtain ⟨d63, H63⟩ := h63.fn
  obtain ⟨d66, H66⟩ := h66.fn
  obtain ⟨d65_0, H65_0⟩ := h65_0.fn
  obtain ⟨d67, H67⟩ := h67.fn
  obtain ⟨d69, H69⟩ := h69.fn
  obtain ⟨d71, H71, _⟩ := h71
  obtain ⟨d43, H43⟩ := h43.fn
  obtain ⟨d44, H44⟩ := h44.fn
  obtain ⟨d45, H45⟩ := h45.fn
  obtain ⟨d73, H73⟩ := h73.fn
  obtain ⟨d74, H74⟩ := h74.fn
  obtain ⟨d76, H76⟩ := h76.fn
  obtain ⟨d79, H79⟩ := h79.fn
  obtain ⟨d80, H80⟩ := h80.fn
  obtain ⟨d81, H81⟩ := h81.fn
  obtain ⟨d82, H82⟩ := h82.fn
  obtain ⟨d83, H83⟩ := h83.fn
  obtain ⟨d84, H84⟩ := h84.fn
  obtain ⟨d85, H85⟩ := h85.fn
  obtain ⟨d87, H87⟩ := h87.fn
  obtain ⟨d88, H88⟩ := h88.fn
  obtain ⟨d89, H89⟩ := h89.fn
  obtain ⟨d90, H90⟩ := h90.fn
  obtain ⟨d91, H91⟩ := h91.fn
  obtain ⟨d92, H92⟩ := h92.fn
  obtain ⟨d93, H93, _⟩ := h93
  obtain ⟨d94, H94⟩ := h94.fn
  obtain ⟨d95, H95⟩ := h95.fn
  have b14 : Binds K d14 ["value"] [] := H14.binds fun _ _ _ _ _ _ us hl => match us, hl with | [_], _ => rfl
  have b15 : Binds K d15 ["value"] [] := H15.binds fun _ _ _ _ _ _ us hl => match us, hl with | [_], _ => rfl
  have b16 : Binds K d16 ["value", "limit"] [] := H16.binds fun _ _ _ _ _ _ us hl => match us, hl with | [_, _], _ => rfl
  have b18 : Binds K d18 ["value", "limits"] [] := H18.binds fun _ _ _ _ _ _ us hl => match us, hl with | [_, _], _ => rfl
  have b17 : Binds K d17 ["value", "limit"] [] := H17.binds fun _ _ _ _ _ _ us hl => match us, hl with | [_, _], _ => rfl
  have b25 : Binds K d25 ["value"] [] := H25.binds fun _ _ _ _ _ _ us hl => match us, hl with | [_], _ => rfl
  have b28 : Binds K d28 ["sizes", "value"] [] := H28.binds fun _ _ _ _ _ _ us hl => match us, hl with | [_, _], _ => rfl
  have b27 : Binds K d27 ["columns", "value"] [] := H27.binds fun _ _ _ _ _ _ us hl => match us, hl with | [_, _], _ => rfl
  have b26 : Binds K d26 ["columns", "value"] [] := H26.binds fun _ _ _ _ _ _ us hl => match us, hl with | [_, _], _ => rfl
  have b29 : Binds K d29 ["places", "rows"] [] := H29.binds fun _ _ _ _ _ _ us hl => match us, hl with | [_, _], _ => rfl
  have b30 : Binds K d30 ["rows"] [] := H30.binds fun _ _ _ _ _ _ us hl => match us, hl with | [_], _ => rfl
  have b31 : Binds K d31 ["book", "value"] [] := H31.binds fun _ _ _ _ _ _ us hl => match us, hl with | [_, _], _ => rfl
  have b33 : Binds K d33 ["book", "value"] [] := H33.binds fun _ _ _ _ _ _ us hl => match us, hl with | [_, _], _ => rfl
  have b34 : Binds K d34 ["book", "value"] [] := H34.binds fun _ _ _ _ _ _ us hl => match us, hl with | [_, _], _ => rfl
  have b24_2 : Binds K d24_2 ["self", "check", "row"] [] := H24_2.binds fun _ _ _ _ _ _ us hl => match us, hl with | [_, _, _], _ => rfl
  have b24_0_3 := kb_fd (ps := ["self", "columns", "checks"]) H24_0 3 1 rfl (fun _ _ _ _ _ _ _ us its hu hi => match us, hu, its, hi with | [_, _, _], _, [_], _ => ⟨_, rfl, rfl⟩)
  have b51 : Binds K d51 ["book", "value"] [] := H51.binds fun _ _ _ _ _ _ us hl => match us, hl with | [_, _], _ => rfl
  have b52 : Binds K d52 ["book", "cells", "value"] [] := H52.binds fun _ _ _ _ _ _ us hl => match us, hl with | [_, _, _], _ => rfl
  have b53 : Binds K d53 ["cells", "laid"] [] := H53.binds fun _ _ _ _ _ _ us hl => match us, hl with | [_, _], _ => rfl
  have b50_0_3 := kb_fd (ps := ["self", "book", "cells", "laid"]) H50_0 3 0 rfl (fun _ _ _ _ _ _ _ us its hu hi => match us, hu, its, hi with | [_, _, _], _, [_], _ => ⟨_, rfl, rfl⟩)
  have b50_0_4 := kb_fd (ps := ["self", "book", "cells", "laid"]) H50_0 4 1 rfl (fun _ _ _ _ _ _ _ us its hu hi => match us, hu, its, hi with | [_, _, _, _], _, [_], _ => ⟨_, rfl, rfl⟩)
  have b54 : Binds K d54 ["store", "value"] [] := H54.binds fun _ _ _ _ _ _ us hl => match us, hl with | [_, _], _ => rfl
  have b55 : Binds K d55 ["store", "value"] [] := H55.binds fun _ _ _ _ _ _ us hl => match us, hl with | [_, _], _ => rfl
  have b56 : Binds K d56 ["store", "value"] [] := H56.binds fun _ _ _ _ _ _ us hl => match us, hl with | [_, _], _ => rfl
  have b57 : Binds K d57 ["store", "values", "number"] [] := H57.binds fun _ _ _ _ _ _ us hl => match us, hl with | [_, _, _], _ => rfl
  have b58 : Binds K d58 ["store", "values", "number"] [] := H58.binds fun _ _ _ _ _ _ us hl => match us, hl with | [_, _, _], _ => rfl
  have b59 : Binds K d59 ["store", "state"] [] := H59.binds fun _ _ _ _ _ _ us hl => match us, hl with | [_, _], _ => rfl
  have b60 : Binds K d60 ["store", "state"] [] := H60.binds fun _ _ _ _ _ _ us hl => match us, hl with | [_, _], _ => rfl
  have b61 : Binds K d61 ["store", "state"] [] := H61.binds fun _ _ _ _ _ _ us hl => match us, hl with | [_, _], _ => rfl
  have b62 : Binds K d62 ["store", "old", "new"] [] := H62.binds fun _ _ _ _ _ _ us hl => match us, hl with | [_, _, _], _ => rfl
  have b63 : Binds K d63 ["one", "other"] [] := H63.binds fun _ _ _ _ _ _ us hl => match us, hl with | [_, _], _ => rfl
  have b66 : Binds K d66 ["rules", "store", "start", "goal", "bits"] [] := H66.binds fun _ _ _ _ _ _ us hl => match us, hl with | [_, _, _, _, _], _ => rfl
  have b65_0 : Binds K d65_0 ["self", "rules", "store", "start", "goal"] [] := H65_0.binds fun _ _ _ _ _ _ us hl => match us, hl with | [_, _, _, _, _], _ => rfl
  have b67 : Binds K d67 ["faults", "lot"] [] := H67.binds fun _ _ _ _ _ _ us hl => match us, hl with | [_, _], _ => rfl
  have b69 : Binds K d69 ["course", "lot"] [] := H69.binds fun _ _ _ _ _ _ us hl => match us, hl with | [_, _], _ => rfl
  have b71 : Binds K d71 ["course", "size"] [] := H71.binds fun _ _ _ _ _ _ us hl => match us, hl with | [_, _], _ => rfl
  have b43 : Binds K d43 ["start", "steps", "most"] [] := H43.binds fun _ _ _ _ _ _ us hl => match us, hl with | [_, _, _], _ => rfl
  have b44 : Binds K d44 ["steps", "most"] [] := H44.binds fun _ _ _ _ _ _ us hl => match us, hl with | [_, _], _ => rfl
  have b45 : Binds K d45 ["ahead", "steps", "goal"] [] := H45.binds fun _ _ _ _ _ _ us hl => match us, hl with | [_, _, _], _ => rfl
  have b73 : Binds K d73 ["store", "old", "new"] [] := H73.binds fun _ _ _ _ _ _ us hl => match us, hl with | [_, _, _], _ => rfl
  have b74 : Binds K d74 ["course", "most"] [] := H74.binds fun _ _ _ _ _ _ us hl => match us, hl with | [_, _], _ => rfl
  have b76 : Kb K d76 ["store", "old", "new", "number", "most"] 4 ["most"] (fun ds zs => ds ++ zs) := kb_kw H76 (fun _ _ _ _ _ _ us ws hu hw => match us, hu, ws, hw with | [_, _, _, _], _, [_], _ => rfl)
  have b79 : Binds K d79 ["word"] [] := H79.binds fun _ _ _ _ _ _ us hl => match us, hl with | [_], _ => rfl
  have b80 : Binds K d80 ["word"] [] := H80.binds fun _ _ _ _ _ _ us hl => match us, hl with | [_], _ => rfl
  have b81 : Binds K d81 ["opening", "line"] [] := H81.binds fun _ _ _ _ _ _ us hl => match us, hl with | [_, _], _ => rfl
  have b82 : Binds K d82 ["text"] [] := H82.binds fun _ _ _ _ _ _ us hl => match us, hl with | [_], _ => rfl
  have b83 : Binds K d83 ["columns", "line"] [] := H83.binds fun _ _ _ _ _ _ us hl => match us, hl with | [_, _], _ => rfl
  have b84 : Binds K d84 ["lines"] [] := H84.binds fun _ _ _ _ _ _ us hl => match us, hl with | [_], _ => rfl
  have b85 : Binds K d85 ["text"] [] := H85.binds fun _ _ _ _ _ _ us hl => match us, hl with | [_], _ => rfl
  have b87 : Binds K d87 ["_law_script", "_law_k"] [] := H87.binds fun _ _ _ _ _ _ us hl => match us, hl with | [_, _], _ => rfl
  have b88 : Binds K d88 ["_law_box_here", "_law_many"] [] := H88.binds fun _ _ _ _ _ _ us hl => match us, hl with | [_, _], _ => rfl
  have b89 : Binds K d89 ["_law_box_here", "_law_some"] [] := H89.binds fun _ _ _ _ _ _ us hl => match us, hl with | [_, _], _ => rfl
  have b90 : Binds K d90 ["_law_box_here"] [] := H90.binds fun _ _ _ _ _ _ us hl => match us, hl with | [_], _ => rfl
  have b91 : Binds K d91 ["_law_error"] [] := H91.binds fun _ _ _ _ _ _ us hl => match us, hl with | [_], _ => rfl
  have b92 : Binds K d92 ["_law_box_here"] [] := H92.binds fun _ _ _ _ _ _ us hl => match us, hl with | [_], _ => rfl
  have b93 : Binds K d93 ["_law_number", "_law_length"] [] := H93.binds fun _ _ _ _ _ _ us hl => match us, hl with | [_, _], _ => rfl
  have b94 : Binds K d94 ["_law_number", "_law_length"] [] := H94.binds fun _ _ _ _ _ _ us hl => match us, hl with | [_, _], _ => rfl
  have b95 : Binds K d95 ["_law_script"] [] := H95.binds fun _ _ _ _ _ _ us hl => match us, hl with | [_], _ => rfl
  refine ⟨d95, fun s v => .of_eq ?_, fun base Kb Gb TB1 TB2 => ?_⟩
  · obtain ⟨oc, od, kV, doc, pm, an, cdv, ct, osl, rfl, _, _⟩ := H95.ex
    rfl
  have nN : ∀ x ∈ noneL, mg x = none := fun x hx => PySem.W.mg_none_of X G (pN x hx)
  have nA : ∀ p ∈ namedL, mg p.1 = some (.ref p.2) := fun p hp => PySem.W.mg_of X G (pA p hp)
  obtain ⟨k_MOST_COLUMNS, z_MOST_COLUMNS⟩ := pI ("MOST_COLUMNS", 4) (by decide +kernel)
  obtain ⟨k_MOST_VALUES, z_MOST_VALUES⟩ := pI ("MOST_VALUES", 4) (by decide +kernel)
  obtain ⟨k_MOST_CHECKS, z_MOST_CHECKS⟩ := pI ("MOST_CHECKS", 6) (by decide +kernel)
  obtain ⟨k_MOST_PLACES, z_MOST_PLACES⟩ := pI ("MOST_PLACES", 3) (by decide +kernel)
  obtain ⟨k_MOST_CELLS, z_MOST_CELLS⟩ := pI ("MOST_CELLS", 200) (by decide +kernel)
  obtain ⟨k_MOST_LAID, z_MOST_LAID⟩ := pI ("MOST_LAID", 4000) (by decide +kernel)
  obtain ⟨k_MOST_FIGURES, z_MOST_FIGURES⟩ := pI ("MOST_FIGURES", 6) (by decide +kernel)
  have o3 := oxd_mk (P := P) (w := w) (base := base) (x := "BadBook") pE (C := 51) (fI := 48) (f := "at") (by decide +kernel) (x3.ox) i3 sci3 (by rfl) (by rfl) (by rfl) (by decide) (nA ("BadBook", 51) (by decide +kernel)) (fun _ _ _ _ _ _ us hl => match us, hl with | [_, _], _ => rfl) (fun _ _ _ _ _ _ us ws hu hw => match us, hu, ws, hw with | [_], _, [_], _ => rfl)
  have o4 := oxd_mk (P := P) (w := w) (base := base) (x := "BadStore") pE (C := 70) (fI := 67) (f := "at") (by decide +kernel) (x4.ox) i4 sci4 (by rfl) (by rfl) (by rfl) (by decide) (nA ("BadStore", 70) (by decide +kernel)) (fun _ _ _ _ _ _ us hl => match us, hl with | [_, _], _ => rfl) (fun _ _ _ _ _ _ us ws hu hw => match us, hu, ws, hw with | [_], _, [_], _ => rfl)
  have o5 := oxd_mk (P := P) (w := w) (base := base) (x := "BadState") pE (C := 89) (fI := 86) (f := "at") (by decide +kernel) (x5.ox) i5 sci5 (by rfl) (by rfl) (by rfl) (by decide) (nA ("BadState", 89) (by decide +kernel)) (fun _ _ _ _ _ _ us hl => match us, hl with | [_, _], _ => rfl) (fun _ _ _ _ _ _ us ws hu hw => match us, hu, ws, hw with | [_], _, [_], _ => rfl)
  have o6 := oxd_mk (P := P) (w := w) (base := base) (x := "BadText") pE (C := 108) (fI := 105) (f := "at") (by decide +kernel) (x6.ox) i6 sci6 (by rfl) (by rfl) (by rfl) (by decide) (nA ("BadText", 108) (by decide +kernel)) (fun _ _ _ _ _ _ us hl => match us, hl with | [_, _], _ => rfl) (fun _ _ _ _ _ _ us ws hu hw => match us, hu, ws, hw with | [_], _, [_], _ => rfl)
  have o7 := oxd_mk (P := P) (w := w) (base := base) (x := "Refused") pE (C := 127) (fI := 124) (f := "at") (by decide +kernel) (x7.ox) i7 sci7 (by rfl) (by rfl) (by rfl) (by decide) (nA ("Refused", 127) (by decide +kernel)) (fun _ _ _ _ _ _ us hl => match us, hl with | [_, _], _ => rfl) (fun _ _ _ _ _ _ us ws hu hw => match us, hu, ws, hw with | [_], _, [_], _ => rfl)
  have o8 := oxd_mk (P := P) (w := w) (base := base) (x := "TooGreat") pE (C := 146) (fI := 143) (f := "most") (by decide +kernel) (x8.ox) i8 sci8 (by rfl) (by rfl) (by rfl) (by decide) (nA ("TooGreat", 146) (by decide +kernel)) (fun _ _ _ _ _ _ us hl => match us, hl with | [_, _], _ => rfl) (fun _ _ _ _ _ _ us ws hu hw => match us, hu, ws, hw with | [_], _, [_], _ => rfl)
  have o9 := oxd_mk (P := P) (w := w) (base := base) (x := "Knotted") pE (C := 165) (fI := 162) (f := "kinds") (by decide +kernel) (x9.ox) i9 sci9 (by rfl) (by rfl) (by rfl) (by decide) (nA ("Knotted", 165) (by decide +kernel)) (fun _ _ _ _ _ _ us hl => match us, hl with | [_, _], _ => rfl) (fun _ _ _ _ _ _ us ws hu hw => match us, hu, ws, hw with | [_], _, [_], _ => rfl)
  have o10 := oxd_mk (P := P) (w := w) (base := base) (x := "NoKind") pE (C := 184) (fI := 181) (f := "kind") (by decide +kernel) (x10.ox) i10 sci10 (by rfl) (by rfl) (by rfl) (by decide) (nA ("NoKind", 184) (by decide +kernel)) (fun _ _ _ _ _ _ us hl => match us, hl with | [_, _], _ => rfl) (fun _ _ _ _ _ _ us ws hu hw => match us, hu, ws, hw with | [_], _, [_], _ => rfl)
  have o11 := oxd_mk (P := P) (w := w) (base := base) (x := "NoCell") pE (C := 204) (fI := 201) (f := "cell") (by decide +kernel) (x11.ox) i11 sci11 (by rfl) (by rfl) (by rfl) (by decide) (nA ("NoCell", 204) (by decide +kernel)) (fun _ _ _ _ _ _ us hl => match us, hl with | [_, _], _ => rfl) (fun _ _ _ _ _ _ us ws hu hw => match us, hu, ws, hw with | [_], _, [_], _ => rfl)
  have o12 := oxd_mk (P := P) (w := w) (base := base) (x := "NoCheck") pE (C := 224) (fI := 221) (f := "check") (by decide +kernel) (x12.ox) i12 sci12 (by rfl) (by rfl) (by rfl) (by decide) (nA ("NoCheck", 224) (by decide +kernel)) (fun _ _ _ _ _ _ us hl => match us, hl with | [_, _], _ => rfl) (fun _ _ _ _ _ _ us ws hu hw => match us, hu, ws, hw with | [_], _, [_], _ => rfl)
  exact ok95 (a := ad) ({
    len := nN "len" (by decide +kernel),
    isinstance := nN "isinstance" (by decide +kernel),
    list := nN "list" (by decide +kernel),
    tuple := nN "tuple" (by decide +kernel),
    int := nN "int" (by decide +kernel),
    bool := nN "bool" (by decide +kernel),
    str := nN "str" (by decide +kernel),
    zip := nN "zip" (by decide +kernel),
    enumerate := nN "enumerate" (by decide +kernel),
    range := nN "range" (by decide +kernel),
    sorted := nN "sorted" (by decide +kernel),
    set := nN "set" (by decide +kernel),
    sum := nN "sum" (by decide +kernel),
    reversed := nN "reversed" (by decide +kernel),
    abs := nN "abs" (by decide +kernel),
    repr := nN "repr" (by decide +kernel),
    KeyError := nN "KeyError" (by decide +kernel),
    ValueError := nN "ValueError" (by decide +kernel),
    k_MOST_COLUMNS := k_MOST_COLUMNS, c_MOST_COLUMNS := PySem.W.mg_of X G z_MOST_COLUMNS,
    k_MOST_VALUES := k_MOST_VALUES, c_MOST_VALUES := PySem.W.mg_of X G z_MOST_VALUES,
    k_MOST_CHECKS := k_MOST_CHECKS, c_MOST_CHECKS := PySem.W.mg_of X G z_MOST_CHECKS,
    k_MOST_PLACES := k_MOST_PLACES, c_MOST_PLACES := PySem.W.mg_of X G z_MOST_PLACES,
    k_MOST_CELLS := k_MOST_CELLS, c_MOST_CELLS := PySem.W.mg_of X G z_MOST_CELLS,
    k_MOST_LAID := k_MOST_LAID, c_MOST_LAID := PySem.W.mg_of X G z_MOST_LAID,
    k_MOST_FIGURES := k_MOST_FIGURES, c_MOST_FIGURES := PySem.W.mg_of X G z_MOST_FIGURES,
    f_columns := fun C hC => ⟨cls_mem pC (by revert C; decide +kernel) , pnA (ad.cs_columns, "columns") (by decide +kernel) C hC⟩,
    f_checks := fun C hC => ⟨cls_mem pC (by revert C; decide +kernel) , pnA (ad.cs_checks, "checks") (by decide +kernel) C hC⟩,
    f__rows := fun C hC => ⟨cls_mem pC (by revert C; decide +kernel) , pnA (ad.cs__rows, "_rows") (by decide +kernel) C hC⟩,
    f__bars := fun C hC => ⟨cls_mem pC (by revert C; decide +kernel) , pnA (ad.cs__bars, "_bars") (by decide +kernel) C hC⟩,
    f_book := fun C hC => ⟨cls_mem pC (by revert C; decide +kernel) , pnA (ad.cs_book, "book") (by decide +kernel) C hC⟩,
    f_cells := fun C hC => ⟨cls_mem pC (by revert C; decide +kernel) , pnA (ad.cs_cells, "cells") (by decide +kernel) C hC⟩,
    f_laid := fun C hC => ⟨cls_mem pC (by revert C; decide +kernel) , pnA (ad.cs_laid, "laid") (by decide +kernel) C hC⟩,
    f__laid_on := fun C hC => ⟨cls_mem pC (by revert C; decide +kernel) , pnA (ad.cs__laid_on, "_laid_on") (by decide +kernel) C hC⟩,
    f_bits := fun C hC => ⟨cls_mem pC (by revert C; decide +kernel) , pnA (ad.cs_bits, "bits") (by decide +kernel) C hC⟩,
    f_whole := fun C hC => ⟨cls_mem pC (by revert C; decide +kernel) , pnA (ad.cs_whole, "whole") (by decide +kernel) C hC⟩,
    f_faults := fun C hC => ⟨cls_mem pC (by revert C; decide +kernel) , pnA (ad.cs_faults, "faults") (by decide +kernel) C hC⟩,
    f_by_part := fun C hC => ⟨cls_mem pC (by revert C; decide +kernel) , pnA (ad.cs_by_part, "by_part") (by decide +kernel) C hC⟩,
    f_by_top := fun C hC => ⟨cls_mem pC (by revert C; decide +kernel) , pnA (ad.cs_by_top, "by_top") (by decide +kernel) C hC⟩,
    x_BadBook := o3,
    x_BadStore := o4,
    x_BadState := o5,
    x_BadText := o6,
    x_Refused := o7,
    x_TooGreat := o8,
    x_Knotted := o9,
    x_NoKind := o10,
    x_NoCell := o11,
    x_NoCheck := o12,
    m_BatchError := nA ("BatchError", 31) (by decide +kernel),
    i_BadBook := fun C hC => ⟨excC_of pE pG (by revert C; decide +kernel), pK (kitL.getD 0 (.none, fun _ => false)) (mem_getD (by decide)) C hC⟩,
    i_BadStore := fun C hC => ⟨excC_of pE pG (by revert C; decide +kernel), pK (kitL.getD 1 (.none, fun _ => false)) (mem_getD (by decide)) C hC⟩,
    i_BadState := fun C hC => ⟨excC_of pE pG (by revert C; decide +kernel), pK (kitL.getD 2 (.none, fun _ => false)) (mem_getD (by decide)) C hC⟩,
    i_BadText := fun C hC => ⟨excC_of pE pG (by revert C; decide +kernel), pK (kitL.getD 3 (.none, fun _ => false)) (mem_getD (by decide)) C hC⟩,
    i_Refused := fun C hC => ⟨excC_of pE pG (by revert C; decide +kernel), pK (kitL.getD 4 (.none, fun _ => false)) (mem_getD (by decide)) C hC⟩,
    i_TooGreat := fun C hC => ⟨excC_of pE pG (by revert C; decide +kernel), pK (kitL.getD 5 (.none, fun _ => false)) (mem_getD (by decide)) C hC⟩,
    i_Knotted := fun C hC => ⟨excC_of pE pG (by revert C; decide +kernel), pK (kitL.getD 6 (.none, fun _ => false)) (mem_getD (by decide)) C hC⟩,
    i_NoKind := fun C hC => ⟨excC_of pE pG (by revert C; decide +kernel), pK (kitL.getD 7 (.none, fun _ => false)) (mem_getD (by decide)) C hC⟩,
    i_NoCell := fun C hC => ⟨excC_of pE pG (by revert C; decide +kernel), pK (kitL.getD 8 (.none, fun _ => false)) (mem_getD (by decide)) C hC⟩,
    i_NoCheck := fun C hC => ⟨excC_of pE pG (by revert C; decide +kernel), pK (kitL.getD 9 (.none, fun _ => false)) (mem_getD (by decide)) C hC⟩,
    i_BatchError := fun C hC => ⟨excC_of pE pG (by revert C; decide +kernel), pK (kitL.getD 10 (.none, fun _ => false)) (mem_getD (by decide)) C hC⟩,
    i_KeyError := fun C hC => ⟨excC_of pE pG (by revert C; decide +kernel), pK (kitL.getD 11 (.none, fun _ => false)) (mem_getD (by decide)) C hC⟩,
    i_ValueError := fun C hC => ⟨excC_of pE pG (by revert C; decide +kernel), pK (kitL.getD 12 (.none, fun _ => false)) (mem_getD (by decide)) C hC⟩,
    e_BadBook := fun C hC => pX (exmL.getD 0 (.none, fun _ => false)) (mem_getD (by decide)) C hC,
    e_BadState := fun C hC => pX (exmL.getD 1 (.none, fun _ => false)) (mem_getD (by decide)) C hC,
    e_BadStore := fun C hC => pX (exmL.getD 2 (.none, fun _ => false)) (mem_getD (by decide)) C hC,
    e_BadText := fun C hC => pX (exmL.getD 3 (.none, fun _ => false)) (mem_getD (by decide)) C hC,
    e_Refused := fun C hC => pX (exmL.getD 4 (.none, fun _ => false)) (mem_getD (by decide)) C hC,
    e_TooGreat := fun C hC => pX (exmL.getD 5 (.none, fun _ => false)) (mem_getD (by decide)) C hC,
    e_NoKind := fun C hC => pX (exmL.getD 6 (.none, fun _ => false)) (mem_getD (by decide)) C hC,
    e_NoCell := fun C hC => pX (exmL.getD 7 (.none, fun _ => false)) (mem_getD (by decide)) C hC,
    e_NoCheck := fun C hC => pX (exmL.getD 8 (.none, fun _ => false)) (mem_getD (by decide)) C hC,
    xf_at := fun C hC => ⟨xfC_of pE (by revert C; decide +kernel), pF (ad.xs_at, "at") (by decide +kernel) C hC⟩,
    xf_cell := fun C hC => ⟨xfC_of pE (by revert C; decide +kernel), pF (ad.xs_cell, "cell") (by decide +kernel) C hC⟩,
    xf_check := fun C hC => ⟨xfC_of pE (by revert C; decide +kernel), pF (ad.xs_check, "check") (by decide +kernel) C hC⟩,
    xf_kind := fun C hC => ⟨xfC_of pE (by revert C; decide +kernel), pF (ad.xs_kind, "kind") (by decide +kernel) C hC⟩,
    xf_kinds := fun C hC => ⟨xfC_of pE (by revert C; decide +kernel), pF (ad.xs_kinds, "kinds") (by decide +kernel) C hC⟩,
    xf_most := fun C hC => ⟨xfC_of pE (by revert C; decide +kernel), pF (ad.xs_most, "most") (by decide +kernel) C hC⟩,
    f14 := 234, d14 := d14, h14 := ⟨H14, nA ("is_sequence", 234) (by decide +kernel), pk ("is_sequence", 234) (by decide +kernel), b14⟩,
    f15 := 241, d15 := d15, h15 := ⟨H15, nA ("is_whole", 241) (by decide +kernel), pk ("is_whole", 241) (by decide +kernel), b15⟩,
    f16 := 248, d16 := d16, h16 := ⟨H16, nA ("is_below", 248) (by decide +kernel), pk ("is_below", 248) (by decide +kernel), b16⟩,
    f18 := 262, d18 := d18, h18 := ⟨H18, nA ("is_row", 262) (by decide +kernel), pk ("is_row", 262) (by decide +kernel), b18⟩,
    f17 := 255, d17 := d17, h17 := ⟨H17, nA ("are_below", 255) (by decide +kernel), pk ("are_below", 255) (by decide +kernel), b17⟩,
    f25 := 309, d25 := d25, h25 := ⟨H25, nA ("are_columns", 309) (by decide +kernel), pk ("are_columns", 309) (by decide +kernel), b25⟩,
    f28 := 328, d28 := d28, h28 := ⟨H28, nA ("are_rows", 328) (by decide +kernel), pk ("are_rows", 328) (by decide +kernel), b28⟩,
    f27 := 321, d27 := d27, h27 := ⟨H27, nA ("are_places", 321) (by decide +kernel), pk ("are_places", 321) (by decide +kernel), b27⟩,
    f26 := 314, d26 := d26, h26 := ⟨H26, nA ("is_check", 314) (by decide +kernel), pk ("is_check", 314) (by decide +kernel), b26⟩,
    f29 := 333, d29 := d29, h29 := ⟨H29, nA ("tidy_check", 333) (by decide +kernel), pk ("tidy_check", 333) (by decide +kernel), b29⟩,
    f30 := 338, d30 := d30, h30 := ⟨H30, nA ("table_of", 338) (by decide +kernel), pk ("table_of", 338) (by decide +kernel), b30⟩,
    f31 := 345, d31 := d31, h31 := ⟨H31, nA ("need_check", 345) (by decide +kernel), pk ("need_check", 345) (by decide +kernel), b31⟩,
    f33 := 357, d33 := d33, h33 := ⟨H33, nA ("is_kind", 357) (by decide +kernel), pk ("is_kind", 357) (by decide +kernel), b33⟩,
    f34 := 364, d34 := d34, h34 := ⟨H34, nA ("need_kind", 364) (by decide +kernel), pk ("need_kind", 364) (by decide +kernel), b34⟩,
    f24_2 := 290, d24_2 := d24_2, h24_2 := H24_2,
    f24_0 := 276, d24_0 := d24_0, e24_0 := e24_0, h24_0 := H24_0,
    f51 := 473, d51 := d51, h51 := ⟨H51, nA ("are_cells", 473) (by decide +kernel), pk ("are_cells", 473) (by decide +kernel), b51⟩,
    f52 := 478, d52 := d52, h52 := ⟨H52, nA ("is_laid", 478) (by decide +kernel), pk ("is_laid", 478) (by decide +kernel), b52⟩,
    f53 := 483, d53 := d53, h53 := ⟨H53, nA ("laid_by_cell", 483) (by decide +kernel), pk ("laid_by_cell", 483) (by decide +kernel), b53⟩,
    f50_0 := 445, d50_0 := d50_0, e50_0 := e50_0, h50_0 := H50_0,
    f54 := 490, d54 := d54, h54 := ⟨H54, nA ("need_cell", 490) (by decide +kernel), pk ("need_cell", 490) (by decide +kernel), b54⟩,
    f55 := 497, d55 := d55, h55 := ⟨H55, nA ("state_fault", 497) (by decide +kernel), pk ("state_fault", 497) (by decide +kernel), b55⟩,
    f56 := 504, d56 := d56, h56 := ⟨H56, nA ("check_state", 504) (by decide +kernel), pk ("check_state", 504) (by decide +kernel), b56⟩,
    f57 := 509, d57 := d57, h57 := ⟨H57, nA ("looked_row", 509) (by decide +kernel), pk ("looked_row", 509) (by decide +kernel), b57⟩,
    f58 := 516, d58 := d58, h58 := ⟨H58, nA ("lets_at", 516) (by decide +kernel), pk ("lets_at", 516) (by decide +kernel), b58⟩,
    f59 := 521, d59 := d59, h59 := ⟨H59, nA ("broken", 521) (by decide +kernel), pk ("broken", 521) (by decide +kernel), b59⟩,
    f60 := 528, d60 := d60, h60 := ⟨H60, nA ("is_good", 528) (by decide +kernel), pk ("is_good", 528) (by decide +kernel), b60⟩,
    f61 := 535, d61 := d61, h61 := ⟨H61, nA ("good_state", 535) (by decide +kernel), pk ("good_state", 535) (by decide +kernel), b61⟩,
    f62 := 542, d62 := d62, h62 := ⟨H62, nA ("check_batch", 542) (by decide +kernel), pk ("check_batch", 542) (by decide +kernel), b62⟩,
    f63 := 547, d63 := d63, h63 := ⟨H63, nA ("unlike_cells", 547) (by decide +kernel), pk ("unlike_cells", 547) (by decide +kernel), b63⟩,
    f66 := 571, d66 := d66, h66 := ⟨H66, nA ("find_faults", 571) (by decide +kernel), pk ("find_faults", 571) (by decide +kernel), b66⟩,
    f65_0 := 559, d65_0 := d65_0, h65_0 := H65_0,
    f67 := 578, d67 := d67, h67 := ⟨H67, nA ("has_fault", 578) (by decide +kernel), pk ("has_fault", 578) (by decide +kernel), b67⟩,
    f69 := 590, d69 := d69, h69 := ⟨H69, nA ("longer_by_one", 590) (by decide +kernel), pk ("longer_by_one", 590) (by decide +kernel), b69⟩,
    f71 := 602, d71 := d71, c_gs := c1, h71 := ⟨H71, nA ("group_steps", 602) (by decide +kernel), pk ("group_steps", 602) (by decide +kernel), b71⟩, tb_gs := TB1,
    f43 := 412, d43 := d43, h43 := ⟨H43, nA ("search_from", 412) (by decide +kernel), pk ("search_from", 412) (by decide +kernel), b43⟩,
    f44 := 419, d44 := d44, h44 := ⟨H44, nA ("search_lots", 419) (by decide +kernel), pk ("search_lots", 419) (by decide +kernel), b44⟩,
    f45 := 424, d45 := d45, h45 := ⟨H45, nA ("count_ways", 424) (by decide +kernel), pk ("count_ways", 424) (by decide +kernel), b45⟩,
    f73 := 609, d73 := d73, h73 := ⟨H73, nA ("course_of", 609) (by decide +kernel), pk ("course_of", 609) (by decide +kernel), b73⟩,
    f74 := 616, d74 := d74, h74 := ⟨H74, nA ("count_orders", 616) (by decide +kernel), pk ("count_orders", 616) (by decide +kernel), b74⟩,
    f76 := 630, d76 := d76, h76 := ⟨H76, nA ("nth_order", 630) (by decide +kernel), pk ("nth_order", 630) (by decide +kernel)⟩, kb_76 := b76,
    f79 := 637, d79 := d79, h79 := ⟨H79, nA ("is_figures", 637) (by decide +kernel), pk ("is_figures", 637) (by decide +kernel), b79⟩,
    f80 := 644, d80 := d80, h80 := ⟨H80, nA ("is_written_number", 644) (by decide +kernel), pk ("is_written_number", 644) (by decide +kernel), b80⟩,
    f81 := 649, d81 := d81, h81 := ⟨H81, nA ("numbers_behind", 649) (by decide +kernel), pk ("numbers_behind", 649) (by decide +kernel), b81⟩,
    f82 := 654, d82 := d82, h82 := ⟨H82, nA ("rows_from", 654) (by decide +kernel), pk ("rows_from", 654) (by decide +kernel), b82⟩,
    f83 := 661, d83 := d83, h83 := ⟨H83, nA ("check_from", 661) (by decide +kernel), pk ("check_from", 661) (by decide +kernel), b83⟩,
    f84 := 668, d84 := d84, h84 := ⟨H84, nA ("book_from", 668) (by decide +kernel), pk ("book_from", 668) (by decide +kernel), b84⟩,
    f85 := 675, d85 := d85, h85 := ⟨H85, nA ("read_book", 675) (by decide +kernel), pk ("read_book", 675) (by decide +kernel), b85⟩,
    f87 := 682, d87 := d87, h87 := ⟨H87, nA ("_law_box", 682) (by decide +kernel), pk ("_law_box", 682) (by decide +kernel), b87⟩,
    f88 := 689, d88 := d88, h88 := ⟨H88, nA ("_law_take", 689) (by decide +kernel), pk ("_law_take", 689) (by decide +kernel), b88⟩,
    f89 := 696, d89 := d89, h89 := ⟨H89, nA ("_law_pick", 696) (by decide +kernel), pk ("_law_pick", 696) (by decide +kernel), b89⟩,
    f90 := 703, d90 := d90, h90 := ⟨H90, nA ("_law_value", 703) (by decide +kernel), pk ("_law_value", 703) (by decide +kernel), b90⟩,
    f91 := 710, d91 := d91, h91 := ⟨H91, nA ("_law_bases", 710) (by decide +kernel), pk ("_law_bases", 710) (by decide +kernel), b91⟩,
    f92 := 715, d92 := d92, h92 := ⟨H92, nA ("_law_kept_right", 715) (by decide +kernel), pk ("_law_kept_right", 715) (by decide +kernel), b92⟩,
    f93 := 722, d93 := d93, c_ask := c2, h93 := ⟨H93, nA ("_law_ask", 722) (by decide +kernel), pk ("_law_ask", 722) (by decide +kernel), b93⟩, tb_ask := TB2,
    f94 := 729, d94 := d94, h94 := ⟨H94, nA ("_law_raised", 729) (by decide +kernel), pk ("_law_raised", 729) (by decide +kernel), b94⟩,
    f95 := 736, d95 := d95, h95 := ⟨H95, nA ("law", 736) (by decide +kernel), pk ("law", 736) (by decide +kernel), b95⟩,
    m_Book := nA ("Book", 298) (by decide +kernel), M_Book := mk_of pC (by decide +kernel), cl_Book := cls_mem pC (a := 298) (by decide +kernel),
    m_Store := nA ("Store", 462) (by decide +kernel), M_Store := mk_of pC (by decide +kernel), cl_Store := cls_mem pC (a := 462) (by decide +kernel),
    m_Course := nA ("Course", 562) (by decide +kernel), M_Course := mk_of pC (by decide +kernel), cl_Course := cls_mem pC (a := 562) (by decide +kernel),
    mt_Book_lets := pL, kb_Book_lets := kb_plain b24_2 rfl,
    kb_Book_2 := kb_d0 b24_0_3 rfl,
    kb_Store_3 := kb_d0 b50_0_4 rfl,
    kb_Store_2 := kb_d1 b50_0_3 rfl kt50_0,
    kb_Course_4 := kb_plain b65_0 rfl } : Tx P w K mg base ad)
end PA
end
section
set_option Elab.async false
set_option linter.all false
set_option maxRecDepth 100000
set_option maxHeartbeats 4000000
namespace PA
open PySem PySem.Spec PyProof.Rows L2 MF
theorem szl : (3 : Nat) ≤ sizeLine ∧ (2 : Nat) ≤ sizeLine := by rw [sizeLine_eq]; decide
def rb87 : MF.Env → S → MF.R F := (sRet (mLstM (mCons (mBin gIx (mLst (mCons (mC (.int 0)) (mCons (mVar 2) mNil))) (mCall gInt (mCons (mBin (gCmp fun i j => decide (j ≤ i)) (mVar 2) (mBin (gPow) (mC (.int 10)) (mC (.int 18)))) mNil))) (mCons (mBin (gAdd) (mBin (gMod) (mCall gInt (mCons (mBin (gAdd) (mBin (gMul) (mBin (gMod) (mCall gInt (mCons (mVar 2) mNil)) (mC (.int 2147483477))) (mC (.int 38803))) (mBin (gMul) (mC (.int 37003)) (mVar 1))) mNil)) (mC (.int 2147483477))) (mC (.int 1))) (mCons (mC (.int 0)) mNil)))))
theorem box_end (ns : List Int) (k : Nat) (cell : Int) (st : S) : ∃ b0 b1 : Int, 0 ≤ b0 ∧ rb87 [some (D.scr (ns.map .int)), some (.int k), some (.int cell)] st = .ok (.rt (.loc st.length)) (st ++ [.lst [.int b0, .int b1, .int 0]]) := by
  refine ⟨if (10 : Int) ^ 18 ≤ cell then cell else 0, (cell % 2147483477 * 38803 + 37003 * k) % 2147483477 + 1, by split <;> omega, ?_⟩
  have e1 : gPow (.int 10) (.int 18) st = .ok (.int ((10 : Int) ^ 18)) st := rfl
  have e2 : gIx (.lst [.int 0, .int cell]) (.int (if (10 : Int) ^ 18 ≤ cell then 1 else 0)) st = .ok (.int (if (10 : Int) ^ 18 ≤ cell then cell else 0)) st := by split <;> rfl
  have e3 := ev_mulR (i := cell % 2147483477) (j := 38803) (st := st) (by decide) (by decide)
  have e4 := ev_mulL (i := 37003) (j := (k : Int)) (st := st) (by decide) (by decide)
  have e5 := ev_mod (i := cell) (j := 2147483477) (st := st) (by decide)
  have e6 := ev_mod (i := cell % 2147483477 * 38803 + 37003 * k) (j := 2147483477) (st := st) (by decide)
  have s2 := szl.2
  have s3 := szl.1
  unfold rb87
  simp only [sRet, mLstM, mLst, mCons, mBin, mC, mVar, mNil, mCall, ev_bind, List.getElem?_cons_succ, List.getElem?_cons_zero, e1, ev_cmp, ev_intB, ev_int, e3, e4, e5, ev_add, e6, List.length_cons, List.length_nil, Nat.zero_add, Nat.reduceAdd, s2, s3, if_true, e2, decide_eq_true_eq]
theorem box_ok (a : Ad) (ns : List Int) (k : Nat) (st : S) : ∃ b0 b1 : Int, 0 ≤ b0 ∧ g87 a [.scr (ns.map .int), .int k] st = .ok (.loc st.length) (st ++ [.lst [.int b0, .int b1, .int 0]]) := by
  have hg : g87 a [.scr (ns.map .int), .int k] st = (match sSeq (sAsg (gN 2) (mBin (gAdd) (mBin (gMul) (mC (.int 9629)) (mVar 1)) (mC (.int 479)))) (sSeq (sIf (mTest (mBin (gCmp fun i j => decide (i < j)) (mVar 1) (mCall gLen (mCons (mVar 0) mNil)))) (sAsg (gN 2) (mCall gAbs (mCons (mBin gIx (mVar 0) (mVar 1)) mNil))) (sIf (mTest (mBin (gCmp fun i j => decide (j < i)) (mCall gLen (mCons (mVar 0) mNil)) (mC (.int 0)))) (sAsg (gN 2) (mBin (gAdd) (mVar 2) (mBin (gMul) (mBin (gMod) (mCall gInt (mCons (mCall gAbs (mCons (mBin gIx (mVar 0) (mBin (gMod) (mCall gInt (mCons (mVar 1) mNil)) (mCall gLen (mCons (mVar 0) mNil)))) mNil)) mNil)) (mC (.int 2147483477))) (mC (.int 48311))))) sNil)) rb87) [some (D.scr (ns.map .int)), some (.int k), none] st with
    | .ok (.rt d) st' => .ok d st'
    | .ok (.nx _) st' => .ok .non st'
    | .ok _ _ => .stuck
    | .ex c f p st' => .ex c f p st'
    | .stuck => .stuck) := rfl
  have e1 := ev_mulL (i := 9629) (j := (k : Int)) (st := st) (by decide) (by decide)
  have go : ∃ cell : Int, sSeq (sAsg (gN 2) (mBin (gAdd) (mBin (gMul) (mC (.int 9629)) (mVar 1)) (mC (.int 479)))) (sSeq (sIf (mTest (mBin (gCmp fun i j => decide (i < j)) (mVar 1) (mCall gLen (mCons (mVar 0) mNil)))) (sAsg (gN 2) (mCall gAbs (mCons (mBin gIx (mVar 0) (mVar 1)) mNil))) (sIf (mTest (mBin (gCmp fun i j => decide (j < i)) (mCall gLen (mCons (mVar 0) mNil)) (mC (.int 0)))) (sAsg (gN 2) (mBin (gAdd) (mVar 2) (mBin (gMul) (mBin (gMod) (mCall gInt (mCons (mCall gAbs (mCons (mBin gIx (mVar 0) (mBin (gMod) (mCall gInt (mCons (mVar 1) mNil)) (mCall gLen (mCons (mVar 0) mNil)))) mNil)) mNil)) (mC (.int 2147483477))) (mC (.int 48311))))) sNil)) rb87) [some (D.scr (ns.map .int)), some (.int k), none] st = rb87 [some (D.scr (ns.map .int)), some (.int k), some (.int cell)] st := by
    have hlen : (ns.map D.int).length = ns.length := List.length_map ..
    have hat : ∀ i : Int, 0 ≤ i → i < ns.length → ∃ z : Int, atI (ns.map D.int) i = some (.int z) := fun i h0 h1 => by
      unfold atI ixN
      rw [hlen, if_pos h0, if_pos h1]
      refine ⟨ns[i.toNat]'(by omega), ?_⟩
      show (ns.map D.int)[i.toNat]? = _
      rw [List.getElem?_map, List.getElem?_eq_getElem (by omega)]
      rfl
    by_cases h1 : (k : Int) < ns.length
    · obtain ⟨z, hz⟩ := hat k (by omega) h1
      have e2 := ev_ixS (st := st) hz
      refine ⟨if z < 0 then -z else z, ?_⟩
      simp only [sSeq, kSeq, sAsg, kSet, gN, sIf, mTest, kTest, mCons, mBin, mC, mVar, mNil, mCall, ev_bind, List.getElem?_cons_succ, List.getElem?_cons_zero, List.set_cons_succ, List.set_cons_zero, e1, ev_add, ev_cmp, ev_lenS, hlen, h1, decide_true, e2, ev_abs]
    · by_cases h2 : (0 : Int) < ns.length
      · obtain ⟨z, hz⟩ := hat ((k : Int) % ns.length) (Int.emod_nonneg _ (by omega)) (Int.emod_lt_of_pos _ h2)
        have e2 := ev_ixS (st := st) hz
        have e3 := ev_mod (i := (k : Int)) (j := (ns.length : Int)) (st := st) h2
        have e4 := ev_mod (i := if z < 0 then -z else z) (j := 2147483477) (st := st) (by decide)
        have e5 := ev_mulR (i := (if z < 0 then -z else z) % 2147483477) (j := 48311) (st := st) (by decide) (by decide)
        refine ⟨9629 * k + 479 + (if z < 0 then -z else z) % 2147483477 * 48311, ?_⟩
        simp only [sSeq, kSeq, sAsg, kSet, gN, sIf, mTest, kTest, mCons, mBin, mC, mVar, mNil, mCall, ev_bind, List.getElem?_cons_succ, List.getElem?_cons_zero, List.set_cons_succ, List.set_cons_zero, e1, ev_add, ev_cmp, ev_lenS, hlen, h1, h2, decide_true, decide_false, e2, ev_abs, ev_int, e3, e4, e5]
      · refine ⟨9629 * k + 479, ?_⟩
        simp only [sSeq, kSeq, sAsg, kSet, gN, sIf, sNil, mTest, kTest, mCons, mBin, mC, mVar, mNil, mCall, ev_bind, List.getElem?_cons_succ, List.getElem?_cons_zero, List.set_cons_succ, List.set_cons_zero, e1, ev_add, ev_cmp, ev_lenS, hlen, h1, h2, decide_true, decide_false]
  obtain ⟨cell, hc⟩ := go
  obtain ⟨b0, b1, h0, hb⟩ := box_end ns k cell st
  exact ⟨b0, b1, h0, by rw [hg, hc, hb]⟩
end PA
end
section
set_option Elab.async false
set_option linter.all false
set_option maxRecDepth 100000
set_option maxHeartbeats 4000000
namespace PA
open PySem PySem.Spec PyProof.Rows L2 MF
theorem fin_same {n : Nat} {d : D} {st : S} (h : st.length ≤ n) : fin n d st = .ok d st := if_neg fun z => Nat.lt_irrefl _ (Nat.lt_of_lt_of_le z.1 h)
/-- the store with the box at n -/
def bx (st : S) (n : Nat) (l : List D) : S := st.set n (.lst l)
theorem bx_len {st : S} {n : Nat} {l : List D} : (bx st n l).length = st.length := List.length_set
theorem bx_at {st : S} {n : Nat} {l : List D} (h : n < st.length) : (bx st n l)[n]? = some (.lst l) := List.getElem?_set_self h
theorem bx_bx {st : S} {n : Nat} {l l' : List D} : (bx st n l).set n (.lst l') = bx st n l' := List.set_set ..
theorem bx_ix {st : S} {n : Nat} {l : List D} {j : Int} {d : D} (h : n < st.length) (e : atI l j = some d) : gIx (.loc n) (.int j) (bx st n l) = .ok d (bx st n l) := ev_ixL (bx_at h) e
theorem bx_put {st : S} {n j : Nat} {l : List D} {d : D} (h : n < st.length) (e : j < l.length) : kPut (.loc n) (.int j) d (bx st n l) = some (bx st n (l.set j d)) := by rw [ev_put (bx_at h) e, bx_bx]
def tb88 : MF.Env → S → MF.R F := sSeq (sIf (mTest (mBin (gCmp fun i j => decide (j < i)) (mBin gIx (mVar 0) (mC (.int 0))) (mC (.int 0)))) (sSeq (sAsg (gN 2) (mBin (gMod) (mCall gInt (mCons (mBin gIx (mVar 0) (mC (.int 0))) mNil)) (mVar 1))) (sSeq (sPut (mVar 0) (mC (.int 0)) (mBin (gFdiv) (mBin gIx (mVar 0) (mC (.int 0))) (mVar 1))) (sRet (mVar 2)))) sNil) (sSeq (sPut (mVar 0) (mC (.int 2)) (mBin (gAdd) (mBin gIx (mVar 0) (mC (.int 2))) (mC (.int 1)))) (sSeq (sAsg (gN 3) (mBin (gMod) (mCall gInt (mCons (mBin (gAdd) (mBin (gMul) (mBin (gAdd) (mBin gIx (mVar 0) (mC (.int 1))) (mBin (gMul) (mC (.int 67021)) (mBin gIx (mVar 0) (mC (.int 2))))) (mC (.int 54251))) (mC (.int 71))) mNil)) (mC (.int 2147483423)))) (sSeq (sPut (mVar 0) (mC (.int 1)) (mBin (gAdd) (mBin (gMod) (mCall gInt (mCons (mBin (gAdd) (mBin (gMul) (mVar 3) (mC (.int 48121))) (mC (.int 13003))) mNil)) (mC (.int 2147483477))) (mC (.int 1)))) (sRet (mBin (gMod) (mCall gInt (mCons (mBin (gFdiv) (mBin (gAdd) (mBin (gMul) (mVar 3) (mC (.int 2147483629))) (mBin gIx (mVar 0) (mC (.int 1)))) (mC (.int 8191))) mNil)) (mVar 1))))))
theorem take_ok (a : Ad) (st : S) (n : Nat) (b0 b1 b2 many : Int) (h : n < st.length) (h0 : 0 ≤ b0) (hm : 0 < many) (hm2 : many < 1073741824) : ∃ r c0 c1 c2 : Int, 0 ≤ r ∧ r < many ∧ 0 ≤ c0 ∧ g88 a [.loc n, .int many] (bx st n [.int b0, .int b1, .int b2]) = .ok (.int r) (bx st n [.int c0, .int c1, .int c2]) := by
  have hg : g88 a [.loc n, .int many] (bx st n [.int b0, .int b1, .int b2]) = (match tb88 [some (D.loc n), some (.int many), none, none] (bx st n [.int b0, .int b1, .int b2]) with
    | .ok (.rt d) st' => fin (bx st n [.int b0, .int b1, .int b2]).length d st'
    | .ok (.nx _) st' => fin (bx st n [.int b0, .int b1, .int b2]).length .non st'
    | .ok _ _ => .stuck
    | .ex c f p st' => finX (bx st n [.int b0, .int b1, .int b2]).length c f p st'
    | .stuck => .stuck) := rfl
  by_cases hb : 0 < b0
  · refine ⟨b0 % many, b0 / many, b1, b2, Int.emod_nonneg _ (by omega), Int.emod_lt_of_pos _ hm, Int.ediv_nonneg h0 (by omega), ?_⟩
    have i0 : gIx (.loc n) (.int 0) (bx st n [.int b0, .int b1, .int b2]) = .ok (.int b0) _ := bx_ix h rfl
    have e1 := ev_mod (i := b0) (j := many) (st := bx st n [.int b0, .int b1, .int b2]) hm
    have e2 := ev_div (i := b0) (j := many) (st := bx st n [.int b0, .int b1, .int b2]) hm hm2
    have p0 : kPut (.loc n) (.int 0) (.int (b0 / many)) (bx st n [.int b0, .int b1, .int b2]) = some (bx st n [.int (b0 / many), .int b1, .int b2]) := bx_put (j := 0) h (by simp)
    have go : tb88 [some (D.loc n), some (.int many), none, none] (bx st n [.int b0, .int b1, .int b2]) = .ok (.rt (.int (b0 % many))) (bx st n [.int (b0 / many), .int b1, .int b2]) := by
      unfold tb88
      simp only [sSeq, kSeq, sAsg, kSet, gN, sIf, sRet, sPut, mTest, kTest, mCons, mBin, mC, mVar, mNil, mCall, ev_bind, List.getElem?_cons_succ, List.getElem?_cons_zero, List.set_cons_succ, List.set_cons_zero, i0, ev_cmp, hb, decide_true, ev_int, e1, e2, p0]
    rw [hg, go]
    exact fin_same (by rw [bx_len, bx_len]; exact Nat.le_refl _)
  · refine ⟨?_, b0, ?_, b2 + 1, ?_, ?_, h0, ?_⟩
    · exact (((b1 + 67021 * (b2 + 1)) * 54251 + 71) % 2147483423 * 2147483629 + ((((b1 + 67021 * (b2 + 1)) * 54251 + 71) % 2147483423 * 48121 + 13003) % 2147483477 + 1)) / 8191 % many
    · exact (((b1 + 67021 * (b2 + 1)) * 54251 + 71) % 2147483423 * 48121 + 13003) % 2147483477 + 1
    · exact Int.emod_nonneg _ (by omega)
    · exact Int.emod_lt_of_pos _ hm
    · generalize hr : ((b1 + 67021 * (b2 + 1)) * 54251 + 71) % 2147483423 = raw
      have i0 : gIx (.loc n) (.int 0) (bx st n [.int b0, .int b1, .int b2]) = .ok (.int b0) _ := bx_ix h rfl
      have i2 : gIx (.loc n) (.int 2) (bx st n [.int b0, .int b1, .int b2]) = .ok (.int b2) _ := bx_ix h rfl
      have p2 : kPut (.loc n) (.int 2) (.int (b2 + 1)) (bx st n [.int b0, .int b1, .int b2]) = some (bx st n [.int b0, .int b1, .int (b2 + 1)]) := bx_put (j := 2) h (by simp)
      have j1 : gIx (.loc n) (.int 1) (bx st n [.int b0, .int b1, .int (b2 + 1)]) = .ok (.int b1) _ := bx_ix h rfl
      have j2 : gIx (.loc n) (.int 2) (bx st n [.int b0, .int b1, .int (b2 + 1)]) = .ok (.int (b2 + 1)) _ := bx_ix h rfl
      have m1 := ev_mulL (i := 67021) (j := b2 + 1) (st := bx st n [.int b0, .int b1, .int (b2 + 1)]) (by decide) (by decide)
      have m2 := ev_mulR (i := b1 + 67021 * (b2 + 1)) (j := 54251) (st := bx st n [.int b0, .int b1, .int (b2 + 1)]) (by decide) (by decide)
      have m3 := ev_mod (i := (b1 + 67021 * (b2 + 1)) * 54251 + 71) (j := 2147483423) (st := bx st n [.int b0, .int b1, .int (b2 + 1)]) (by decide)
      have m4 := ev_mulR (i := raw) (j := 48121) (st := bx st n [.int b0, .int b1, .int (b2 + 1)]) (by decide) (by decide)
      have m5 := ev_mod (i := raw * 48121 + 13003) (j := 2147483477) (st := bx st n [.int b0, .int b1, .int (b2 + 1)]) (by decide)
      generalize hc : (raw * 48121 + 13003) % 2147483477 + 1 = c1
      have p1 : kPut (.loc n) (.int 1) (.int c1) (bx st n [.int b0, .int b1, .int (b2 + 1)]) = some (bx st n [.int b0, .int c1, .int (b2 + 1)]) := bx_put (j := 1) h (by simp)
      have l1 : gIx (.loc n) (.int 1) (bx st n [.int b0, .int c1, .int (b2 + 1)]) = .ok (.int c1) _ := bx_ix h rfl
      have m6 := ev_mulR (i := raw) (j := 2147483629) (st := bx st n [.int b0, .int c1, .int (b2 + 1)]) (by decide) (by decide)
      have m7 := ev_div (i := raw * 2147483629 + c1) (j := 8191) (st := bx st n [.int b0, .int c1, .int (b2 + 1)]) (by decide) (by decide)
      have m8 := ev_mod (i := (raw * 2147483629 + c1) / 8191) (j := many) (st := bx st n [.int b0, .int c1, .int (b2 + 1)]) hm
      have go : tb88 [some (D.loc n), some (.int many), none, none] (bx st n [.int b0, .int b1, .int b2]) = .ok (.rt (.int ((raw * 2147483629 + c1) / 8191 % many))) (bx st n [.int b0, .int c1, .int (b2 + 1)]) := by
        unfold tb88
        simp only [sSeq, kSeq, sAsg, kSet, gN, sIf, sNil, sRet, sPut, mTest, kTest, mCons, mBin, mC, mVar, mNil, mCall, ev_bind, List.getElem?_cons_succ, List.getElem?_cons_zero, List.set_cons_succ, List.set_cons_zero, i0, ev_cmp, hb, decide_false, ev_int, ev_add, i2, p2, j1, j2, m1, m2, m3, hr, m4, m5, hc, p1, l1, m6, m7, m8]
      rw [hg, go]
      exact fin_same (by rw [bx_len, bx_len]; exact Nat.le_refl _)
end PA
end
section
set_option Elab.async false
set_option linter.all false
set_option maxRecDepth 100000
set_option maxHeartbeats 4000000
namespace PA
open PySem PySem.Spec PyProof.Rows L2 MF
theorem tf_le : ∀ (ts : List Str) (k : Nat) (acc : Str) (m : Nat), (∀ t ∈ ts, t.length ≤ m) → (textFrom k acc ts).length ≤ acc.length + ts.length * (m + 2)
  | [], k, acc, m, _ => by show acc.length ≤ _; omega
  | t :: r, k, acc, m, h => by
    have ih := tf_le r (k + 1) (acc ++ (if k > 0 then ", " else "" : String) ++ t) m fun x hx => h x (List.mem_cons_of_mem _ hx)
    have e : (acc ++ (if k > 0 then ", " else "" : String) ++ t).length = acc.length + (if k > 0 then 2 else 0) + t.length := by
      rw [strLen_append, strLen_append]
      by_cases hk : k > 0
      · simp only [hk, if_true]; rfl
      · simp only [hk, if_false]; rfl
    have ht := h t List.mem_cons_self
    have e2 : (if k > 0 then 2 else 0) ≤ 2 := by split <;> omega
    have e3 : (t :: r).length * (m + 2) = r.length * (m + 2) + (m + 2) := by rw [List.length_cons, Nat.succ_mul]
    show (textFrom (k + 1) (acc ++ (if k > 0 then ", " else "" : String) ++ t) r).length ≤ _
    omega
theorem lt_le (ts : List Str) (m : Nat) (h : ∀ t ∈ ts, t.length ≤ m) : (listText ts).length ≤ ts.length * (m + 2) + 2 := by
  unfold listText
  rw [strLen_append]
  have := tf_le ts 0 "[" m h
  have e : (("[" : String) : Str).length = 1 := rfl
  have e2 : (("]" : String) : Str).length = 1 := rfl
  rw [e] at this
  rw [e2]
  omega
theorem ilen (n : Int) (h1 : -(10 ^ 10) < n) (h2 : n < 10 ^ 10) : (PyData.shown (.int n)).length ≤ 11 := by
  by_cases h0 : 0 ≤ n
  · exact Nat.le_trans (toString_length_le (k := 10) h0 (by decide) h2) (by decide)
  · obtain ⟨m, rfl⟩ : ∃ m : Nat, n = Int.negSucc m := ⟨(-n - 1).toNat, by omega⟩
    have hm := toString_length_le (v := ((m + 1 : Nat) : Int)) (k := 10) (by omega) (by decide) (by omega)
    have e : (toString (Int.negSucc m) : String) = "-" ++ toString ((m + 1 : Nat) : Int) := rfl
    show (Str.ofString (toString (Int.negSucc m))).length ≤ 11
    rw [PyProof.Rows.ofString_length] at hm ⊢
    rw [e, String.toList_append, List.length_append]
    have e1 : ("-" : String).toList.length = 1 := rfl
    rw [e1]
    omega
end PA
end
section
set_option Elab.async false
set_option linter.all false
set_option maxRecDepth 100000
set_option maxHeartbeats 4000000
namespace PA
open PySem PySem.Spec PyProof.Rows L2 MF
theorem ok_of (s : String) : PyData.strOk (Str.ofString s) = true := by
  unfold PyData.strOk
  rw [Str.ofString_eq_toList, List.all_toArray, List.all_eq_true]
  intro n hn
  obtain ⟨c, _, rfl⟩ := List.mem_map.mp hn
  refine decide_eq_true ?_
  have := c.valid
  show c.val.toNat < 0x110000
  rcases this with h | h
  · have h' : c.val.toNat < 0xD800 := h
    omega
  · have h' : c.val.toNat < 0x110000 := h.2
    omega
theorem ok_app {x y : Str} (h1 : PyData.strOk x = true) (h2 : PyData.strOk y = true) : PyData.strOk (x ++ y) = true := by
  unfold PyData.strOk at *
  show (x.cps ++ y.cps).all _ = true
  rw [Array.all_append, h1, h2]
  rfl
theorem ok_tf : ∀ (ts : List Str) (k : Nat) (acc : Str), PyData.strOk acc = true → (∀ t ∈ ts, PyData.strOk t = true) → PyData.strOk (textFrom k acc ts) = true
  | [], _, _, h, _ => h
  | t :: r, k, acc, h, ht => ok_tf r (k + 1) _ (ok_app (ok_app h (ok_of _)) (ht t List.mem_cons_self)) fun x hx => ht x (List.mem_cons_of_mem _ hx)
theorem ok_lt {ts : List Str} (ht : ∀ t ∈ ts, PyData.strOk t = true) : PyData.strOk (listText ts) = true := ok_app (ok_tf ts 0 _ (ok_of _) ht) (ok_of _)
theorem ok_int (n : Int) : PyData.strOk (PyData.shown (.int n)) = true := ok_of _
end PA
end
section
set_option Elab.async false
set_option linter.all false
set_option maxRecDepth 100000
set_option maxHeartbeats 4000000
namespace PA
open PySem PySem.Spec PyProof.Rows L2 MF
/-- a value that repr shows in few signs -/
def GV (d : D) : Prop := ∃ x, d.data = some x ∧ x.showable = true ∧ x.hasDict = false ∧ x.depth ≤ 8 ∧ x.shown.length ≤ 100 ∧ PyData.strOk x.shown = true
theorem small_log {n : Int} (h1 : -(10 ^ 10) < n) (h2 : n < 10 ^ 10) : n.natAbs.log2 < 1920 := by
  by_cases h : n.natAbs = 0
  · rw [h]; decide
  · exact Nat.lt_trans ((Nat.log2_lt h).mpr (show n.natAbs < 2 ^ 40 by omega)) (by decide)
theorem gv_int {n : Int} (h1 : -(10 ^ 10) < n) (h2 : n < 10 ^ 10) : GV (.int n) :=
  ⟨.int n, rfl, decide_eq_true (small_log h1 h2), rfl, by simp [PyData.depth], Nat.le_trans (ilen n h1 h2) (by decide), ok_int n⟩
theorem gv_items {n : Int} (h1 : -(10 ^ 9) < n) (h2 : n < 10 ^ 9) : ∀ d ∈ [D.int n, .int (0 - n), .non, .bl true, .str "", .str "abc", .tup [.int n, .non], .lst [.int 1, .lst [.int n]], .int 0], GV d := by
  have hn := ilen n (by omega) (by omega)
  have hs : decide (n.natAbs.log2 < 1920) = true := decide_eq_true (small_log (by omega) (by omega))
  intro d hd
  simp only [List.mem_cons, List.not_mem_nil, or_false] at hd
  rcases hd with rfl | rfl | rfl | rfl | rfl | rfl | rfl | rfl | rfl
  · exact gv_int (by omega) (by omega)
  · exact gv_int (by omega) (by omega)
  · exact ⟨.none, rfl, rfl, rfl, by decide, by decide, by decide +kernel⟩
  · exact ⟨.bool true, rfl, rfl, rfl, by decide, by decide, by decide +kernel⟩
  · exact ⟨.str "", rfl, rfl, rfl, by decide, by decide +kernel, by decide +kernel⟩
  · exact ⟨.str "abc", rfl, rfl, rfl, by decide, by decide +kernel, by decide +kernel⟩
  · refine ⟨.tuple [.int n, .none], rfl, by simp [PyData.showable, PyData.showableAll, hs], rfl, by simp [PyData.depth, PyData.depthAll], ?_, ok_app (x := ("(" : Str) ++ (PyData.shown (.int n) ++ ", " ++ PyData.shown .none)) (ok_app (ok_of _) (ok_app (ok_app (ok_int n) (ok_of _)) (ok_of _))) (ok_of _)⟩
    have e : (PyData.shown (.tuple [.int n, .none])).length = (PyData.shown (.int n)).length + 8 := by
      show (("(" : Str) ++ (PyData.shown (.int n) ++ ", " ++ PyData.shown .none) ++ (")" : String)).length = _
      rw [strLen_append, strLen_append, strLen_append, strLen_append]
      have e1 : (("(" : String) : Str).length = 1 := rfl
      have e2 : ((", " : String) : Str).length = 2 := rfl
      have e3 : ((")" : String) : Str).length = 1 := rfl
      have e4 : (PyData.shown .none).length = 4 := rfl
      rw [e1, e2, e3, e4]
      omega
    omega
  · refine ⟨.list [.int 1, .list [.int n]], rfl, by simp [PyData.showable, PyData.showableAll, hs]; decide, rfl, by simp [PyData.depth, PyData.depthAll], ?_, ok_lt (ts := [PyData.shown (.int 1), listText [PyData.shown (.int n)]]) (by
      intro t ht
      simp only [List.mem_cons, List.not_mem_nil, or_false] at ht
      rcases ht with rfl | rfl
      · exact ok_int 1
      · exact ok_lt (by intro t ht; rw [List.mem_singleton.mp ht]; exact ok_int n))⟩
    have i1 : (listText [PyData.shown (.int n)]).length ≤ 15 := Nat.le_trans (lt_le [PyData.shown (.int n)] 11 (by intro t ht; rw [List.mem_singleton.mp ht]; exact hn)) (by show 1 * (11 + 2) + 2 ≤ 15; decide)
    have i2 : (PyData.shown (.int 1)).length ≤ 15 := by decide +kernel
    refine Nat.le_trans (lt_le [PyData.shown (.int 1), listText [PyData.shown (.int n)]] 15 ?_) (by show 2 * (15 + 2) + 2 ≤ 100; decide)
    intro t ht
    simp only [List.mem_cons, List.not_mem_nil, or_false] at ht
    rcases ht with rfl | rfl
    · exact i2
    · exact i1
  · exact gv_int (by decide) (by decide)
def rb89 (a : Ad) : MF.Env → S → MF.R F := sRet (mBin gIx (mVar 1) (mCall (kCall 2 (g88 a)) (mCons (mVar 0) (mCons (mCall gLen (mCons (mVar 1) mNil)) mNil))))
def rb90 (a : Ad) : MF.Env → S → MF.R F := sSeq (sAsg (gN 1) (mBin (gSub) (mCall (kCall 2 (g88 a)) (mCons (mVar 0) (mCons (mBin (gPow) (mC (.int 10)) (mC (.int 9))) mNil))) (mBin (gMul) (mC (.int 5)) (mBin (gPow) (mC (.int 10)) (mC (.int 8)))))) (sRet (mCall (kCall 2 (g89 a)) (mCons (mVar 0) (mCons (mLst (mCons (mVar 1) (mCons (mBin (gSub) (mC (.int 0)) (mVar 1)) (mCons (mC .non) (mCons (mC (.bl true)) (mCons (mC (.str "")) (mCons (mC (.str "abc")) (mCons (mTup (mCons (mVar 1) (mCons (mC .non) mNil))) (mCons (mLst (mCons (mC (.int 1)) (mCons (mLst (mCons (mVar 1) mNil)) mNil))) (mCons (mC (.int 0)) mNil)))))))))) mNil))))
theorem pick_ok (a : Ad) (st : S) (n : Nat) (b0 b1 b2 : Int) (h : n < st.length) (h0 : 0 ≤ b0) (items : List D) (hl : items.length = 9) : ∃ (d : D) (c0 c1 c2 : Int), d ∈ items ∧ 0 ≤ c0 ∧ g89 a [.loc n, .lst items] (bx st n [.int b0, .int b1, .int b2]) = .ok d (bx st n [.int c0, .int c1, .int c2]) := by
  obtain ⟨r, c0, c1, c2, r0, r1, hc, e1⟩ := take_ok a st n b0 b1 b2 9 h h0 (by decide) (by decide)
  have hr : r.toNat < items.length := by rw [hl]; omega
  have e2 : atI items r = some (items[r.toNat]'hr) := by
    unfold atI ixN
    rw [if_pos r0, if_pos (by rw [hl]; exact r1)]
    exact List.getElem?_eq_getElem hr
  have e3 := ev_ixF (st := bx st n [.int c0, .int c1, .int c2]) e2
  have e4 : gLen [.lst items] (bx st n [.int b0, .int b1, .int b2]) = .ok (.int 9) (bx st n [.int b0, .int b1, .int b2]) := by
    show R.ok (D.int (items.length : Int)) _ = _
    rw [hl]
    rfl
  have e5 : kCall 2 (g88 a) [.loc n, .int 9] (bx st n [.int b0, .int b1, .int b2]) = .ok (.int r) (bx st n [.int c0, .int c1, .int c2]) := (ev_call (np := 2) rfl).trans e1
  have go : rb89 a [some (D.loc n), some (.lst items)] (bx st n [.int b0, .int b1, .int b2]) = .ok (.rt (items[r.toNat]'hr)) (bx st n [.int c0, .int c1, .int c2]) := by
    unfold rb89
    simp only [sRet, mBin, mVar, mCall, mCons, mNil, ev_bind, List.getElem?_cons_succ, List.getElem?_cons_zero, e4, e5, e3]
  refine ⟨items[r.toNat]'hr, c0, c1, c2, List.getElem_mem hr, hc, ?_⟩
  show (match rb89 a [some (D.loc n), some (.lst items)] (bx st n [.int b0, .int b1, .int b2]) with
    | .ok (.rt d) st' => fin (bx st n [.int b0, .int b1, .int b2]).length d st'
    | .ok (.nx _) st' => fin (bx st n [.int b0, .int b1, .int b2]).length .non st'
    | .ok _ _ => .stuck
    | .ex c f p st' => finX (bx st n [.int b0, .int b1, .int b2]).length c f p st'
    | .stuck => .stuck) = _
  rw [go]
  exact fin_same (by rw [bx_len, bx_len]; exact Nat.le_refl _)
theorem value_ok (a : Ad) (st : S) (n : Nat) (b0 b1 b2 : Int) (h : n < st.length) (h0 : 0 ≤ b0) : ∃ (d : D) (c0 c1 c2 : Int), GV d ∧ 0 ≤ c0 ∧ g90 a [.loc n] (bx st n [.int b0, .int b1, .int b2]) = .ok d (bx st n [.int c0, .int c1, .int c2]) := by
  obtain ⟨r, c0, c1, c2, r0, r1, hc, e1⟩ := take_ok a st n b0 b1 b2 1000000000 h h0 (by decide) (by decide)
  generalize hm : r - 500000000 = m
  obtain ⟨d, k0, k1, k2, hd, hk, e2⟩ := pick_ok a st n c0 c1 c2 h hc [D.int m, .int (0 - m), .non, .bl true, .str "", .str "abc", .tup [.int m, .non], .lst [.int 1, .lst [.int m]], .int 0] rfl
  have e3 : gPow (.int 10) (.int 9) (bx st n [.int b0, .int b1, .int b2]) = .ok (.int 1000000000) (bx st n [.int b0, .int b1, .int b2]) := rfl
  have e4 : gPow (.int 10) (.int 8) (bx st n [.int c0, .int c1, .int c2]) = .ok (.int 100000000) (bx st n [.int c0, .int c1, .int c2]) := rfl
  have e5 : gMul (.int 5) (.int 100000000) (bx st n [.int c0, .int c1, .int c2]) = .ok (.int 500000000) (bx st n [.int c0, .int c1, .int c2]) := rfl
  have e6 : kCall 2 (g88 a) [.loc n, .int 1000000000] (bx st n [.int b0, .int b1, .int b2]) = .ok (.int r) (bx st n [.int c0, .int c1, .int c2]) := (ev_call (np := 2) rfl).trans e1
  have e7 : kCall 2 (g89 a) [.loc n, .lst [D.int m, .int (0 - m), .non, .bl true, .str "", .str "abc", .tup [.int m, .non], .lst [.int 1, .lst [.int m]], .int 0]] (bx st n [.int c0, .int c1, .int c2]) = .ok d (bx st n [.int k0, .int k1, .int k2]) := (ev_call (np := 2) rfl).trans e2
  have s9 : (9 : Nat) ≤ sizeLine := by rw [sizeLine_eq]; decide
  have s2 : (2 : Nat) ≤ sizeLine := by rw [sizeLine_eq]; decide
  have s1 : (1 : Nat) ≤ sizeLine := by rw [sizeLine_eq]; decide
  have go : rb90 a [some (D.loc n), none] (bx st n [.int b0, .int b1, .int b2]) = .ok (.rt d) (bx st n [.int k0, .int k1, .int k2]) := by
    unfold rb90
    simp only [sSeq, kSeq, sAsg, kSet, gN, sRet, mBin, mC, mVar, mCall, mCons, mNil, mLst, mTup, ev_bind, List.getElem?_cons_succ, List.getElem?_cons_zero, List.set_cons_succ, List.set_cons_zero, e3, e6, e4, e5, ev_sub, hm, List.length_cons, List.length_nil, Nat.zero_add, Nat.reduceAdd, s9, s2, s1, if_true, e7]
  refine ⟨d, k0, k1, k2, gv_items (n := m) (by omega) (by omega) d hd, hk, ?_⟩
  show (match rb90 a [some (D.loc n), none] (bx st n [.int b0, .int b1, .int b2]) with
    | .ok (.rt d) st' => fin (bx st n [.int b0, .int b1, .int b2]).length d st'
    | .ok (.nx _) st' => fin (bx st n [.int b0, .int b1, .int b2]).length .non st'
    | .ok _ _ => .stuck
    | .ex c f p st' => finX (bx st n [.int b0, .int b1, .int b2]).length c f p st'
    | .stuck => .stuck) = _
  rw [go]
  exact fin_same (by rw [bx_len, bx_len]; exact Nat.le_refl _)
end PA
end
section
set_option Elab.async false
set_option linter.all false
set_option maxRecDepth 100000
set_option maxHeartbeats 4000000
namespace PA
open PySem PySem.Spec PyProof.Rows L2 MF
def qgs : Str := "group_steps.<locals>.<lambda>"
/-- the store of a turn: the two tables, the box -/
def stB (x y z : Int) : S := [.tab ad.p_gs qgs, .tab ad.p_ask qAsk, .lst [.int x, .int y, .int z]]
theorem stB_bx (x y z u v w : Int) : bx (stB x y z) 2 [.int u, .int v, .int w] = stB u v w := rfl
theorem stB_self (x y z : Int) : stB x y z = bx (stB x y z) 2 [.int x, .int y, .int z] := rfl
def k92_par (a : Ad) : MF.Env → S → MF.R F := sPar 1 2 (mCons (mCall (kCall 1 (g90 a)) (mCons (mVar 0) mNil)) (mCons (mCall (kCall 1 (g90 a)) (mCons (mVar 0) mNil)) mNil))
def k92_t1 (a : Ad) : MF.Env → S → MF.R F := sAsg (gN 3) (mLst (mCons (mTup (mCons (mC (.str "BadBook")) (mCons (mExc a.C_BadBook "at" (mVar 1)) mNil))) (mCons (mTup (mCons (mC (.str "BadState")) (mCons (mExc a.C_BadState "at" (mVar 1)) mNil))) (mCons (mTup (mCons (mC (.str "BadStore")) (mCons (mExc a.C_BadStore "at" (mVar 1)) mNil))) (mCons (mTup (mCons (mC (.str "BadText")) (mCons (mExc a.C_BadText "at" (mVar 1)) mNil))) mNil)))))
def k92_t2 (a : Ad) : MF.Env → S → MF.R F := sAsg (gN 3) (mBin (gAdd) (mVar 3) (mLst (mCons (mTup (mCons (mC (.str "Refused")) (mCons (mExc a.C_Refused "at" (mVar 1)) mNil))) (mCons (mTup (mCons (mC (.str "BadBook")) (mCons (mExc a.C_BadBook "at" (mVar 1)) mNil))) (mCons (mTup (mCons (mC (.str "BadState")) (mCons (mExc a.C_BadState "at" (mVar 1)) mNil))) mNil)))))
def k92_t3 (a : Ad) : MF.Env → S → MF.R F := sAsg (gN 3) (mBin (gAdd) (mVar 3) (mLst (mCons (mTup (mCons (mC (.str "BadStore")) (mCons (mExc a.C_BadStore "at" (mVar 1)) mNil))) (mCons (mTup (mCons (mC (.str "BadText")) (mCons (mExc a.C_BadText "at" (mVar 1)) mNil))) (mCons (mTup (mCons (mC (.str "Refused")) (mCons (mExc a.C_Refused "at" (mVar 1)) mNil))) mNil)))))
def k92_lp1 (a : Ad) : MF.Env → S → MF.R F := sFor (itS (mVar 3)) (gTG 2 (gCo (gN 4) (gCo (gN 5) (gNs [])))) (sIf (tOr2 (mTest (mBin (gEq true) (mCall (kCall 1 (g91 a)) (mCons (mVar 5) mNil)) (mLst (mCons (mVar 4) (mCons (mC (.str "BatchError")) (mCons (mC (.str "ValueError")) mNil)))))) (mTest (mBin (gEq true) (mCall gRepr (mCons (mXat a.xs_at "at" (mVar 5)) mNil)) (mCall gRepr (mCons (mVar 1) mNil))))) (sRet (mC (.bl false))) sNil)
def k92_nm (a : Ad) : MF.Env → S → MF.R F := sAsg (gN 6) (mTup (mCons (mExc a.C_TooGreat "most" (mVar 2)) (mCons (mExc a.C_Knotted "kinds" (mVar 1)) (mCons (mExc a.C_NoKind "kind" (mVar 2)) (mCons (mExc a.C_NoCell "cell" (mVar 1)) (mCons (mExc a.C_NoCheck "check" (mVar 2)) mNil))))))
def k92_lp2 (a : Ad) : MF.Env → S → MF.R F := sFor (itS (mTup (mCons (mTup (mCons (mExc a.C_TooGreat "most" (mVar 2)) (mCons (mExc a.C_Knotted "kinds" (mVar 1)) (mCons (mExc a.C_NoKind "kind" (mVar 2)) (mCons (mExc a.C_NoCell "cell" (mVar 1)) (mCons (mExc a.C_NoCheck "check" (mVar 2)) mNil)))))) (mCons (mVar 6) mNil)))) (gTG 5 (gCo (gN 7) (gCo (gN 8) (gCo (gN 9) (gCo (gN 10) (gCo (gN 11) (gNs []))))))) (sSeq (sIf (tOr2 (mTest (mBin (gEq true) (mCall (kCall 1 (g91 a)) (mCons (mVar 7) mNil)) (mLst (mCons (mC (.str "TooGreat")) (mCons (mC (.str "BatchError")) (mCons (mC (.str "ValueError")) mNil)))))) (mTest (mBin (gEq true) (mCall (kCall 1 (g91 a)) (mCons (mVar 8) mNil)) (mLst (mCons (mC (.str "Knotted")) (mCons (mC (.str "BatchError")) (mCons (mC (.str "ValueError")) mNil))))))) (sRet (mC (.bl false))) sNil) (sSeq (sIf (mTest (mBin (gEq true) (mLst (mCons (mCall (kCall 1 (g91 a)) (mCons (mVar 9) mNil)) (mCons (mCall (kCall 1 (g91 a)) (mCons (mVar 10) mNil)) (mCons (mCall (kCall 1 (g91 a)) (mCons (mVar 11) mNil)) mNil)))) (mComp [4] (itS (mTup (mCons (mC (.str "NoKind")) (mCons (mC (.str "NoCell")) (mCons (mC (.str "NoCheck")) mNil))))) (gN 4) tTrue (mLst (mCons (mVar 4) (mCons (mC (.str "KeyError")) mNil)))))) (sRet (mC (.bl false))) sNil) (sIf (mTest (mBin (gEq true) (mCall gRepr (mCons (mLst (mCons (mXat a.xs_most "most" (mVar 7)) (mCons (mXat a.xs_kinds "kinds" (mVar 8)) (mCons (mXat a.xs_kind "kind" (mVar 9)) (mCons (mXat a.xs_cell "cell" (mVar 10)) (mCons (mXat a.xs_check "check" (mVar 11)) mNil)))))) mNil)) (mCall gRepr (mCons (mLst (mCons (mVar 2) (mCons (mVar 1) (mCons (mVar 2) (mCons (mVar 1) (mCons (mVar 2) mNil)))))) mNil)))) (sRet (mC (.bl false))) sNil)))
def k92_ret (a : Ad) : MF.Env → S → MF.R F := sRet (mC (.bl true))
def k92_ta (a : Ad) : MF.Env → S → MF.R Bool := mTest (mBin (gEq true) (mCall (kCall 1 (g91 a)) (mCons (mVar 5) mNil)) (mLst (mCons (mVar 4) (mCons (mC (.str "BatchError")) (mCons (mC (.str "ValueError")) mNil)))))
def k92_tb (a : Ad) : MF.Env → S → MF.R Bool := mTest (mBin (gEq true) (mCall gRepr (mCons (mXat a.xs_at "at" (mVar 5)) mNil)) (mCall gRepr (mCons (mVar 1) mNil)))
def k92_b1 (a : Ad) : MF.Env → S → MF.R F := sIf (tOr2 (k92_ta a) (k92_tb a)) (sRet (mC (.bl false))) sNil
def k92_A (a : Ad) : MF.Env → S → MF.R F := sIf (tOr2 (mTest (mBin (gEq true) (mCall (kCall 1 (g91 a)) (mCons (mVar 7) mNil)) (mLst (mCons (mC (.str "TooGreat")) (mCons (mC (.str "BatchError")) (mCons (mC (.str "ValueError")) mNil)))))) (mTest (mBin (gEq true) (mCall (kCall 1 (g91 a)) (mCons (mVar 8) mNil)) (mLst (mCons (mC (.str "Knotted")) (mCons (mC (.str "BatchError")) (mCons (mC (.str "ValueError")) mNil))))))) (sRet (mC (.bl false))) sNil
def k92_B (a : Ad) : MF.Env → S → MF.R F := sIf (mTest (mBin (gEq true) (mLst (mCons (mCall (kCall 1 (g91 a)) (mCons (mVar 9) mNil)) (mCons (mCall (kCall 1 (g91 a)) (mCons (mVar 10) mNil)) (mCons (mCall (kCall 1 (g91 a)) (mCons (mVar 11) mNil)) mNil)))) (mComp [4] (itS (mTup (mCons (mC (.str "NoKind")) (mCons (mC (.str "NoCell")) (mCons (mC (.str "NoCheck")) mNil))))) (gN 4) tTrue (mLst (mCons (mVar 4) (mCons (mC (.str "KeyError")) mNil)))))) (sRet (mC (.bl false))) sNil
def k92_C (a : Ad) : MF.Env → S → MF.R F := sIf (mTest (mBin (gEq true) (mCall gRepr (mCons (mLst (mCons (mXat a.xs_most "most" (mVar 7)) (mCons (mXat a.xs_kinds "kinds" (mVar 8)) (mCons (mXat a.xs_kind "kind" (mVar 9)) (mCons (mXat a.xs_cell "cell" (mVar 10)) (mCons (mXat a.xs_check "check" (mVar 11)) mNil)))))) mNil)) (mCall gRepr (mCons (mLst (mCons (mVar 2) (mCons (mVar 1) (mCons (mVar 2) (mCons (mVar 1) (mCons (mVar 2) mNil)))))) mNil)))) (sRet (mC (.bl false))) sNil

/-- what repr shows -/
structure Sh (d : D) (s : Str) : Prop where
  eq : ∀ st, gRepr [d] st = .ok (.str s) st
  ok : PyData.strOk s = true
theorem GV.sh {d : D} (h : GV d) : ∃ s, Sh d s := by
  obtain ⟨x, h1, h2, h3, h4, h5, h6⟩ := h
  refine ⟨x.shown, ⟨fun st => ?_, h6⟩⟩
  show (match d.data with
    | some x => if x.showable = true ∧ x.hasDict = false ∧ x.depth ≤ 64 ∧ x.shown.length ≤ sizeLine then (.ok (.str x.shown) st : MF.R D) else .stuck
    | none => .stuck) = _
  rw [h1]
  exact if_pos ⟨h2, h3, by omega, Nat.le_trans h5 (by rw [sizeLine_eq]; decide)⟩
theorem GV.sh5 {d e : D} (h : GV d) (h' : GV e) : ∃ s, Sh (.lst [d, e, d, e, d]) s := by
  obtain ⟨x, h1, h2, h3, h4, h5, h6⟩ := h
  obtain ⟨y, g1, g2, g3, g4, g5, g6⟩ := h'
  refine ⟨(PyData.list [x, y, x, y, x]).shown, ⟨fun st => ?_, ok_lt (ts := [x.shown, y.shown, x.shown, y.shown, x.shown]) (by
    intro t ht
    simp only [List.mem_cons, List.not_mem_nil, or_false] at ht
    rcases ht with rfl | rfl | rfl | rfl | rfl <;> assumption)⟩⟩
  have hd : D.data (.lst [d, e, d, e, d]) = some (.list [x, y, x, y, x]) := by
    simp only [D.data, datas, h1, g1, Option.map]
  show (match D.data (.lst [d, e, d, e, d]) with
    | some x => if x.showable = true ∧ x.hasDict = false ∧ x.depth ≤ 64 ∧ x.shown.length ≤ sizeLine then (.ok (.str x.shown) st : MF.R D) else .stuck
    | none => .stuck) = _
  rw [hd]
  refine if_pos ⟨by simp [PyData.showable, PyData.showableAll, h2, g2], by simp [PyData.hasDict, PyData.hasDictAll, h3, g3], by simp only [PyData.depth, PyData.depthAll]; omega, ?_⟩
  have z : (PyData.shown (.list [x, y, x, y, x])).length ≤ 5 * (100 + 2) + 2 := lt_le [x.shown, y.shown, x.shown, y.shown, x.shown] 100 (by
    intro t ht
    simp only [List.mem_cons, List.not_mem_nil, or_false] at ht
    rcases ht with rfl | rfl | rfl | rfl | rfl <;> assumption)
  exact Nat.le_trans z (by rw [sizeLine_eq]; decide)
theorem eq_same {s : Str} (hs : PyData.strOk s = true) (st : S) : gEq true (.str s) (.str s) st = .ok (.bl false) st := by
  show (if SeqAt.shaped (.str s) = true ∧ SeqAt.shaped (.str s) = true then (.ok (.bl (if true = true then !PyData.eqv (.str s) (.str s) else PyData.eqv (.str s) (.str s))) st : MF.R D) else .stuck) = _
  have e : PyData.eqv (.str s) (.str s) = true := by simp [PyData.eqv]
  rw [e]
  exact if_pos ⟨by simp [SeqAt.shaped, PyData.canLay0, PyData.depth, hs], by simp [SeqAt.shaped, PyData.canLay0, PyData.depth, hs]⟩
section
variable {x y z : Int} {v1 v2 : D} {s1 : Str}
theorem b1_ok (h1 : Sh v1 s1) (name : Str) (C : Addr) (hta : ∀ e3 r6 r7 r8 r9 r10 r11, k92_ta ad [some (.loc 2), some v1, some v2, e3, some (.str name), some (.exc C "at" v1), r6, r7, r8, r9, r10, r11] (stB x y z) = .ok false (stB x y z)) (hC : C ∈ ad.xs_at) (e3 r6 r7 r8 r9 r10 r11 : Option D) :
    k92_b1 ad [some (.loc 2), some v1, some v2, e3, some (.str name), some (.exc C "at" v1), r6, r7, r8, r9, r10, r11] (stB x y z) = .ok (.nx [some (.loc 2), some v1, some v2, e3, some (.str name), some (.exc C "at" v1), r6, r7, r8, r9, r10, r11]) (stB x y z) := by
  have e1 : gXat ad.xs_at "at" (.exc C "at" v1) (stB x y z) = .ok v1 (stB x y z) := if_pos ⟨rfl, hC⟩
  have htb : k92_tb ad [some (.loc 2), some v1, some v2, e3, some (.str name), some (.exc C "at" v1), r6, r7, r8, r9, r10, r11] (stB x y z) = .ok false (stB x y z) := by
    unfold k92_tb
    simp only [mTest, kTest, mBin, mCall, mCons, mNil, mVar, mXat, ev_bind, List.getElem?_cons_succ, List.getElem?_cons_zero, e1, h1.eq, eq_same h1.ok]
  unfold k92_b1
  simp only [sIf, tOr2, hta, htb, ev_bind, sNil]
def tuE (v1 : D) (p : Str × Addr) : D := .tup [.str p.1, .exc p.2 "at" v1]
def fL1 : D → MF.Env → Option MF.Env := gTG 2 (gCo (gN 4) (gCo (gN 5) (gNs [])))
theorem lp1_ok (h1 : Sh v1 s1) (e3 r6 r7 r8 r9 r10 r11 : Option D) : ∀ (ps : List (Str × Addr)), (∀ p ∈ ps, p.2 ∈ ad.xs_at ∧ ∀ e3 r6 r7 r8 r9 r10 r11, k92_ta ad [some (.loc 2), some v1, some v2, e3, some (.str p.1), some (.exc p.2 "at" v1), r6, r7, r8, r9, r10, r11] (stB x y z) = .ok false (stB x y z)) → ∀ e4 e5,
    ∃ f4 f5, loop fL1 (k92_b1 ad) (ps.map (tuE v1)) [some (.loc 2), some v1, some v2, e3, e4, e5, r6, r7, r8, r9, r10, r11] (stB x y z) = .ok (.nx [some (.loc 2), some v1, some v2, e3, f4, f5, r6, r7, r8, r9, r10, r11]) (stB x y z)
  | [], _, e4, e5 => ⟨e4, e5, rfl⟩
  | p :: ps, h, e4, e5 => by
    obtain ⟨hC, hta⟩ := h p List.mem_cons_self
    obtain ⟨f4, f5, hr⟩ := lp1_ok h1 e3 r6 r7 r8 r9 r10 r11 ps (fun q hq => h q (List.mem_cons_of_mem _ hq)) (some (.str p.1)) (some (.exc p.2 "at" v1))
    refine ⟨f4, f5, ?_⟩
    have hb := b1_ok (x := x) (y := y) (z := z) (v2 := v2) h1 p.1 p.2 hta hC e3 r6 r7 r8 r9 r10 r11
    show (match some [some (.loc 2), some v1, some v2, e3, some (.str p.1), some (.exc p.2 "at" v1), r6, r7, r8, r9, r10, r11] with
      | none => (.stuck : MF.R F)
      | some env1 => (k92_b1 ad env1 (stB x y z)).bind fun g st1 => match g with
        | .nx env2 => loop fL1 (k92_b1 ad) (ps.map (tuE v1)) env2 st1
        | .ct env2 => loop fL1 (k92_b1 ad) (ps.map (tuE v1)) env2 st1
        | .bk env2 => .ok (.nx env2) st1
        | .rt d => .ok (.rt d) st1) = _
    dsimp only
    rw [hb]
    exact hr
def nmL : List (Str × Addr) := [("BadBook", ad.C_BadBook), ("BadState", ad.C_BadState), ("BadStore", ad.C_BadStore), ("BadText", ad.C_BadText), ("Refused", ad.C_Refused), ("BadBook", ad.C_BadBook), ("BadState", ad.C_BadState), ("BadStore", ad.C_BadStore), ("BadText", ad.C_BadText), ("Refused", ad.C_Refused)]
theorem nmL_ok : ∀ p ∈ nmL, p.2 ∈ ad.xs_at ∧ ∀ e3 r6 r7 r8 r9 r10 r11, k92_ta ad [some (.loc 2), some v1, some v2, e3, some (.str p.1), some (.exc p.2 "at" v1), r6, r7, r8, r9, r10, r11] (stB x y z) = .ok false (stB x y z) := by
  have q : ∀ c ∈ ad.xs_at, c ∈ ad.xs_at := fun _ h => h
  intro p hp
  simp only [nmL, List.mem_cons, List.not_mem_nil, or_false] at hp
  rcases hp with rfl | rfl | rfl | rfl | rfl | rfl | rfl | rfl | rfl | rfl <;> exact ⟨by decide, fun _ _ _ _ _ _ _ => by kernel_rfl⟩
end
end PA
end
section
set_option Elab.async false
set_option linter.all false
set_option maxRecDepth 100000
set_option maxHeartbeats 400000
namespace PA
open PySem PySem.Spec PyProof.Rows L2 MF
theorem seq_ok {m u : MF.Env → S → MF.R F} {env env' : MF.Env} {st st' : S} (h : m env st = .ok (.nx env') st') : sSeq m u env st = u env' st' := by
  unfold sSeq
  rw [h]
  rfl
theorem for_ok {it : MF.Env → S → MF.R (List D)} {f : D → MF.Env → Option MF.Env} {b : MF.Env → S → MF.R F} {env : MF.Env} {st st1 : S} {ds : List D} {r : MF.R F} (h : it env st = .ok ds st1) (h2 : loop f b ds env st1 = r) : sFor it f b env st = r := by
  unfold sFor
  rw [h]
  exact h2
theorem loop_nx {f : D → MF.Env → Option MF.Env} {b : MF.Env → S → MF.R F} {env env1 env2 : MF.Env} {st st1 : S} {d : D} {ds : List D} (h : f d env = some env1) (h2 : b env1 st = .ok (.nx env2) st1) : loop f b (d :: ds) env st = loop f b ds env2 st1 := by
  rw [loop, h]
  dsimp only
  rw [h2]
  rfl
theorem gx {Cs : List Addr} {f : Str} {C : Addr} {d : D} {st : S} (h : C ∈ Cs) : gXat Cs f (.exc C f d) st = .ok d st := by
  unfold gXat
  exact if_pos ⟨rfl, h⟩
theorem if_no {t : MF.Env → S → MF.R Bool} {m : MF.Env → S → MF.R F} {env : MF.Env} {st st1 : S} (h : t env st = .ok false st1) : sIf t m sNil env st = .ok (.nx env) st1 := by
  unfold sIf
  rw [h]
  rfl
theorem ne_no {ma mb : MF.Env → S → MF.R D} {s : Str} {env : MF.Env} {st st1 st2 : S} (hs : PyData.strOk s = true) (h1 : ma env st = .ok (.str s) st1) (h2 : mb env st1 = .ok (.str s) st2) : mTest (mBin (gEq true) ma mb) env st = .ok false st2 := by
  unfold mTest mBin
  rw [h1, ev_bind, h2, ev_bind, eq_same hs]
  rfl
theorem rep_ok {ms : MF.Env → S → MF.R (List D)} {d : D} {s : Str} {env : MF.Env} {st st1 : S} (h : Sh d s) (hm : ms env st = .ok [d] st1) : mCall gRepr ms env st = .ok (.str s) st1 := by
  unfold mCall
  rw [hm]
  exact h.eq st1
def tu5 (v1 v2 : D) : D := .tup [.exc ad.C_TooGreat "most" v2, .exc ad.C_Knotted "kinds" v1, .exc ad.C_NoKind "kind" v2, .exc ad.C_NoCell "cell" v1, .exc ad.C_NoCheck "check" v2]
def fL2 : D → MF.Env → Option MF.Env := gTG 5 (gCo (gN 7) (gCo (gN 8) (gCo (gN 9) (gCo (gN 10) (gCo (gN 11) (gNs []))))))
def eE (v1 v2 : D) (e3 e4 e5 e6 : Option D) : MF.Env := [some (.loc 2), some v1, some v2, e3, e4, e5, e6, some (.exc ad.C_TooGreat "most" v2), some (.exc ad.C_Knotted "kinds" v1), some (.exc ad.C_NoKind "kind" v2), some (.exc ad.C_NoCell "cell" v1), some (.exc ad.C_NoCheck "check" v2)]
def c5a : MF.Env → S → MF.R (List D) := mCons (mLst (mCons (mXat ad.xs_most "most" (mVar 7)) (mCons (mXat ad.xs_kinds "kinds" (mVar 8)) (mCons (mXat ad.xs_kind "kind" (mVar 9)) (mCons (mXat ad.xs_cell "cell" (mVar 10)) (mCons (mXat ad.xs_check "check" (mVar 11)) mNil)))))) mNil
def c5b : MF.Env → S → MF.R (List D) := mCons (mLst (mCons (mVar 2) (mCons (mVar 1) (mCons (mVar 2) (mCons (mVar 1) (mCons (mVar 2) mNil)))))) mNil
section
variable {x y z : Int} {v1 v2 : D} {s1 s2 s3 : Str} {e3 e4 e5 e6 : Option D}
theorem A_ok : k92_A ad (eE v1 v2 e3 e4 e5 e6) (stB x y z) = .ok (.nx (eE v1 v2 e3 e4 e5 e6)) (stB x y z) := by kernel_rfl
theorem B_ok : k92_B ad (eE v1 v2 e3 e4 e5 e6) (stB x y z) = .ok (.nx (eE v1 v2 e3 e4 e5 e6)) (stB x y z) := by kernel_rfl
theorem Ca_ok : c5a (eE v1 v2 e3 e4 e5 e6) (stB x y z) = .ok [.lst [v2, v1, v2, v1, v2]] (stB x y z) := by kernel_rfl
theorem Cb_ok : c5b (eE v1 v2 e3 e4 e5 e6) (stB x y z) = .ok [.lst [v2, v1, v2, v1, v2]] (stB x y z) := by kernel_rfl
theorem C_ok (h : Sh (.lst [v2, v1, v2, v1, v2]) s3) : k92_C ad (eE v1 v2 e3 e4 e5 e6) (stB x y z) = .ok (.nx (eE v1 v2 e3 e4 e5 e6)) (stB x y z) :=
  if_no (ne_no h.ok (rep_ok h Ca_ok) (rep_ok h Cb_ok))
def b2 : MF.Env → S → MF.R F := sSeq (k92_A ad) (sSeq (k92_B ad) (k92_C ad))
theorem b2_ok (h : Sh (.lst [v2, v1, v2, v1, v2]) s3) : b2 (eE v1 v2 e3 e4 e5 e6) (stB x y z) = .ok (.nx (eE v1 v2 e3 e4 e5 e6)) (stB x y z) :=
  (seq_ok A_ok).trans ((seq_ok B_ok).trans (C_ok h))
theorem lp2_ok (h : Sh (.lst [v2, v1, v2, v1, v2]) s3) (r7 r8 r9 r10 r11 : Option D) : loop fL2 b2 [tu5 v1 v2, tu5 v1 v2] [some (.loc 2), some v1, some v2, e3, e4, e5, e6, r7, r8, r9, r10, r11] (stB x y z) = .ok (.nx (eE v1 v2 e3 e4 e5 e6)) (stB x y z) :=
  (loop_nx (env1 := eE v1 v2 e3 e4 e5 e6) rfl (b2_ok h)).trans ((loop_nx (env1 := eE v1 v2 e3 e4 e5 e6) rfl (b2_ok h)).trans rfl)
end
def told (v1 : D) : D := .lst (nmL.map (tuE v1))
section
variable {x y z : Int} {v1 v2 : D} {f4 f5 : Option D}
theorem et_ok : k92_t1 ad [some (.loc 2), some v1, some v2, none, none, none, none, none, none, none, none, none] (stB x y z) = .ok (.nx [some (.loc 2), some v1, some v2, some (.lst [tuE v1 ("BadBook", ad.C_BadBook), tuE v1 ("BadState", ad.C_BadState), tuE v1 ("BadStore", ad.C_BadStore), tuE v1 ("BadText", ad.C_BadText)]), none, none, none, none, none, none, none, none]) (stB x y z) := by kernel_rfl
theorem et2_ok : k92_t2 ad [some (.loc 2), some v1, some v2, some (.lst [tuE v1 ("BadBook", ad.C_BadBook), tuE v1 ("BadState", ad.C_BadState), tuE v1 ("BadStore", ad.C_BadStore), tuE v1 ("BadText", ad.C_BadText)]), none, none, none, none, none, none, none, none] (stB x y z) = .ok (.nx [some (.loc 2), some v1, some v2, some (.lst [tuE v1 ("BadBook", ad.C_BadBook), tuE v1 ("BadState", ad.C_BadState), tuE v1 ("BadStore", ad.C_BadStore), tuE v1 ("BadText", ad.C_BadText), tuE v1 ("Refused", ad.C_Refused), tuE v1 ("BadBook", ad.C_BadBook), tuE v1 ("BadState", ad.C_BadState)]), none, none, none, none, none, none, none, none]) (stB x y z) := by kernel_rfl
theorem et3_ok : k92_t3 ad [some (.loc 2), some v1, some v2, some (.lst [tuE v1 ("BadBook", ad.C_BadBook), tuE v1 ("BadState", ad.C_BadState), tuE v1 ("BadStore", ad.C_BadStore), tuE v1 ("BadText", ad.C_BadText), tuE v1 ("Refused", ad.C_Refused), tuE v1 ("BadBook", ad.C_BadBook), tuE v1 ("BadState", ad.C_BadState)]), none, none, none, none, none, none, none, none] (stB x y z) = .ok (.nx [some (.loc 2), some v1, some v2, some (told v1), none, none, none, none, none, none, none, none]) (stB x y z) := by kernel_rfl
theorem en_ok : k92_nm ad [some (.loc 2), some v1, some v2, some (told v1), f4, f5, none, none, none, none, none, none] (stB x y z) = .ok (.nx [some (.loc 2), some v1, some v2, some (told v1), f4, f5, some (tu5 v1 v2), none, none, none, none, none]) (stB x y z) := by kernel_rfl
def it2 : MF.Env → S → MF.R (List D) := itS (mTup (mCons (mTup (mCons (mExc ad.C_TooGreat "most" (mVar 2)) (mCons (mExc ad.C_Knotted "kinds" (mVar 1)) (mCons (mExc ad.C_NoKind "kind" (mVar 2)) (mCons (mExc ad.C_NoCell "cell" (mVar 1)) (mCons (mExc ad.C_NoCheck "check" (mVar 2)) mNil)))))) (mCons (mVar 6) mNil)))
theorem ei_ok : it2 [some (.loc 2), some v1, some v2, some (told v1), f4, f5, some (tu5 v1 v2), none, none, none, none, none] (stB x y z) = .ok [tu5 v1 v2, tu5 v1 v2] (stB x y z) := by kernel_rfl
theorem i1_ok : itS (mVar 3) [some (.loc 2), some v1, some v2, some (told v1), f4, f5, none, none, none, none, none, none] (stB x y z) = .ok (nmL.map (tuE v1)) (stB x y z) := by kernel_rfl
theorem lp1_eq : k92_lp1 ad = sFor (itS (mVar 3)) fL1 (k92_b1 ad) := by kernel_rfl
theorem lp2_eq : k92_lp2 ad = sFor it2 fL2 b2 := by kernel_rfl
def rest92 : MF.Env → S → MF.R F := sSeq (k92_par ad) (sSeq (k92_t1 ad) (sSeq (k92_t2 ad) (sSeq (k92_t3 ad) (sSeq (k92_lp1 ad) (sSeq (k92_nm ad) (sSeq (k92_lp2 ad) (k92_ret ad)))))))
theorem g92_eq : g92 ad = fnD 12 rest92 := by kernel_rfl
end
theorem kept_ok (x y z : Int) (h0 : 0 ≤ x) : ∃ u v w : Int, g92 ad [.loc 2] (stB x y z) = .ok (.bl true) (stB u v w) := by
  obtain ⟨v1, a0, a1, a2, gv1, ha, e1⟩ := value_ok ad (stB x y z) 2 x y z (by show 2 < 3; decide) h0
  obtain ⟨v2, c0, c1, c2, gv2, hc, e2⟩ := value_ok ad (stB x y z) 2 a0 a1 a2 (by show 2 < 3; decide) ha
  rw [stB_bx, stB_bx] at e1 e2
  obtain ⟨s1, h1⟩ := gv1.sh
  obtain ⟨s3, h3⟩ := gv2.sh5 gv1
  have q1 : kCall 1 (g90 ad) [.loc 2] (stB x y z) = .ok v1 (stB a0 a1 a2) := (ev_call (np := 1) rfl).trans e1
  have q2 : kCall 1 (g90 ad) [.loc 2] (stB a0 a1 a2) = .ok v2 (stB c0 c1 c2) := (ev_call (np := 1) rfl).trans e2
  have epar : k92_par ad [some (.loc 2), none, none, none, none, none, none, none, none, none, none, none] (stB x y z) = .ok (.nx [some (.loc 2), some v1, some v2, none, none, none, none, none, none, none, none, none]) (stB c0 c1 c2) := by
    unfold k92_par
    simp only [sPar, mCons, mCall, mNil, mVar, ev_bind, List.getElem?_cons_succ, List.getElem?_cons_zero, q1, q2, List.set_cons_succ, List.set_cons_zero]
  obtain ⟨f4, f5, el⟩ := lp1_ok (x := c0) (y := c1) (z := c2) (v2 := v2) h1 (some (told v1)) none none none none none none nmL nmL_ok none none
  have el1 : k92_lp1 ad [some (.loc 2), some v1, some v2, some (told v1), none, none, none, none, none, none, none, none] (stB c0 c1 c2) = .ok (.nx [some (.loc 2), some v1, some v2, some (told v1), f4, f5, none, none, none, none, none, none]) (stB c0 c1 c2) := by
    rw [lp1_eq]
    exact for_ok i1_ok el
  have el2 := lp2_ok (x := c0) (y := c1) (z := c2) (e3 := some (told v1)) (e4 := f4) (e5 := f5) (e6 := some (tu5 v1 v2)) h3 none none none none none
  have el3 : k92_lp2 ad [some (.loc 2), some v1, some v2, some (told v1), f4, f5, some (tu5 v1 v2), none, none, none, none, none] (stB c0 c1 c2) = .ok (.nx (eE v1 v2 (some (told v1)) f4 f5 (some (tu5 v1 v2)))) (stB c0 c1 c2) := by
    rw [lp2_eq]
    exact for_ok ei_ok el2
  have go : rest92 [some (.loc 2), none, none, none, none, none, none, none, none, none, none, none] (stB x y z) = .ok (.rt (.bl true)) (stB c0 c1 c2) :=
    (seq_ok epar).trans ((seq_ok et_ok).trans ((seq_ok et2_ok).trans ((seq_ok et3_ok).trans ((seq_ok el1).trans ((seq_ok en_ok).trans ((seq_ok el3).trans rfl))))))
  refine ⟨c0, c1, c2, ?_⟩
  rw [g92_eq]
  show (match rest92 [some (.loc 2), none, none, none, none, none, none, none, none, none, none, none] (stB x y z) with
    | .ok (.rt d) st' => fin (stB x y z).length d st'
    | .ok (.nx _) st' => fin (stB x y z).length .non st'
    | .ok _ _ => .stuck
    | .ex c f p st' => finX (stB x y z).length c f p st'
    | .stuck => .stuck) = _
  rw [go]
  exact fin_same (Nat.le_refl _)
end PA
end
section
set_option Elab.async false
set_option linter.all false
set_option maxRecDepth 100000
set_option maxHeartbeats 400000
namespace PA
open PySem PySem.Spec PyProof.Rows L2 MF
def k95_a1 (a : Ad) : MF.Env → S → MF.R F := sAsg (gN 2) (mCall (kCall 2 (g87 a)) (mCons (mVar 0) (mCons (mVar 1) mNil)))
def k95_a2 (a : Ad) : MF.Env → S → MF.R F := sAsg (gN 3) (mBin (gAdd) (mC (.int 1)) (mCall (kCall 2 (g88 a)) (mCons (mVar 2) (mCons (mC (.int 3)) mNil))))
def k95_a3 (a : Ad) : MF.Env → S → MF.R F := sIf (tNot1 (mTest (mCall (kCall 1 (g92 a)) (mCons (mVar 2) mNil)))) (sRet (mC (.bl false))) sNil
def k95_d1 (a : Ad) : MF.Env → S → MF.R F := sAsg (gN 4) (mLst (mCons (mTup (mCons (mC (.str "BadBook")) (mCons (mVar 3) mNil))) (mCons (mTup (mCons (mC (.str "BadStore")) (mCons (mVar 3) mNil))) (mCons (mTup (mCons (mC (.str "BadState")) (mCons (mVar 3) mNil))) (mCons (mTup (mCons (mC (.str "BadText")) (mCons (mBin (gAdd) (mVar 3) (mC (.int 1))) mNil))) (mCons (mTup (mCons (mC (.str "Refused")) (mCons (mBin (gAdd) (mLst (mCons (mC (.int 0)) (mCons (mC (.int 1)) mNil))) (mBin (gMul) (mLst (mCons (mC (.int 0)) mNil)) (mC (.int 6)))) mNil))) mNil))))))
def k95_d2 (a : Ad) : MF.Env → S → MF.R F := sAsg (gN 4) (mBin (gAdd) (mVar 4) (mLst (mCons (mTup (mCons (mC (.str "Refused")) (mCons (mBin (gAdd) (mC (.int 30)) (mVar 3)) mNil))) mNil)))
def k95_lA (a : Ad) : MF.Env → S → MF.R F := sFor (itRange (mCons (mCall gLen (mCons (mVar 4) mNil)) mNil)) (gN 5) (sSeq (sAsg (gTG 2 (gCo (gN 6) (gCo (gN 7) (gNs [])))) (mBin gIx (mVar 4) (mVar 5))) (sIf (mTest (mBin (gEq true) (mCall gRepr (mCons (mCall (kCall 2 (g94 a)) (mCons (mVar 5) (mCons (mVar 3) mNil))) mNil)) (mCall gRepr (mCons (mLst (mCons (mLst (mCons (mVar 6) (mCons (mC (.str "BatchError")) (mCons (mC (.str "ValueError")) mNil)))) (mCons (mVar 7) mNil))) mNil)))) (sRet (mC (.bl false))) sNil))
def k95_lB (a : Ad) : MF.Env → S → MF.R F := sFor (itS (mTup (mCons (mTup (mCons (mC (.int 6)) (mCons (mC (.str "NoKind")) (mCons (mTup (mCons (mC (.int 0)) (mCons (mC (.int 1)) (mCons (mBin (gAdd) (mVar 3) (mC (.int 1))) mNil)))) mNil)))) (mCons (mTup (mCons (mC (.int 7)) (mCons (mC (.str "NoCell")) (mCons (mBin (gAdd) (mC (.int 7)) (mVar 3)) mNil)))) (mCons (mTup (mCons (mC (.int 8)) (mCons (mC (.str "NoCheck")) (mCons (mVar 3) mNil)))) mNil))))) (gTG 3 (gCo (gN 5) (gCo (gN 6) (gCo (gN 7) (gNs []))))) (sIf (mTest (mBin (gEq true) (mCall gRepr (mCons (mCall (kCall 2 (g94 a)) (mCons (mVar 5) (mCons (mVar 3) mNil))) mNil)) (mCall gRepr (mCons (mLst (mCons (mLst (mCons (mVar 6) (mCons (mC (.str "KeyError")) mNil))) (mCons (mVar 7) mNil))) mNil)))) (sRet (mC (.bl false))) sNil)
def tail95 : MF.Env → S → MF.R F := sSeq (k95_d1 ad) (sSeq (k95_d2 ad) (sSeq (k95_lA ad) (k95_lB ad)))
def dues (l : Int) : D := .lst [.tup [.str "BadBook", .int l], .tup [.str "BadStore", .int l], .tup [.str "BadState", .int l], .tup [.str "BadText", .int (l + 1)], .tup [.str "Refused", .lst [.int 0, .int 1, .int 0, .int 0, .int 0, .int 0, .int 0, .int 0]], .tup [.str "Refused", .int (30 + l)]]
def envE (sc : D) (k l : Int) : MF.Env := [some sc, some (.int k), some (.loc 2), some (.int l), some (dues l), some (.int 8), some (.str "NoCheck"), some (.int l)]
section
variable {sc : D} {k : Int} {e4 e5 e6 e7 : Option D} {x y z : Int}
theorem tail1 : tail95 [some sc, some (.int k), some (.loc 2), some (.int 1), e4, e5, e6, e7] (stB x y z) = .ok (.nx (envE sc k 1)) (stB x y z) := by kernel_rfl
theorem tail2 : tail95 [some sc, some (.int k), some (.loc 2), some (.int 2), e4, e5, e6, e7] (stB x y z) = .ok (.nx (envE sc k 2)) (stB x y z) := by kernel_rfl
theorem tail3 : tail95 [some sc, some (.int k), some (.loc 2), some (.int 3), e4, e5, e6, e7] (stB x y z) = .ok (.nx (envE sc k 3)) (stB x y z) := by kernel_rfl
end
def st0 : S := [.tab ad.p_gs qgs, .tab ad.p_ask qAsk]
def blk95 : MF.Env → S → MF.R F := sSeq (k95_a1 ad) (sSeq (k95_a2 ad) (sSeq (k95_a3 ad) tail95))
theorem low_ints (n : Nat) : ∀ ns : List Int, belows n (ns.map D.int) = true
  | [] => rfl
  | m :: ns => by
    show (D.low n (.int m) && belows n (ns.map D.int)) = true
    rw [low_ints n ns]
    rfl
theorem call_ok {np : Nat} {g : List D → S → MF.R D} {ms : MF.Env → S → MF.R (List D)} {ds : List D} {d : D} {env : MF.Env} {st st1 st2 : S} (hm : ms env st = .ok ds st1) (hl : ds.length = np) (hg : g ds st1 = .ok d st2) : mCall (kCall np g) ms env st = .ok d st2 := by
  unfold mCall
  rw [hm, ev_bind, ev_call hl, hg]
theorem asg_ok {f : D → MF.Env → Option MF.Env} {m : MF.Env → S → MF.R D} {d : D} {env env' : MF.Env} {st st1 : S} (hm : m env st = .ok d st1) (hf : f d env = some env') : sAsg f m env st = .ok (.nx env') st1 := by
  unfold sAsg
  rw [hm, ev_bind]
  unfold kSet
  rw [hf]
theorem body_ok (ns : List Int) (k : Nat) (e2 e3 e4 e5 e6 e7 : Option D) : ∃ (l x y z : Int), (l = 1 ∨ l = 2 ∨ l = 3) ∧ blk95 [some (.scr (ns.map .int)), some (.int k), e2, e3, e4, e5, e6, e7] st0 = .ok (.nx (envE (.scr (ns.map .int)) k l)) (stB x y z) := by
  obtain ⟨b0, b1, hb, hbox⟩ := box_ok ad ns k st0
  have h1 : k95_a1 ad [some (.scr (ns.map .int)), some (.int k), e2, e3, e4, e5, e6, e7] st0 = .ok (.nx [some (.scr (ns.map .int)), some (.int k), some (.loc 2), e3, e4, e5, e6, e7]) (stB b0 b1 0) :=
    asg_ok (call_ok (ds := [.scr (ns.map .int), .int k]) rfl rfl hbox) rfl
  obtain ⟨r, c0, c1, c2, r0, r1, hc, htake⟩ := take_ok ad (stB b0 b1 0) 2 b0 b1 0 3 (by show 2 < 3; decide) hb (by decide) (by decide)
  rw [stB_bx, stB_bx] at htake
  have h2 : k95_a2 ad [some (.scr (ns.map .int)), some (.int k), some (.loc 2), e3, e4, e5, e6, e7] (stB b0 b1 0) = .ok (.nx [some (.scr (ns.map .int)), some (.int k), some (.loc 2), some (.int (1 + r)), e4, e5, e6, e7]) (stB c0 c1 c2) := by
    refine asg_ok (d := .int (1 + r)) ?_ rfl
    have hcall := call_ok (np := 2) (g := g88 ad) (ms := mCons (mVar 2) (mCons (mC (.int 3)) mNil)) (env := [some (.scr (ns.map .int)), some (.int k), some (.loc 2), e3, e4, e5, e6, e7]) (st := stB b0 b1 0) (ds := [.loc 2, .int 3]) rfl rfl htake
    show (R.ok (D.int 1) (stB b0 b1 0)).bind (fun d st1 => (mCall (kCall 2 (g88 ad)) (mCons (mVar 2) (mCons (mC (.int 3)) mNil)) [some (.scr (ns.map .int)), some (.int k), some (.loc 2), e3, e4, e5, e6, e7] st1).bind fun e st2 => gAdd d e st2) = _
    rw [ev_bind, hcall, ev_bind]
    rfl
  obtain ⟨u, v, w, hk⟩ := kept_ok c0 c1 c2 hc
  have h3 : k95_a3 ad [some (.scr (ns.map .int)), some (.int k), some (.loc 2), some (.int (1 + r)), e4, e5, e6, e7] (stB c0 c1 c2) = .ok (.nx [some (.scr (ns.map .int)), some (.int k), some (.loc 2), some (.int (1 + r)), e4, e5, e6, e7]) (stB u v w) := by
    refine if_no ?_
    have hcall := call_ok (np := 1) (g := g92 ad) (ms := mCons (mVar 2) mNil) (env := [some (.scr (ns.map .int)), some (.int k), some (.loc 2), some (.int (1 + r)), e4, e5, e6, e7]) (st := stB c0 c1 c2) (ds := [.loc 2]) rfl rfl hk
    unfold tNot1 mTest
    rw [hcall]
    rfl
  refine ⟨1 + r, u, v, w, by omega, ?_⟩
  have h4 : tail95 [some (.scr (ns.map .int)), some (.int k), some (.loc 2), some (.int (1 + r)), e4, e5, e6, e7] (stB u v w) = .ok (.nx (envE (.scr (ns.map .int)) k (1 + r))) (stB u v w) := by
    have hr : r = 0 ∨ r = 1 ∨ r = 2 := by omega
    rcases hr with rfl | rfl | rfl
    · exact tail1
    · exact tail2
    · exact tail3
  exact (seq_ok h1).trans ((seq_ok h2).trans ((seq_ok h3).trans h4))
def envF (sc : D) (k l x y z : Int) : MF.Env := [some sc, some (.int k), some (.lst [.int x, .int y, .int z]), some (.int l), some (dues l), some (.int 8), some (.str "NoCheck"), some (.int l)]
theorem pick_low {n : Nat} {d : D} {st : S} (h : d.low n = true) : pick n d st = d := if_pos h
theorem pick_box {x y z : Int} : pick 2 (.loc 2) (stB x y z) = .lst [.int x, .int y, .int z] := rfl
theorem dues_low (l : Int) : (dues l).low 2 = true := rfl
theorem frz_ok (ns : List Int) (k l x y z : Int) : frzE 2 (envE (.scr (ns.map .int)) k l) (stB x y z) = envF (.scr (ns.map .int)) k l x y z := by
  unfold frzE envE envF
  have h1 : (D.scr (ns.map .int)).low 2 = true := low_ints 2 ns
  simp only [List.map_cons, List.map_nil, Option.map_some, pick_low h1, pick_box, pick_low (dues_low l)]
  rfl
theorem okF_ok (ns : List Int) (k l x y z : Int) : okF 2 2 (envE (.scr (ns.map .int)) k l) (stB x y z) = true := by
  unfold okF
  rw [frz_ok]
  have h1 : (D.scr (ns.map .int)).low 2 = true := low_ints 2 ns
  have h2 : (envF (.scr (ns.map .int)) k l x y z).all (lowO 2) = true := by
    unfold envF
    simp only [List.all_cons, List.all_nil, lowO, h1, dues_low, Bool.true_and, Bool.and_true]
    rfl
  rw [h2]
  rfl
theorem turn_ok (ns : List Int) (k : Nat) (e2 e3 e4 e5 e6 e7 : Option D) : ∃ (l x y z : Int), sBlkF 2 blk95 [some (.scr (ns.map .int)), some (.int k), e2, e3, e4, e5, e6, e7] st0 = .ok (.nx (envF (.scr (ns.map .int)) k l x y z)) st0 := by
  obtain ⟨l, x, y, z, _, h⟩ := body_ok ns k e2 e3 e4 e5 e6 e7
  refine ⟨l, x, y, z, ?_⟩
  unfold sBlkF
  rw [h]
  show (if okF 2 2 (envE (.scr (ns.map .int)) k l) (stB x y z) = true then (.ok (.nx (frzE 2 (envE (.scr (ns.map .int)) k l) (stB x y z))) ((stB x y z).take 2) : MF.R F) else .ok (.nx (envE (.scr (ns.map .int)) k l)) (stB x y z)) = _
  rw [if_pos (okF_ok ns k l x y z), frz_ok]
  rfl
def rest95 : MF.Env → S → MF.R F := sSeq (sFor (itRange (mCons (mC (.int 3)) mNil)) (gN 1) (sBlkF 2 blk95)) (sRet (mC (.bl true)))
theorem g95_eq : g95 ad = fnD 8 rest95 := by kernel_rfl
theorem law_true (ns : List Int) : g95 ad [.scr (ns.map D.int)] st0 = .ok (.bl true) st0 := by
  obtain ⟨l0, x0, y0, z0, t0⟩ := turn_ok ns 0 none none none none none none
  obtain ⟨l1, x1, y1, z1, t1⟩ := turn_ok ns 1 (some (.lst [.int x0, .int y0, .int z0])) (some (.int l0)) (some (dues l0)) (some (.int 8)) (some (.str "NoCheck")) (some (.int l0))
  obtain ⟨l2, x2, y2, z2, t2⟩ := turn_ok ns 2 (some (.lst [.int x1, .int y1, .int z1])) (some (.int l1)) (some (dues l1)) (some (.int 8)) (some (.str "NoCheck")) (some (.int l1))
  have hl : loop (gN 1) (sBlkF 2 blk95) [.int 0, .int 1, .int 2] [some (.scr (ns.map .int)), none, none, none, none, none, none, none] st0 = .ok (.nx (envF (.scr (ns.map .int)) 2 l2 x2 y2 z2)) st0 :=
    (loop_nx (env1 := [some (.scr (ns.map .int)), some (.int (0 : Nat)), none, none, none, none, none, none]) rfl t0).trans
      ((loop_nx (env1 := [some (.scr (ns.map .int)), some (.int (1 : Nat)), some (.lst [.int x0, .int y0, .int z0]), some (.int l0), some (dues l0), some (.int 8), some (.str "NoCheck"), some (.int l0)]) rfl t1).trans
        ((loop_nx (env1 := [some (.scr (ns.map .int)), some (.int (2 : Nat)), some (.lst [.int x1, .int y1, .int z1]), some (.int l1), some (dues l1), some (.int 8), some (.str "NoCheck"), some (.int l1)]) rfl t2).trans rfl))
  have go : rest95 [some (.scr (ns.map .int)), none, none, none, none, none, none, none] st0 = .ok (.rt (.bl true)) st0 :=
    (seq_ok (for_ok (ds := [.int 0, .int 1, .int 2]) rfl hl)).trans rfl
  rw [g95_eq]
  show (match rest95 [some (.scr (ns.map .int)), none, none, none, none, none, none, none] st0 with
    | .ok (.rt d) st' => fin st0.length d st'
    | .ok (.nx _) st' => fin st0.length .non st'
    | .ok _ _ => .stuck
    | .ex c f p st' => finX st0.length c f p st'
    | .stuck => .stuck) = _
  rw [go]
  exact fin_same (Nat.le_refl _)
end PA
end
open PySem PySem.W PyProof.Rows in
set_option maxRecDepth 100000 in
set_option maxHeartbeats 0 in
theorem PySem.Challenge.cw_makefirst_k00_errors_and_what_they_keep_holds : PySem.Challenge.rw_makefirst_k00_errors_and_what_they_keep.Holds := by
  w_on; o_law; k_head; (case hw => w_witness2)
  k_fill
  refine Att.attach_callB (n := 63) rfl rfl fun w9 s0 s1 mg mb fa o pm cd doc a vs ns G Y ho hd hcd hmg hobj hints hlen hbits hg => ?_
  have KX := PySem.W.km_in_of Y
  have TT := PySem.W.km_tabs_of Y
  have GG := G.T.g
  have e9 := hmg.symm.trans (PySem.W.mg_of (v := .ref 736) KX GG (by kernel_rfl))
  cases e9
  refine' (fun z => ?fin) (PA.law_at (P := PySem.Challenge.pw_makefirst_k00_errors_and_what_they_keep) (w := w9) (c1 := ?cc1) (c2 := ?cc2) KX GG (by kernel_rfl) ?h14 ?h15 ?h16 ?h18 ?h17 ?h25 ?h28 ?h27 ?h26 ?h29 ?h30 ?h31 ?h33 ?h34 ?h24_2 ?h24_0 ?h51 ?h52 ?h53 ?h50_0 ?h54 ?h55 ?h56 ?h57 ?h58 ?h59 ?h60 ?h61 ?h62 ?h63 ?h66 ?h65_0 ?h67 ?h69 ?h71 ?h43 ?h44 ?h45 ?h73 ?h74 ?h76 ?h79 ?h80 ?h81 ?h82 ?h83 ?h84 ?h85 ?h87 ?h88 ?h89 ?h90 ?h91 ?h92 ?h93 ?h94 ?h95 ?i3 ?x3 ?i4 ?x4 ?i5 ?x5 ?i6 ?x6 ?i7 ?x7 ?i8 ?x8 ?i9 ?x9 ?i10 ?x10 ?i11 ?x11 ?i12 ?x12)
  (case h71 => (refine' MF.ftc_mk ?ql ?qc ?qk; (case ql => rfl); (case qc => kernel_rfl); (case qk => kernel_rfl)))
  (case h93 => (refine' MF.ftc_mk ?ql ?qc ?qk; (case ql => rfl); (case qc => kernel_rfl); (case qk => kernel_rfl)))
  (case h14 => (refine' MF.ft_mk ?ql ?qc ?qk; (case ql => rfl); (case qc => kernel_rfl); (case qk => kernel_rfl)))
  (case h15 => (refine' MF.ft_mk ?ql ?qc ?qk; (case ql => rfl); (case qc => kernel_rfl); (case qk => kernel_rfl)))
  (case h16 => (refine' MF.ft_mk ?ql ?qc ?qk; (case ql => rfl); (case qc => kernel_rfl); (case qk => kernel_rfl)))
  (case h18 => (refine' MF.ft_mk ?ql ?qc ?qk; (case ql => rfl); (case qc => kernel_rfl); (case qk => kernel_rfl)))
  (case h17 => (refine' MF.ft_mk ?ql ?qc ?qk; (case ql => rfl); (case qc => kernel_rfl); (case qk => kernel_rfl)))
  (case h25 => (refine' MF.ft_mk ?ql ?qc ?qk; (case ql => rfl); (case qc => kernel_rfl); (case qk => kernel_rfl)))
  (case h28 => (refine' MF.ft_mk ?ql ?qc ?qk; (case ql => rfl); (case qc => kernel_rfl); (case qk => kernel_rfl)))
  (case h27 => (refine' MF.ft_mk ?ql ?qc ?qk; (case ql => rfl); (case qc => kernel_rfl); (case qk => kernel_rfl)))
  (case h26 => (refine' MF.ft_mk ?ql ?qc ?qk; (case ql => rfl); (case qc => kernel_rfl); (case qk => kernel_rfl)))
  (case h29 => (refine' MF.ft_mk ?ql ?qc ?qk; (case ql => rfl); (case qc => kernel_rfl); (case qk => kernel_rfl)))
  (case h30 => (refine' MF.ft_mk ?ql ?qc ?qk; (case ql => rfl); (case qc => kernel_rfl); (case qk => kernel_rfl)))
  (case h31 => (refine' MF.ft_mk ?ql ?qc ?qk; (case ql => rfl); (case qc => kernel_rfl); (case qk => kernel_rfl)))
  (case h33 => (refine' MF.ft_mk ?ql ?qc ?qk; (case ql => rfl); (case qc => kernel_rfl); (case qk => kernel_rfl)))
  (case h34 => (refine' MF.ft_mk ?ql ?qc ?qk; (case ql => rfl); (case qc => kernel_rfl); (case qk => kernel_rfl)))
  (case h24_2 => (refine' MF.ft_mk ?ql ?qc ?qk; (case ql => rfl); (case qc => kernel_rfl); (case qk => kernel_rfl)))
  (case h24_0 => (refine' MF.fd_mk ?ql ?qT ?qe ?qc ?qk; (case ql => rfl); (case qT => rfl); (case qe => rfl); (case qc => kernel_rfl); (case qk => kernel_rfl)))
  (case h51 => (refine' MF.ft_mk ?ql ?qc ?qk; (case ql => rfl); (case qc => kernel_rfl); (case qk => kernel_rfl)))
  (case h52 => (refine' MF.ft_mk ?ql ?qc ?qk; (case ql => rfl); (case qc => kernel_rfl); (case qk => kernel_rfl)))
  (case h53 => (refine' MF.ft_mk ?ql ?qc ?qk; (case ql => rfl); (case qc => kernel_rfl); (case qk => kernel_rfl)))
  (case h50_0 => (refine' MF.fd_mk ?ql ?qT ?qe ?qc ?qk; (case ql => rfl); (case qT => rfl); (case qe => rfl); (case qc => kernel_rfl); (case qk => kernel_rfl)))
  (case h54 => (refine' MF.ft_mk ?ql ?qc ?qk; (case ql => rfl); (case qc => kernel_rfl); (case qk => kernel_rfl)))
  (case h55 => (refine' MF.ft_mk ?ql ?qc ?qk; (case ql => rfl); (case qc => kernel_rfl); (case qk => kernel_rfl)))
  (case h56 => (refine' MF.ft_mk ?ql ?qc ?qk; (case ql => rfl); (case qc => kernel_rfl); (case qk => kernel_rfl)))
  (case h57 => (refine' MF.ft_mk ?ql ?qc ?qk; (case ql => rfl); (case qc => kernel_rfl); (case qk => kernel_rfl)))
  (case h58 => (refine' MF.ft_mk ?ql ?qc ?qk; (case ql => rfl); (case qc => kernel_rfl); (case qk => kernel_rfl)))
  (case h59 => (refine' MF.ft_mk ?ql ?qc ?qk; (case ql => rfl); (case qc => kernel_rfl); (case qk => kernel_rfl)))
  (case h60 => (refine' MF.ft_mk ?ql ?qc ?qk; (case ql => rfl); (case qc => kernel_rfl); (case qk => kernel_rfl)))
  (case h61 => (refine' MF.ft_mk ?ql ?qc ?qk; (case ql => rfl); (case qc => kernel_rfl); (case qk => kernel_rfl)))
  (case h62 => (refine' MF.ft_mk ?ql ?qc ?qk; (case ql => rfl); (case qc => kernel_rfl); (case qk => kernel_rfl)))
  (case h63 => (refine' MF.ft_mk ?ql ?qc ?qk; (case ql => rfl); (case qc => kernel_rfl); (case qk => kernel_rfl)))
  (case h66 => (refine' MF.ft_mk ?ql ?qc ?qk; (case ql => rfl); (case qc => kernel_rfl); (case qk => kernel_rfl)))
  (case h65_0 => (refine' MF.ft_mk ?ql ?qc ?qk; (case ql => rfl); (case qc => kernel_rfl); (case qk => kernel_rfl)))
  (case h67 => (refine' MF.ft_mk ?ql ?qc ?qk; (case ql => rfl); (case qc => kernel_rfl); (case qk => kernel_rfl)))
  (case h69 => (refine' MF.ft_mk ?ql ?qc ?qk; (case ql => rfl); (case qc => kernel_rfl); (case qk => kernel_rfl)))
  (case h43 => (refine' MF.ft_mk ?ql ?qc ?qk; (case ql => rfl); (case qc => kernel_rfl); (case qk => kernel_rfl)))
  (case h44 => (refine' MF.ft_mk ?ql ?qc ?qk; (case ql => rfl); (case qc => kernel_rfl); (case qk => kernel_rfl)))
  (case h45 => (refine' MF.ft_mk ?ql ?qc ?qk; (case ql => rfl); (case qc => kernel_rfl); (case qk => kernel_rfl)))
  (case h73 => (refine' MF.ft_mk ?ql ?qc ?qk; (case ql => rfl); (case qc => kernel_rfl); (case qk => kernel_rfl)))
  (case h74 => (refine' MF.ft_mk ?ql ?qc ?qk; (case ql => rfl); (case qc => kernel_rfl); (case qk => kernel_rfl)))
  (case h76 => (refine' MF.ft_mk ?ql ?qc ?qk; (case ql => rfl); (case qc => kernel_rfl); (case qk => kernel_rfl)))
  (case h79 => (refine' MF.ft_mk ?ql ?qc ?qk; (case ql => rfl); (case qc => kernel_rfl); (case qk => kernel_rfl)))
  (case h80 => (refine' MF.ft_mk ?ql ?qc ?qk; (case ql => rfl); (case qc => kernel_rfl); (case qk => kernel_rfl)))
  (case h81 => (refine' MF.ft_mk ?ql ?qc ?qk; (case ql => rfl); (case qc => kernel_rfl); (case qk => kernel_rfl)))
  (case h82 => (refine' MF.ft_mk ?ql ?qc ?qk; (case ql => rfl); (case qc => kernel_rfl); (case qk => kernel_rfl)))
  (case h83 => (refine' MF.ft_mk ?ql ?qc ?qk; (case ql => rfl); (case qc => kernel_rfl); (case qk => kernel_rfl)))
  (case h84 => (refine' MF.ft_mk ?ql ?qc ?qk; (case ql => rfl); (case qc => kernel_rfl); (case qk => kernel_rfl)))
  (case h85 => (refine' MF.ft_mk ?ql ?qc ?qk; (case ql => rfl); (case qc => kernel_rfl); (case qk => kernel_rfl)))
  (case h87 => (refine' MF.ft_mk ?ql ?qc ?qk; (case ql => rfl); (case qc => kernel_rfl); (case qk => kernel_rfl)))
  (case h88 => (refine' MF.ft_mk ?ql ?qc ?qk; (case ql => rfl); (case qc => kernel_rfl); (case qk => kernel_rfl)))
  (case h89 => (refine' MF.ft_mk ?ql ?qc ?qk; (case ql => rfl); (case qc => kernel_rfl); (case qk => kernel_rfl)))
  (case h90 => (refine' MF.ft_mk ?ql ?qc ?qk; (case ql => rfl); (case qc => kernel_rfl); (case qk => kernel_rfl)))
  (case h91 => (refine' MF.ft_mk ?ql ?qc ?qk; (case ql => rfl); (case qc => kernel_rfl); (case qk => kernel_rfl)))
  (case h92 => (refine' MF.ft_mk ?ql ?qc ?qk; (case ql => rfl); (case qc => kernel_rfl); (case qk => kernel_rfl)))
  (case h94 => (refine' MF.ft_mk ?ql ?qc ?qk; (case ql => rfl); (case qc => kernel_rfl); (case qk => kernel_rfl)))
  (case h95 => (refine' MF.ft_mk ?ql ?qc ?qk; (case ql => rfl); (case qc => kernel_rfl); (case qk => kernel_rfl)))
  (case i3 => (refine' MF.ft_mk ?ql ?qc ?qk; (case ql => rfl); (case qc => kernel_rfl); (case qk => kernel_rfl)))
  (case x3 => exact ⟨_, _, _, _, _, _, _, _, _, _, _, _, _, _, by rfl⟩)
  (case i4 => (refine' MF.ft_mk ?ql ?qc ?qk; (case ql => rfl); (case qc => kernel_rfl); (case qk => kernel_rfl)))
  (case x4 => exact ⟨_, _, _, _, _, _, _, _, _, _, _, _, _, _, by rfl⟩)
  (case i5 => (refine' MF.ft_mk ?ql ?qc ?qk; (case ql => rfl); (case qc => kernel_rfl); (case qk => kernel_rfl)))
  (case x5 => exact ⟨_, _, _, _, _, _, _, _, _, _, _, _, _, _, by rfl⟩)
  (case i6 => (refine' MF.ft_mk ?ql ?qc ?qk; (case ql => rfl); (case qc => kernel_rfl); (case qk => kernel_rfl)))
  (case x6 => exact ⟨_, _, _, _, _, _, _, _, _, _, _, _, _, _, by rfl⟩)
  (case i7 => (refine' MF.ft_mk ?ql ?qc ?qk; (case ql => rfl); (case qc => kernel_rfl); (case qk => kernel_rfl)))
  (case x7 => exact ⟨_, _, _, _, _, _, _, _, _, _, _, _, _, _, by rfl⟩)
  (case i8 => (refine' MF.ft_mk ?ql ?qc ?qk; (case ql => rfl); (case qc => kernel_rfl); (case qk => kernel_rfl)))
  (case x8 => exact ⟨_, _, _, _, _, _, _, _, _, _, _, _, _, _, by rfl⟩)
  (case i9 => (refine' MF.ft_mk ?ql ?qc ?qk; (case ql => rfl); (case qc => kernel_rfl); (case qk => kernel_rfl)))
  (case x9 => exact ⟨_, _, _, _, _, _, _, _, _, _, _, _, _, _, by rfl⟩)
  (case i10 => (refine' MF.ft_mk ?ql ?qc ?qk; (case ql => rfl); (case qc => kernel_rfl); (case qk => kernel_rfl)))
  (case x10 => exact ⟨_, _, _, _, _, _, _, _, _, _, _, _, _, _, by rfl⟩)
  (case i11 => (refine' MF.ft_mk ?ql ?qc ?qk; (case ql => rfl); (case qc => kernel_rfl); (case qk => kernel_rfl)))
  (case x11 => exact ⟨_, _, _, _, _, _, _, _, _, _, _, _, _, _, by rfl⟩)
  (case i12 => (refine' MF.ft_mk ?ql ?qc ?qk; (case ql => rfl); (case qc => kernel_rfl); (case qk => kernel_rfl)))
  (case x12 => exact ⟨_, _, _, _, _, _, _, _, _, _, _, _, _, _, by rfl⟩)
  obtain ⟨fd, hbind, F⟩ := z
  exact MF.law_callG (P1 := 597) (P2 := 717) ⟨KX, GG, ⟨mb, G.T.b, G.T.builtins⟩, G.T.nolimit, TT 597 (by decide), TT 717 (by decide), by kernel_rfl, by kernel_rfl, codeHd_of_K KX (by kernel_rfl), codeHd_of_K KX (by kernel_rfl), by decide, G.T.bmain, hobj, hints, Nat.le_trans hlen (by rw [sizeLine_eq]; decide)⟩ hg ⟨rfl, by decide, by decide⟩ rfl F hbind (PA.law_true ns)
