import PyProof.Rows.All
import Wide.All
import OpenK.AllK
import Wide.FinOn
import PyProof.EqAt
import PyProof.EqKinds
import PyProof.TupleCall
import HandS.ForMost
import HandS.Exc
import HandS.Defaults
import HandS.IsInst
import HandS.EndBits
import KE.KExcPX
import KE.KExcInit
import KE.KExcIs
import HandS.ExcInit
import HandS.ExcIs
import HandS.ExcValue
import HandS.TryMany
import HandS.HeadHook1
import HandS.Head0
import HandS.Head1
import HandS.Head2
import HandS.HeadHook2
import HandS.HeadEnd
import HandS.TupMul
import HandS.TupAny
import PyProof.StrOps2
import HandS.HotCalls
import HandS.Wide
import PySem.Challenge.RW_innerlook_k01_kinds_of_any_thing
set_option Elab.async false
set_option linter.all false
set_option maxRecDepth 100000
set_option maxHeartbeats 2000000
/-! A. defs that may ask for a repr: no repr runs around them (FnG). -/
namespace KK
open PySem PySem.Spec PyProof.Rows L2

/-- no repr runs -/
def NoRep (A : Around) : Prop := A.guards = some []
theorem NoRep.deeper {A : Around} (g : NoRep A) (env : Env) : NoRep (A.deeper env) := g

/-- a def's promise where no repr runs around the call -/
structure FnG (P : Program) (w : World) (K : PySem.W.Frag) (mg : Str → Option Value) (base : Heap)
    (CX : CXT) (k : Nat) (f : Addr) (fd : FuncData) (ps : List Str) (sp : Sp) : Prop where
  len : ∀ vs H Q E, sp vs H Q E → vs.length = ps.length
  run : ∀ (A : Around) (outer : List Env) (s : Shared) (H : Hp) (args : Args) (us : List Value)
    (vs : List V) (Q : VK) (E : XK), Room k A → NoRep A → Env0 P w K mg base A outer s H →
    BindsTo s fd args (ps.zip us) → Vals vs us → sp vs H Q E →
    codeAny (model P w) A (.call (.ref f) args) (CR CX outer P w H s Q E) s
section
variable {P : Program} {w : World} {K : PySem.W.Frag} {mg : Str → Option Value} {base : Heap} {CX : CXT}
  {j k : Nat} {f : Addr} {fd : FuncData} {ps : List Str} {sp : Sp}
theorem FnG.of (F : FnOk P w K mg base CX k f fd ps sp) : FnG P w K mg base CX k f fd ps sp :=
  ⟨F.len, fun A outer s H args us vs Q E hr _ e0 hb r q => F.run A outer s H args us vs Q E hr e0 hb r q⟩
theorem FnG.mono (F : FnG P w K mg base CX j f fd ps sp) (h : j ≤ k) : FnG P w K mg base CX k f fd ps sp :=
  ⟨F.len, fun A outer s H args us vs Q E hr => F.run A outer s H args us vs Q E (hr.mono h)⟩
end

section
variable {X : Cx} {CX : CXT} {k : Nat} {f C : Addr} {fd : FuncData} {ps ks : List Str} {sp : Sp}
  {dvs : List V} {ds : List Value} {E : XK} {x m : Str} {p pos apos : Pos} {e o : Expr} {es : List Expr}
  {kws : List Keyword} {ta : TE} {t tk : TA} {g : List Value → List Value → List Value} {gV : List V → List V → List V}

theorem run_g {pins : List (Addr × Obj)} {σ : L2.St} {H : Hp} {s : Shared} {Q : VK} {us : List Value} {vs : List V}
    (F : FnG X.prog X.w X.K X.mg X.base CX k f fd ps sp) (hr : Room k X.A) (hg : NoRep X.A)
    (hb : Binds X.K fd ps ds) (hd : Vals dvs ds) (hx : Passes CX X E) (I : Inv X pins σ H s)
    (r : Vals vs us) (h : sp (vs ++ dvs) H Q E) :
    wpAny (model X.prog X.w) X.A (call (.ref f) us) (EP X pins σ Q) X.xe s := by
  have r2 : Vals (vs ++ dvs) (us ++ ds) := r.append hd
  have hl : (us ++ ds).length = ps.length := r2.length.symm.trans (F.len _ _ _ _ h)
  have go := F.run X.A X.stack s H ⟨us, []⟩ (us ++ ds) (vs ++ dvs) Q E hr hg I.env0 (hb s us I.kIn hl) r2 h
  refine wpAny_call (codeAny_mono go fun r s' hq => ?_)
  cases r with
  | error e => exact hx pins σ H s e s' I hq
  | ok fl => cases fl <;> first | exact I.after hq | exact False.elim hq

theorem pe_callG (F : FnG X.prog X.w X.K X.mg X.base CX k f fd ps sp) (hr : Room k X.A) (hn : NoRep X.A)
    (hg : Gl X x) (hm : X.mg x = some (.ref f)) (hk : PySem.W.keepIn X.K (.ref f) = true)
    (hb : Binds X.K fd ps ds) (hd : Vals dvs ds) (hx : Passes CX X E) (ha : PA X (e :: es) t)
    (hdb : (x == ("__debug__" : Str)) = false := by decide)
    (he : starEach (e :: es) X.env = (false, eval e X.env) :: starEach es X.env := by rfl)
    (hpl : (backTo pos (starEach es X.env)).any (·.1) = false := by rfl) :
    PE X (.Call (.Name x p) (e :: es) [] pos) (tCall sp dvs E t) := by
  constructor
  intro pins s σ H Q I h
  refine wpAny_Call_Name_kw (ld_glob I hg hm ?_ hdb)
  refine PySem.W.callWith_K (h₀ := X.base) I.ok.mod.kin hk ?_ he hpl
  exact thn (ha.run pos pins s σ H _ I h) fun us s1 ⟨vs, H1, I1, r, q⟩ => ⟨I1.kIn, run_g F hr hn hb hd hx I1 r q⟩
theorem pe_call0G (F : FnG X.prog X.w X.K X.mg X.base CX k f fd ps sp) (hr : Room k X.A) (hn : NoRep X.A)
    (hg : Gl X x) (hm : X.mg x = some (.ref f)) (hk : PySem.W.keepIn X.K (.ref f) = true)
    (hb : Binds X.K fd ps ds) (hd : Vals dvs ds) (hx : Passes CX X E)
    (hdb : (x == ("__debug__" : Str)) = false := by decide) :
    PE X (.Call (.Name x p) [] [] pos) (tCall sp dvs E tNil) := by
  constructor
  intro pins s σ H Q I h
  refine wpAny_Call_Name_kw (ld_glob I hg hm ?_ hdb)
  exact PySem.W.callWith_K0 I.kIn hk (run_g (us := []) F hr hn hb hd hx I .nil h)
end

/-- THE RULE for a def, no repr around it -/
theorem fn_ofG {CX : CXT} {P : Program} {w : World} {K : PySem.W.Frag} {mg : Str → Option Value} {base : Heap}
    {x qual : Str} {params : Arguments} {body : List Stmt} {scope : Scope} {dvs : List V} {kws : List (Str × V)}
    {f : Addr} {fd : FuncData} {N ps : List Str} {k : Nat} {sp : Sp}
    (F : FunD K x qual params body scope dvs kws f fd) (S : FnScope N ps scope)
    (len : ∀ vs H Q E, sp vs H Q E → vs.length = ps.length)
    (hbody : ∀ (cdv : Value) (A : Around) (outer : List Env) (s : Shared) (H : Hp) (vs : List V) (Q : VK) (E : XK),
      Room k (A.deeper (envOfC qual scope s.heap.objs.size f cdv)) → NoRep (A.deeper (envOfC qual scope s.heap.objs.size f cdv)) → sp vs H Q E →
      ∃ t, PSs (cxOf CX P w K mg base N qual scope f cdv A outer s H E) body t ∧
        t { nx := fun _ H' => Q .non H', rt := Q } (start N vs) H) : FnG P w K mg base CX (k + 1) f fd ps sp := by
  obtain ⟨oc, od, dV, kV, doc, pm, an, cdv, ct, osl, rfl, lk, hcd, _, _⟩ := F.ex
  constructor
  · exact len
  intro A outer s H args us vs Q E hr hg e0 hb r hsp
  have inb : ∀ b o, base.get? b = some o → s.heap.get? b = some o := fun b o e => (e0.bs b o e).1
  have KX : K.In s.heap := e0.mod.kin.keeps inb
  have lim : s.heap.NoLimit := e0.mod.nolimit.keeps inb
  have hkind : ∀ y ∈ ps.zip us, scope.names.lookup y.1 = some .local ∨ (scope.names.lookup y.1 = some .cell ∧
      ((cellsFrom (s.heap.objs.size + 1) scope.names []).lookup y.1).isSome = true) := by
    rintro ⟨n, v⟩ hy
    cases S.par n (List.of_mem_zip hy).1 with
    | inl q => exact .inl q
    | inr q => exact .inr ⟨q, PySem.W.cellsFrom_some _ _ _ (.inl q)⟩
  refine codeAny_call_function hr.depth (KX _ _ lk) rfl S.co S.gen rfl (PySem.W.codeRec_of KX hcd) (hb _ _ _ _ ?_)
  refine wpAny_newFunctionEnv_cells S.kind hkind ?_
  rintro env rfl s1 x
  refine ⟨lim.keeps x.toInCall.keep, codeAny_func ?_⟩
  obtain ⟨t, ht, hq⟩ := hbody cdv A outer s H vs Q E (hr.deeper _) hg hsp
  have I := inv_start (CX := CX) (E := E) S hr.hd e0 (len _ _ _ _ hsp) r x
  refine wpAny_mono (ht.run [] s1 (start N vs) H _ I hq) ?_ fun e s' hs => hs
  intro fl s' hs
  cases fl with
  | ret u =>
    obtain ⟨v, σ', H', J, rv, q⟩ := hs
    exact ⟨v, H', J.os, J.bare, J.base, J.hok, rv, q⟩
  | next =>
    obtain ⟨σ', H', J, q⟩ := hs
    exact ⟨V.non, H', J.os, J.bare, J.base, J.hok, rfl, q⟩
  | brk => exact False.elim (hs.elim fun _ z => z.elim fun _ z => z.2)
  | cont => exact False.elim (hs.elim fun _ z => z.elim fun _ z => z.2)
end KK

set_option Elab.async false
set_option linter.all false
set_option maxRecDepth 100000
set_option maxHeartbeats 2000000
/-! B. data with dicts too, and what repr tells of it -/
namespace KK
open PySem PySem.Spec PyProof.Rows L2

def kD : Key → PyData
  | .inl i => .int i
  | .inr x => .str x
mutual
inductive Dq (K : PySem.W.Frag) (H : Hp) : V → PyData → Prop
  | non : Dq K H .non .none
  | bl (b : Bool) : Dq K H (.bl b) (.bool b)
  | int (i : Int) : Dq K H (.int i) (.int i)
  | str (x : Str) : Dq K H (.str x) (.str x)
  | lst {a : Addr} {xs : List V} {ds : List PyData} : SqL K H a xs → DqAll K H xs ds → Dq K H (.ref a) (.list ds)
  | tup {a : Addr} {xs : List V} {ds : List PyData} : SqT K H a xs → DqAll K H xs ds → Dq K H (.ref a) (.tuple ds)
  | dic {a : Addr} {kvs : List (Key × V)} {ps : List (PyData × PyData)} : H a = some (.dK kvs) → DqKv K H kvs ps → Dq K H (.ref a) (.dict ps)
inductive DqAll (K : PySem.W.Frag) (H : Hp) : List V → List PyData → Prop
  | nil : DqAll K H [] []
  | cons {v : V} {vs : List V} {d : PyData} {ds : List PyData} : Dq K H v d → DqAll K H vs ds → DqAll K H (v :: vs) (d :: ds)
inductive DqKv (K : PySem.W.Frag) (H : Hp) : List (Key × V) → List (PyData × PyData) → Prop
  | nil : DqKv K H [] []
  | cons {k : Key} {v : V} {kvs : List (Key × V)} {d : PyData} {ps : List (PyData × PyData)} : Dq K H v d → DqKv K H kvs ps → DqKv K H ((k, v) :: kvs) ((kD k, d) :: ps)
end

/-- the dict of modules stands in the written part -/
def SysD (K : PySem.W.Frag) : Prop := ∃ o, K.lookup sysModules = some o ∧ o.cls = .type "dict"
/-- its look -/
def sysB (K : PySem.W.Frag) : Bool := match K.lookup sysModules with
  | some o => decide (o.cls = .type "dict")
  | none => false
theorem sysB_ok {K : PySem.W.Frag} (h : sysB K = true) : SysD K := by
  unfold sysB at h
  split at h
  · exact ⟨_, by assumption, of_decide_eq_true h⟩
  · cases h

theorem key_reads {h : Heap} {k : Key} {v : Value} (e : keyIs k v = true) : Reads h v (kD k) [] := by
  rcases keyIs_shape e with ⟨i, t, rfl, rfl⟩ | ⟨x, t, rfl, rfl⟩
  · exact Reads.int i t
  · exact Reads.str x t

section
variable {X : Cx} {pins : List (Addr × Obj)} {σ : L2.St} {H : Hp} {s : Shared}
theorem ne_sys (sm : SysD X.K) (I : Inv X pins σ H s) {a : Addr} {o : Obj} (ho : s.heap.get? a = some o) (hc : o.cls = .type "list") : sysModules ≠ a := by
  rintro rfl
  obtain ⟨o', e1, e2⟩ := sm
  have z := I.kIn _ _ e1
  rw [ho] at z
  cases z
  rw [hc] at e2
  exact absurd e2 (by decide)
mutual
theorem Dq.reads (sm : SysD X.K) (I : Inv X pins σ H s) : ∀ (d : PyData) (v : V) (u : Value), Dq X.K H v d → RelV v u → ∃ as, Reads s.heap u d as ∧ sysModules ∉ as
  | .none, _, _, h, r => by
    cases h
    cases r
    exact ⟨[], Reads.none, by simp⟩
  | .bool b, _, _, h, r => by
    cases h
    cases r
    exact ⟨[], Reads.bool b, by simp⟩
  | .int i, _, _, h, r => by
    cases h
    obtain ⟨t, rfl⟩ := r
    exact ⟨[], Reads.int i t, by simp⟩
  | .str x, _, _, h, r => by
    cases h
    obtain ⟨t, rfl⟩ := r
    exact ⟨[], Reads.str x t, by simp⟩
  | .list ds, _, _, h, r => by
    cases h with
    | lst hs ha =>
      cases r
      obtain ⟨its, rv, ⟨o, n, ho, hc, _, hd⟩, _⟩ := I.list hs
      obtain ⟨as, hr, hn⟩ := Dq.readsAll sm I ds _ its ha rv
      have := ne_sys sm I ho hc
      exact ⟨_, Reads.list ho hc hd hr, by simp [this, hn]⟩
  | .tuple ds, _, _, h, r => by
    cases h with
    | tup hs ha =>
      cases r
      obtain ⟨its, rv, ⟨o, ho, hc, n, hd⟩, _⟩ := I.tuple hs
      obtain ⟨as, hr, hn⟩ := Dq.readsAll sm I ds _ its ha rv
      exact ⟨_, Reads.tuple ho hc hd hr, hn⟩
  | .dict ps, _, _, h, r => by
    cases h with
    | @dic a kvs _ hs ha =>
      cases r
      obtain ⟨_, hne, vs, hkv, o, es, ep, ho, hx, hd, _, hp, _⟩ := (show ObjOk X.prog X.w H s.heap a (.dK kvs) from I.hok a _ hs)
      obtain ⟨as, bs, h1, h2, h3, h4⟩ := Dq.readsKv sm I ps _ vs es.toList ha hkv hp
      have : sysModules ≠ a := fun z => by
        rw [z] at hne
        simp at hne
      exact ⟨_, Reads.dict ho hx.1 hd h1 h2, by simp [this, h3, h4]⟩
theorem Dq.readsAll (sm : SysD X.K) (I : Inv X pins σ H s) : ∀ (ds : List PyData) (vs : List V) (us : List Value), DqAll X.K H vs ds → Vals vs us → ∃ as, ReadsAll s.heap us ds as ∧ sysModules ∉ as
  | [], _, _, h, r => by
    cases h
    cases r
    exact ⟨[], ReadsAll.nil, by simp⟩
  | d :: ds, _, _, h, r => by
    cases h with
    | cons h1 h2 =>
      cases r with
      | cons r1 r2 =>
        obtain ⟨as, q1, n1⟩ := Dq.reads sm I d _ _ h1 r1
        obtain ⟨bs, q2, n2⟩ := Dq.readsAll sm I ds _ _ h2 r2
        exact ⟨_, ReadsAll.cons q1 q2, by simp [n1, n2]⟩
theorem Dq.readsKv (sm : SysD X.K) (I : Inv X pins σ H s) : ∀ (ps : List (PyData × PyData)) (kvs : List (Key × V)) (vs : List (Key × Value)) (es : List DictEntry), DqKv X.K H kvs ps → KV kvs vs → Pairs (mixKind X.prog X.w) es vs →
    ∃ as bs, ReadsAll s.heap (es.map (·.key)) (ps.map (·.1)) as ∧ ReadsAll s.heap (es.map (·.val)) (ps.map (·.2)) bs ∧ sysModules ∉ as ∧ sysModules ∉ bs
  | [], _, _, _, h, r, q => by
    cases h
    cases r
    cases q
    exact ⟨[], [], ReadsAll.nil, ReadsAll.nil, by simp, by simp⟩
  | (kd, d) :: ps, _, _, _, h, r, q => by
    cases h with
    | @cons k v kvs _ _ h1 h2 =>
      cases r with
      | @cons _ q1 _ us rr r2 =>
        obtain ⟨k', u⟩ := q1
        obtain ⟨rfl, ru⟩ : k = k' ∧ RelV v u := rr
        cases q with
        | @cons e _ es _ hk hv q2 =>
          obtain ⟨as, z1, n1⟩ := Dq.reads sm I d v u h1 ru
          obtain ⟨bs, cs, z2, z3, n2, n3⟩ := Dq.readsKv sm I ps kvs us es h2 r2 q2
          have z1' : Reads s.heap e.val d as := by rw [hv]; exact z1
          exact ⟨[] ++ bs, as ++ cs, ReadsAll.cons (key_reads hk) z2, ReadsAll.cons z1' z3, by simp [n2], by simp [n1, n3]⟩
end
end

/-- repr(x) of data -/
def rRep (K : PySem.W.Frag) : List V → Hp → VK → Prop := fun xs H Q => ∃ x d, xs = [x] ∧ Dq K H x d ∧ d.showable = true ∧ d.shown.length ≤ sizeLine ∧ d.depth ≤ 60 ∧ Q (.str d.shown) H
theorem call_repr {X : Cx} (sm : SysD X.K) (hg : NoRep X.A) (hu : X.A.units + 64 < cLine) : CallR X (.builtin "repr") (rRep X.K) := by
  intro pins s σ H xs us Q I r h
  obtain ⟨x, d, rfl, hd, hs, hz, hdp, q⟩ := h
  obtain ⟨u, rfl, ru⟩ := vals1 r
  cases d with
  | none =>
    cases hd
    cases ru
    exact PySem.P.repr_of_none ⟨.str _, H, I.tok _, ⟨_, rfl⟩, q⟩
  | bool b =>
    cases hd
    cases ru
    exact PySem.P.repr_of_bool ⟨.str _, H, I.tok _, ⟨_, rfl⟩, q⟩
  | int i =>
    cases hd
    obtain ⟨t, rfl⟩ := ru
    exact PySem.P.repr_of_int (of_decide_eq_true hs) ⟨.str _, H, I.tok _, ⟨_, rfl⟩, q⟩
  | str y =>
    cases hd
    obtain ⟨t, rfl⟩ := ru
    exact PySem.P.repr_of_str ⟨.str _, H, I.tok _, ⟨_, rfl⟩, q⟩ hz
  | list ds =>
    obtain ⟨as, rr, n⟩ := Dq.reads sm I _ _ _ hd ru
    cases hd
    cases ru
    exact repr_of_reads' rr hs (fun _ => n) hg (by omega) (fun _ _ e => e) (fun h' u tk k => ⟨.str _, H, I.kept (t' := tk) k, ⟨_, rfl⟩, q⟩) hz
  | tuple ds =>
    obtain ⟨as, rr, n⟩ := Dq.reads sm I _ _ _ hd ru
    cases hd
    cases ru
    exact repr_of_reads' rr hs (fun _ => n) hg (by omega) (fun _ _ e => e) (fun h' u tk k => ⟨.str _, H, I.kept (t' := tk) k, ⟨_, rfl⟩, q⟩) hz
  | dict ps =>
    obtain ⟨as, rr, n⟩ := Dq.reads sm I _ _ _ hd ru
    cases hd
    cases ru
    exact repr_of_reads' rr hs (fun _ => n) hg (by omega) (fun _ _ e => e) (fun h' u tk k => ⟨.str _, H, I.kept (t' := tk) k, ⟨_, rfl⟩, q⟩) hz
end KK

set_option Elab.async false
set_option linter.all false
set_option maxRecDepth 100000
set_option maxHeartbeats 2000000
/-! C. exceptions of the program's own classes, over any of three built-in bases, held as values -/

namespace PySem.F
/-- KeyError's own maker of args -/
structure KkInit (B initId : String) : Prop where
  init : Slot B "__init__" initId
  initEntry : entryFor table initId = some Builtin.«BaseException.__init__»
  initSplit : splitId initId = some (B, "__init__")
  initKind : builtinKind initId = some .slot
  initRow : Manifest.signature? initId = some ⟨.positional, "*", B, .self, [⟨"args", .varPos, false⟩]⟩
  noStar : (B != "*") = true
theorem KkInit.of {B newId initId : String} (F : ExcCallFacts B newId initId) : KkInit B initId := ⟨F.init, F.initEntry, F.initSplit, F.initKind, F.initRow, F.noStar⟩
theorem kkInit_KeyError : KkInit "KeyError" "KeyError.__init__" :=
  { noStar := by decide +kernel, initSplit := by kernel_rfl, initKind := by kernel_rfl, initRow := by kernel_rfl
    init := by
      refine .of (owner := "KeyError") (n := "__init__") ?_ ?_ ?_ ?_ ?_ ?_
      · rw [typeLookup_type, builtinLookup_eq_fast]; kernel_rfl
      · decide +kernel
      · decide +kernel
      · decide +kernel
      · first | exact .inl (by decide +kernel) | exact .inr (by decide +kernel)
      · rw [isSubtype_type]; kernel_rfl
    initEntry := by
      refine entryFor_alias (id' := "BaseException.__init__") ?_ ?_ ?_ ?_
      · rw [fastTable_eq_tree]; kernel_rfl
      · first | rfl | decide +kernel
      · decide +kernel
      · rw [fastTable_eq_tree]; kernel_rfl }
theorem kkPass_KeyError (self : Value) : refuseLoop self "__setattr__" [.type "KeyError", .type "LookupError", .type "Exception", .type "BaseException", .type "object"] = pure () := by kernel_rfl
end PySem.F

namespace KK
open PySem PySem.Spec L2
/-! ### C(..): the object is made by the built-in base's maker Bn, then the own __init__ runs; keywords too -/
section
variable {M : Model} {prog : Program} {w : World} {A : Around} {E : Value → Shared → Prop} {R : Result → Shared → Prop} {h : Heap} {g : Array GenState} {d : Drawn} {t : Nat} {os : OsState}
variable {nm q : Str} {C N : Addr} {bs bm bmN : List Value} {hdct : Bool} {sn : List Str} {sub : List Value} {ab : Bool} {col : Option Bool} {dd : Option Addr} {k0 k1 k2 k3 k5 : Option Value} {Bn newId inN : String}
/-- what the class's line holds, as the makers ask -/
structure Line (bm : List Value) (Bn : String) : Prop where
  b : bm.contains (.type Bn) = true
  a : bm.contains (.type "AttributeError") = false
  n : bm.contains (.type "NameError") = false
abbrev ecl (nm q : Str) (C N : Addr) (bs bm : List Value) (hdct : Bool) (sn : List Str) (sub : List Value) (ab : Bool) (col : Option Bool) (dd : Option Addr) (k0 k1 k2 k3 k5 : Option Value) (newId : String) : Obj :=
  excClassObj nm q C N bs bm hdct sn sub ab col dd k0 k1 k2 k3 k5 newId
theorem kk_check_new (F : ExcBaseFacts Bn newId inN bmN) (l : Line bm Bn) {rest : List Value} {kw : List (Str × Value)} {Q : Unit → Shared → Prop}
    (hC : h.get? C = some (ecl nm q C N bs bm hdct sn sub ab col dd k0 k1 k2 k3 k5 newId)) (hq : Q () ⟨h, g, d, t, os⟩) :
    wpAny M A (checkBuiltinCall newId ⟨.ref C :: rest, kw⟩) Q E ⟨h, g, d, t, os⟩ := by
  have hc : (Value.ref C :: bm).contains (.type Bn) = true := (List.contains_cons ..).trans (by rw [l.b, Bool.or_true])
  have hstar := F.noStar
  simp only [checkBuiltinCall, F.newKind, F.newSplit, F.newRow]
  repeat first
    | refine wpAny_loadPart_at hC ?_
    | (refine wpAny_isSubtype_exc hC ?_; rw [hc])
    | refine wpAny_staticBase_exc hC ?_
    | refine wpAny_madeBy_exc hC ?_
    | simp only [bne_self_eq_false, Bool.false_eq_true, if_false]
    | wp_step
  exact hq
theorem kk_new (F : ExcBaseFacts Bn newId inN bmN) (l : Line bm Bn) {rest : List Value} {kw : List (Str × Value)}
    (hC : h.get? C = some (ecl nm q C N bs bm hdct sn sub ab col dd k0 k1 k2 k3 k5 newId)) (hrest : rest.length ≤ sizeLine)
    (hq : R (.ok (.ret (.ref (h.objs.size + 1)))) ⟨(h.push (W.kdv_tup rest)).push (HandSPX.excO C h.objs.size), g, d, t, os⟩) :
    codeAny (model prog w) A (.builtin newId ⟨.ref C :: rest, kw⟩) R ⟨h, g, d, t, os⟩ := by
  have hends := F.ends
  have hB : (Value.ref C :: bm).contains (.type Bn) = true := (List.contains_cons ..).trans (by rw [l.b, Bool.or_true])
  have hA : (Value.ref C :: bm).contains (.type "AttributeError") = false := (List.contains_cons ..).trans (by rw [l.a]; rfl)
  have hN : (Value.ref C :: bm).contains (.type "NameError") = false := (List.contains_cons ..).trans (by rw [l.n]; rfl)
  refine codeAny_builtinAt F.entry ?_
  unfold Builtin.«BaseException.__new__»
  refine wpAt_bind ?_
  show wpAt _ _ _ (stack >>= _) _ _ _
  refine wpAt_bind (wpAt_stack fun p below => wpAt_of_wpAny ?_)
  wp_walk
  refine wpAt_of_wpAny ?_
  rw [F.owner]
  repeat first
    | with_reducible refine wpAny_madeHere_exc F.canon hC ?_
    | with_reducible refine wpAny_loadPart_at hC ?_
    | (with_reducible refine wpAny_isSubtype_exc hC ?_; first | rw [hB] | rw [hA] | rw [hN])
    | wp_step
  show R _ _
  rw [Heap.size_push]
  exact hq
theorem kk_typecall (F : ExcBaseFacts Bn newId inN bmN) (l : Line bm Bn) {rest : List Value} {kw : List (Str × Value)} {fI : Addr} {Q : Fin → Shared → Prop}
    (hC : h.get? C = some (ecl nm q C N bs bm hdct sn sub ab col dd k0 k1 k2 k3 k5 newId))
    (hi : W.Looks (model prog w) h (typeLookup (.ref C) "__init__") (some (.ref fI))) (hb : ∀ self, W.Looks (model prog w) h (bindSpecial (.ref fI) self) (.ref fI, [self])) (hrest : rest.length ≤ sizeLine)
    (hq : codeAny (model prog w) A (.call (.ref fI) ⟨.ref (h.objs.size + 1) :: rest, kw⟩)
      (fun r s' => match r with | .ok (.ret v) => v = .none ∧ Q (.done (.ret (.ref (h.objs.size + 1)))) s' | .ok _ => False | .error e => E e s')
      ⟨(h.push (W.kdv_tup rest)).push (HandSPX.excO C h.objs.size), g, d, t, os⟩) :
    wpAny (model prog w) A (Builtin.«type.__call__» ⟨.ref C :: rest, kw⟩) Q E ⟨h, g, d, t, os⟩ := by
  repeat first
    | with_reducible refine wpAny_loadPart_at hC ?_
    | with_reducible refine wpAny_madeBy_exc hC ?_
    | wp_step
  refine codeAny_call_builtin_code (Code.quiet_builtin _ F.quiet) (kk_check_new F l hC ?_)
  refine kk_new F l hC hrest ?_
  show wpAny _ _ _ _ _ _
  have k : ∀ b o, h.get? b = some o → ((h.push (W.kdv_tup rest)).push (HandSPX.excO C h.objs.size)).get? b = some o :=
    fun b o e => Heap.get?_push_of_some _ (Heap.get?_push_of_some _ e)
  have hC₁ := k _ _ hC
  have hget : ((h.push (W.kdv_tup rest)).push (HandSPX.excO C h.objs.size)).get? (h.objs.size + 1) = some (HandSPX.excO C h.objs.size) := by heap_get
  have hcC : (Value.ref C :: bm).contains (.ref C) = true := by simp
  have i1 := hi.keeps k
  have b1 := (hb (.ref (h.objs.size + 1))).keeps k
  unfold isInstance
  repeat first
    | with_reducible refine wpAny_loadPart_at hget ?_
    | (with_reducible refine wpAny_isSubtype_exc hC₁ ?_; rw [hcC])
    | wp_step
  show wpAny _ _ (typeLookup (.ref C) _) _ _ _
  refine i1.at ?_
  refine wpAny_holding (wpAny_bind (b1.at ?_))
  refine wpAny_bind (wpAny_call (codeAny_mono hq fun r s' z => ?_))
  cases r with
  | error e => exact z
  | ok fl =>
    cases fl <;> first | exact z.elim | skip
    obtain ⟨rfl, z⟩ := z
    first
      | exact wpAny_pure (wpAny_pure z)
      | (wp_walk; exact z)
theorem kk_check_tc {rest : List Value} {kw : List (Str × Value)} {Q : Unit → Shared → Prop}
    (hC : h.get? C = some (ecl nm q C N bs bm hdct sn sub ab col dd k0 k1 k2 k3 k5 newId)) (hq : Q () ⟨h, g, d, t, os⟩) :
    wpAny M A (checkBuiltinCall "type.__call__" ⟨.ref C :: rest, kw⟩) Q E ⟨h, g, d, t, os⟩ := by
  have f3 := tc_sub
  have hTy : (⟨h, g, d, t, os⟩ : Shared).TypeIs (.ref C) "type" := ⟨_, hC, rfl⟩
  simp only [checkBuiltinCall, tc_kind, tc_split]
  repeat any_goals first
    | assumption
    | with_reducible refine wpAny_loadPart_at hC ?_
    | with_reducible refine wpAny_onRaise ?_
    | with_reducible refine wpAny_map ?_
    | wp_step
theorem kk_call (F : ExcBaseFacts Bn newId inN bmN) (l : Line bm Bn) {rest : List Value} {kw : List (Str × Value)} {fI : Addr}
    (hC : h.get? C = some (ecl nm q C N bs bm hdct sn sub ab col dd k0 k1 k2 k3 k5 newId))
    (hi : W.Looks (model prog w) h (typeLookup (.ref C) "__init__") (some (.ref fI))) (hb : ∀ self, W.Looks (model prog w) h (bindSpecial (.ref fI) self) (.ref fI, [self])) (hrest : rest.length ≤ sizeLine)
    (hq : codeAny (model prog w) (A.under (.builtin "type.__call__" ⟨.ref C :: rest, kw⟩)) (.call (.ref fI) ⟨.ref (h.objs.size + 1) :: rest, kw⟩) (W.InitBack (h.objs.size + 1) R)
      ⟨(h.push (W.kdv_tup rest)).push (HandSPX.excO C h.objs.size), g, d, t, os⟩) :
    codeAny (model prog w) A (.call (.ref C) ⟨rest, kw⟩) R ⟨h, g, d, t, os⟩ := by
  have f1 := tc_lookup
  have f2 := tc_bind (.ref C)
  have hTy : (⟨h, g, d, t, os⟩ : Shared).TypeIs (.ref C) "type" := ⟨_, hC, rfl⟩
  refine codeAny_of_tree ?_
  show wpAny _ _ (callAny (.ref C) _) _ _ _
  repeat any_goals first
    | assumption
    | with_reducible refine wpAny_loadPart_at hC ?_
    | wp_step
  refine ⟨rfl, ?_⟩
  refine codeAny_call_builtin_at (Code.quiet_builtin _ (by decide +kernel)) entry_typeCall (kk_check_tc hC (kk_typecall F l hC hi hb hrest ?_))
  refine codeAny_mono hq fun r s' z => ?_
  cases r with
  | error e => exact z
  | ok fl => cases fl <;> exact z
end
end KK

set_option Elab.async false
set_option linter.all false
set_option maxRecDepth 100000
set_option maxHeartbeats 2000000
/-! D. an own exception class: facts, and the rules for its objects held as values -/
namespace KK
open PySem PySem.Spec L2
open PySem.W (findIn keepIn subIn typeIn hasDictIn specialIn takesIn mroIn clsIn isFn excInitIn excOver excTail findCls readsIn)

/-- a built-in base: what the library knows of it -/
structure XBase (bmB : List Value) (Bn newId B initId : String) : Prop where
  mkr : ∃ inN bmN, ExcBaseFacts Bn newId inN bmN
  ln : Line bmB Bn
  ini : F.KkInit B initId
  hB : bmB.contains (.type B) = true
  pass : ∀ self, refuseLoop self "__setattr__" bmB = pure ()
  hob : bmB.contains (.type "object") = true
abbrev mroV : List Value := [.type "ValueError", .type "Exception", .type "BaseException", .type "object"]
abbrev mroK : List Value := [.type "KeyError", .type "LookupError", .type "Exception", .type "BaseException", .type "object"]
abbrev mroL : List Value := [.type "LookupError", .type "Exception", .type "BaseException", .type "object"]
theorem xbV : XBase mroV "ValueError" "ValueError.__new__" "ValueError" "ValueError.__init__" :=
  ⟨⟨_, _, F.excBase_ValueError⟩, ⟨by decide +kernel, by decide +kernel, by decide +kernel⟩, F.KkInit.of F.excBase_ValueError.toExcCallFacts, by decide +kernel, fun self => F.store_ValueError.passes self, by decide +kernel⟩
theorem xbK : XBase mroK "LookupError" "LookupError.__new__" "KeyError" "KeyError.__init__" :=
  ⟨⟨_, _, F.excBase_LookupError⟩, ⟨by decide +kernel, by decide +kernel, by decide +kernel⟩, F.kkInit_KeyError, by decide +kernel, F.kkPass_KeyError, by decide +kernel⟩
theorem xbL : XBase mroL "LookupError" "LookupError.__new__" "LookupError" "LookupError.__init__" :=
  ⟨⟨_, _, F.excBase_LookupError⟩, ⟨by decide +kernel, by decide +kernel, by decide +kernel⟩, F.KkInit.of F.excBase_LookupError.toExcCallFacts, by decide +kernel, fun self => F.store_LookupError.passes self, by decide +kernel⟩

/-- what the written part says of an own exception class at C over a base -/
structure XC (K : PySem.W.Frag) (C : Addr) (bmB : List Value) (newId : String) : Prop where
  q : excInitIn K C bmB newId = true
  ov : excOver K C bmB = true
  hd : hasDictIn K C = true
  kC : keepIn K (.ref C) = true
  sa : findIn K (.ref C) "__setattr__" = some (some (.builtin "object.__setattr__"))
  ga : findIn K (.ref C) "__getattribute__" = some (some (.builtin "BaseException.__getattribute__"))
  gg : findIn K (.ref C) "__getattr__" = some none
  exC : subIn K (.ref C) (.type "BaseException") = some true
  tyC : typeIn K (.ref C) = some (.type "type")
  ha : findIn K (.ref C) "__class__" = some (some (.builtin "object.__class__"))
  hn : specialIn K (.builtin "object.__class__") "__get__" = some (some (.builtin "getset_descriptor.__get__"))
  ht : takesIn K (.builtin "object.__class__") = some true
  hm : mroIn K C (.type "object") = some true
def xcB (K : PySem.W.Frag) (C : Addr) (bmB : List Value) (newId : String) : Bool :=
  excInitIn K C bmB newId && (excOver K C bmB && (hasDictIn K C && (keepIn K (.ref C) &&
  (He.eqO (findIn K (.ref C) "__setattr__") (some (some (.builtin "object.__setattr__"))) && (He.eqO (findIn K (.ref C) "__getattribute__") (some (some (.builtin "BaseException.__getattribute__"))) &&
  (He.eqO (findIn K (.ref C) "__getattr__") (some none) && (decide (subIn K (.ref C) (.type "BaseException") = some true) && (decide (typeIn K (.ref C) = some (.type "type")) &&
  (He.eqO (findIn K (.ref C) "__class__") (some (some (.builtin "object.__class__"))) && (He.eqO (specialIn K (.builtin "object.__class__") "__get__") (some (some (.builtin "getset_descriptor.__get__"))) &&
  (decide (takesIn K (.builtin "object.__class__") = some true) && decide (mroIn K C (.type "object") = some true))))))))))))
theorem xcB_ok {K : PySem.W.Frag} {C : Addr} {bmB : List Value} {newId : String} (h : xcB K C bmB newId = true) : XC K C bmB newId := by
  unfold xcB at h
  simp only [Bool.and_eq_true, decide_eq_true_eq] at h
  obtain ⟨h1, h2, h3, h4, h5, h6, h7, h8, h9, h10, h11, h12, h13⟩ := h
  exact ⟨h1, h2, h3, h4, He.eqO_ok h5, He.eqO_ok h6, He.eqO_ok h7, h8, h9, He.eqO_ok h10, He.eqO_ok h11, h12, h13⟩

/-- the class's record -/
structure ClsRec (K : PySem.W.Frag) (C : Addr) (bmB : List Value) (cd : ClassData) : Prop where
  at_ : clsIn K C = some cd
  hd : cd.hasDict = true
  tail : excTail bmB cd.mro = true
theorem XC.crec {K : PySem.W.Frag} {C : Addr} {bmB : List Value} {newId : String} (T : XC K C bmB newId) : ∃ cd, ClsRec K C bmB cd := by
  have h1 := T.ov
  have h2 := T.hd
  unfold excOver at h1
  unfold hasDictIn at h2
  cases e : clsIn K C with
  | none => rw [e] at h1; cases h1
  | some cd =>
    rw [e] at h1 h2
    have h1' : (match cd.mro with | .ref C' :: bm => C' == C && excTail bmB bm | _ => false) = true := h1
    have h2' : cd.hasDict = true := h2
    refine ⟨cd, e, h2', ?_⟩
    split at h1'
    · rename_i C' bm hm
      rw [hm]
      exact (Bool.and_eq_true_iff.mp h1').2
    · cases h1'

/-! ### self.f = v -/
section
open Builtin Builtin.ObjectAttr
variable {prog : Program} {w : World} {A : Around} {E : Value → Shared → Prop} {R : Result → Shared → Prop} {hp : Heap} {g : Array GenState} {d : Drawn} {t : Nat} {os : OsState}
theorem kk_osa {K : PySem.W.Frag} {name : Str} {tk : Tok} {v : Value} {x C : Addr} {ox : Obj} {od : Option Obj} {cd : ClassData} {bmB : List Value}
    (X : K.In hp) (I : PySem.W.InstAt hp x ox C od) (c : ClsRec K C bmB cd) (hpass : ∀ self, refuseLoop self "__setattr__" bmB = pure ()) (hob : bmB.contains (.type "object") = true) (ha : findIn K (.ref C) name = some none)
    (hq : wpAny (model prog w) A.in1 (storeInOwnDict (.ref x) (.ref C) (.str name tk) name v false)
      (fun fin s' => match fin with | .done f => R (.ok f) s' | .again c' => c'.quiet = true ∧ codeAny (model prog w) A c' R s') (fun e s' => R (.error e) s') ⟨hp, g, d, t, os⟩) :
    codeAny (model prog w) A (.call (.builtin "object.__setattr__") ⟨[.ref x, .str name tk, v], []⟩) R ⟨hp, g, d, t, os⟩ := by
  have SF := F.store_object
  have hob' : cd.mro.contains (.type "object") = true := (PySem.W.excTail_contains "object" _ c.tail).trans hob
  have ne : cd.mro.isEmpty = false := by
    cases hm : cd.mro with
    | nil => rw [hm] at hob'; cases hob'
    | cons a b => rfl
  have inm : mroIn K C (.type "object") = some true := by
    unfold PySem.W.mroIn
    rw [c.at_, Option.bind_some, if_neg (by rw [ne]; decide), hob']
  have sub : PySem.W.Looks (model prog w) hp (isInstance (.ref x) (.type "object")) true := I.type.andThen (PySem.W.looks_mroIn X inm)
  refine codeAny_call_builtin SF.slot.plain SF.entry ?_
  refine @PySem.W.check_slot (model prog w) _ _ ⟨hp, g, d, t, os⟩ "object.__setattr__" "object" "__setattr__" (.ref x) [.str name tk, v] [] _ SF.kind SF.split sub (SF.args (.ref x) (.str name tk) v) ?_
  have hmr : PySem.W.Looks (model prog w) hp (mroOf (.ref C)) cd.mro := (PySem.W.looks_clsIn X c.at_).andThen .now
  have L3 : PySem.W.Looks (model prog w) hp (storeTaker? none) none := .now
  have hp' : refuseLoop (.ref x) "__setattr__" cd.mro = pure () := PySem.W.excTail_pass _ (hpass _) _ c.tail
  rw [PySem.W.osa_eq, refuse_eq]
  refine wpAny_bind (wpAny_bind (I.type.at ?_))
  refine wpAny_bind (hmr.at ?_)
  rw [hp']
  refine wpAny_pure (wpAny_bind (I.type.at (wpAny_bind ?_)))
  exact (PySem.W.looks_findIn X ha).at (wpAny_bind (L3.at hq))
/-- the first field: the exception gets its dict -/
theorem kk_osa1 {K : PySem.W.Frag} {name : Str} {tk : Tok} {v : Value} {x C : Addr} {fv : Array Value} {bmB : List Value} {cd : ClassData}
    (X : K.In hp) (hx : hp.get? x = some { cls := .ref C, data := .fields fv }) (c : ClsRec K C bmB cd) (hpass : ∀ self, refuseLoop self "__setattr__" bmB = pure ()) (hob : bmB.contains (.type "object") = true) (ha : findIn K (.ref C) name = some none)
    (hq : ∀ h' tk' dx, (∀ b o, b ≠ x → hp.get? b = some o → h'.get? b = some o) → hp.objs.size ≤ dx → dx ≠ x → h'.get? x = some { cls := .ref C, dict := some dx, data := .fields fv } →
      h'.Ns1 dx (fun y => if y = name then some v else none) → R (.ok (.ret .none)) ⟨h', g, d, tk', os⟩) :
    codeAny (model prog w) A (.call (.builtin "object.__setattr__") ⟨[.ref x, .str name tk, v], []⟩) R ⟨hp, g, d, t, os⟩ := by
  have I : PySem.W.InstAt hp x { cls := .ref C, data := .fields fv } C none := ⟨hx, rfl, rfl, trivial⟩
  have hxs : x ≠ hp.objs.size := Nat.ne_of_lt (Heap.lt_size hx)
  have hcls : PySem.W.Looks (model prog w) hp (classData C) cd := PySem.W.looks_clsIn X c.at_
  have hdct := c.hd
  refine kk_osa X I c hpass hob ha ?_
  obtain ⟨nm, bs, mro, ns, qn, hd, sn, sb, ab, col, del⟩ := cd
  dsimp only at hdct
  subst hdct
  unfold storeInOwnDict ownDictForStores
  repeat first
    | with_reducible refine HandSPX.store_in_new ?_ ?_
    | with_reducible refine wpAny_loadPart_at hx ?_
    | with_reducible refine hcls.at ?_
    | wp_step
  · exact ⟨_, #[], _, (Heap.get?_update_ne _ _ _ _ hxs.symm).trans (Heap.get?_push_at rfl rfl), rfl, fun e he => absurd he (by simp), fun _ => rfl⟩
  · intro h' tk' hn' hs
    have hx₁ : (hp.push { cls := .type "dict", data := .dict #[] }).get? x = some { cls := .ref C, data := .fields fv } := Heap.get?_push_of_some _ hx
    refine hq h' tk' hp.objs.size (fun b o hb ho => ?_) (Nat.le_refl _) hxs.symm ?_ hn'
    · exact (hs.2 b (Nat.ne_of_lt (Heap.lt_size ho))).trans ((Heap.get?_update_ne _ _ _ _ hb).trans (Heap.get?_push_of_some _ ho))
    · exact (hs.2 x hxs).trans (Heap.get?_update_self _ hx₁ rfl)
/-- a further field -/
theorem kk_osa2 {K : PySem.W.Frag} {name : Str} {tk : Tok} {v : Value} {x C dx : Addr} {fv : Array Value} {bmB : List Value} {cd : ClassData} {m0 : Str → Option Value} {nl : List Str}
    (X : K.In hp) (hx : hp.get? x = some { cls := .ref C, dict := some dx, data := .fields fv }) (hns : hp.Ns1 dx m0) (hw : Within m0 nl) (hz : nl.length ≤ 1000) (c : ClsRec K C bmB cd)
    (hpass : ∀ self, refuseLoop self "__setattr__" bmB = pure ()) (hob : bmB.contains (.type "object") = true) (ha : findIn K (.ref C) name = some none)
    (hq : ∀ h' tk', (∀ b o, b ≠ dx → hp.get? b = some o → h'.get? b = some o) → h'.Ns1 dx (fun y => if y = name then some v else m0 y) → R (.ok (.ret .none)) ⟨h', g, d, tk', os⟩) :
    codeAny (model prog w) A (.call (.builtin "object.__setattr__") ⟨[.ref x, .str name tk, v], []⟩) R ⟨hp, g, d, t, os⟩ := by
  obtain ⟨oD, esD, epD, hoD, hdD, _⟩ := hns.count hw
  have I : PySem.W.InstAt hp x { cls := .ref C, dict := some dx, data := .fields fv } C (some oD) := ⟨hx, rfl, rfl, hoD⟩
  have hcls : PySem.W.Looks (model prog w) hp (classData C) cd := PySem.W.looks_clsIn X c.at_
  have hdct := c.hd
  refine kk_osa X I c hpass hob ha ?_
  obtain ⟨nm, bs, mro, ns, qn, hd, sn, sb, ab, col, del⟩ := cd
  dsimp only at hdct
  subst hdct
  unfold storeInOwnDict ownDictForStores
  repeat first
    | with_reducible refine OEX.store_in_old hns hw hz ?_
    | with_reducible refine wpAny_loadPart_at hx ?_
    | with_reducible refine hcls.at ?_
    | wp_step
  intro h' tk' hn' hs
  exact hq h' tk' (fun b o hb ho => (hs.2 b hb).trans ho) hn'
end
end KK

set_option Elab.async false
set_option linter.all false
set_option maxRecDepth 100000
set_option maxHeartbeats 2000000
/-! E. the rules over the abstract heap for own exceptions as values -/
namespace KK
open PySem PySem.Spec L2
open PySem.W (findIn keepIn subIn typeIn hasDictIn specialIn takesIn mroIn clsIn isFn excInitIn excOver excTail findCls readsIn)

/-- C is an own exception class over some built-in base whose own __init__ is initId of B -/
def XOf (K : PySem.W.Frag) (C : Addr) (B initId : String) : Prop := ∃ bmB Bn newId, XBase bmB Bn newId B initId ∧ XC K C bmB newId
theorem xmk {K : PySem.W.Frag} {h : Heap} {C : Addr} {bmB : List Value} {Bn newId B initId : String} (X : K.In h) (b : XBase bmB Bn newId B initId) (T : XC K C bmB newId) :
    ∃ nm N qn bs bm hdct sn sub ab col dd k0 k1 k2 k3 k5, h.get? C = some (ecl nm qn C N bs bm hdct sn sub ab col dd k0 k1 k2 k3 k5 newId) ∧ Line bm Bn ∧ ∀ X : String, bm.contains (.type X) = bmB.contains (.type X) := by
  obtain ⟨nm, N, qn, bs, bm, hdct, sn, sub, ab, col, dd, k0, k1, k2, k3, k5, hC, hT⟩ := PySem.W.excInit_of X T.q
  exact ⟨nm, N, qn, bs, bm, hdct, sn, sub, ab, col, dd, k0, k1, k2, k3, k5, hC, ⟨by rw [hT]; exact b.ln.b, by rw [hT]; exact b.ln.a, by rw [hT]; exact b.ln.n⟩, hT⟩

/-! B.__init__(e, ..), B built-in -/
section
variable {prog : Program} {w : World} {A : Around} {E : Value → Shared → Prop} {R : Result → Shared → Prop} {h : Heap} {g : Array GenState} {d : Drawn} {t : Nat} {os : OsState}
theorem kk_init {K : PySem.W.Frag} {C e t0 : Addr} {dv : Option Addr} {bmB : List Value} {Bn newId B initId : String} {rest : List Value} (X : K.In h) (b : XBase bmB Bn newId B initId) (T : XC K C bmB newId)
    (he : h.get? e = some ({ cls := .ref C, dict := dv, data := .fields #[.ref t0, .none, .none, .none, .bool false, .none] } : Obj)) (hrest : rest.length ≤ sizeLine)
    (hq : ∀ h' t1, (∀ b o, b ≠ e → h.get? b = some o → h'.get? b = some o) → h'.get? e = some ({ cls := .ref C, dict := dv, data := .fields #[.ref t1, .none, .none, .none, .bool false, .none] } : Obj) → R (.ok (.ret .none)) ⟨h', g, d, t, os⟩) :
    codeAny (model prog w) A (.call (.builtin initId) ⟨.ref e :: rest, []⟩) R ⟨h, g, d, t, os⟩ := by
  obtain ⟨nm, N, qn, bs, bm, hdct, sn, sub, ab, col, dd, k0, k1, k2, k3, k5, hC, _, hT⟩ := xmk X b T
  have F := b.ini
  have hcB : (Value.ref C :: bm).contains (.type B) = true := (List.contains_cons ..).trans (by rw [hT, b.hB, Bool.or_true])
  refine codeAny_call_builtin F.init.plain F.initEntry ?_
  have hshort := F.noStar
  simp only [checkBuiltinCall, F.initKind, F.initSplit, F.initRow]
  repeat first
    | (with_reducible refine wpAny_loadPart_at he ?_)
    | with_reducible refine wpAny_loadPart_at hC ?_
    | (with_reducible refine wpAny_isSubtype_exc hC ?_; rw [hcB])
    | wp_step
  refine wpAny_onRaise ?_
  have star : ∀ (x y : String) (n : Nat), Bind.check ⟨.positional, "*", B, .self, [⟨"args", .varPos, false⟩]⟩ x y n (List.map (fun x => x.fst) ({ pos := Value.ref e :: rest } : Args).kw) = pure () := fun x y n => check_star_args _ _ _ _ _ _
  rw [star]
  refine wpAny_pure ?_
  wp_walk
  refine hq _ h.objs.size (fun b o hb ho => ?_) ?_
  · rw [Heap.get?_update_other _ _ (Ne.symm hb)]
    exact Heap.get?_push_of_some _ ho
  · rw [Heap.get?_update_self _ (Heap.get?_push_of_some _ he) rfl]
    rfl
end

section
variable {X : Cx} {pins : List (Addr × Obj)} {σ : L2.St} {H : Hp} {s : Shared} {a C dx : Addr} {f : Str} {y : V} {u : Value} {fs : List (Str × V)} {E : Value → Shared → Prop} {A : Around}
theorem kst_new {Q : Unit → Shared → Prop} {B initId : String} (T : XOf X.K C B initId) (I : Inv X pins σ H s) (e : H a = some (exo a C none)) (hno : findIn X.K (.ref C) f = some none) (ry : RelV y u)
    (h : ∀ dx s', H dx = none → dx ≠ a → Inv X pins σ (upd (upd H dx (exd dx [(f, y)])) a (exo a C (some dx))) s' → Q () s') : wpAny (model X.prog X.w) A (setAttr (.ref a) f u) Q E s := by
  obtain ⟨bmB, Bn, newId, b, T⟩ := T
  obtain ⟨cd, c⟩ := T.crec
  obtain ⟨t1, ho⟩ := exo_at I.hok e
  obtain ⟨hp, g, d, t, os⟩ := s
  refine PySem.W.set_plain I.kIn (ox := { cls := .ref C, dict := none, data := .fields #[.ref t1, .none, .none, .none, .bool false, .none] }) (od := none) ⟨ho, rfl, rfl, trivial⟩ T.sa ?_
  refine kk_osa1 I.kIn ho c b.pass b.hob hno (fun h' tk' dx k dn dne hx hn => ?_)
  have hnd : H dx = none := I.hok.fresh dn
  have nd : ∀ {b : Addr} {o : Obj}, hp.get? b = some o → b ≠ dx := fun {b o} q => Nat.ne_of_lt (Nat.lt_of_lt_of_le (Heap.lt_size q) dn)
  have na : ∀ {b : Addr}, H b = none → b ≠ a := fun {b} n z => by
    rw [z, e] at n
    cases n
  have U : Un X.fs [] H (upd (upd H dx (exd dx [(f, y)])) a (exo a C (some dx))) hp h' :=
    { keep := fun b o q n _ _ => k b o (na n) q
      slot := fun b o q n _ _ => ⟨o.slots, k b o (na n) q⟩
      free := fun b o q n _ => by rw [upd_ne (na n), upd_ne (nd q)]; exact n
      there := fun b o q _ => by
        by_cases hb : b = a
        · subst hb
          exact ⟨_, hx⟩
        · exact ⟨o, k b o hb q⟩
      tups := fun b xs q => by rw [upd_ne (at_ne e q exo_tup), upd_ne (ne_of_none q hnd)]; exact q
      frzs := fun b o v q => by rw [upd_ne (at_ne e q exo_frz), upd_ne (ne_of_none q hnd)]; exact q
      tbls := fun b ps q => ⟨#[], by rw [upd_ne (at_ne e q exo_tbl), upd_ne (ne_of_none q hnd), q]; simp⟩ }
  refine h dx _ hnd dne (I.un (t' := tk') U fun b o q => ?_)
  by_cases hb : b = a
  · subst hb
    rw [upd_same] at q
    cases q
    exact exo_ok hx
  rw [upd_ne hb] at q
  by_cases hd : b = dx
  · subst hd
    rw [upd_same] at q
    cases q
    exact exd_ok hn (relO_put (fs := []) ry fun g => True.intro)
  rw [upd_ne hd] at q
  refine (I.hok b o q).stay (fun c v hc z => k c v ?_ z) (fun c hc => ?_) (fun c xs hc => ?_)
  · rcases hc with hc | hc
    · rw [hc]
      exact hb
    · exact at_ne e hc exo_own
  · rw [upd_ne (at_ne e hc exo_own), upd_ne (ne_of_none hc hnd)]
    exact hc
  · rw [upd_ne (at_ne e hc exo_tup), upd_ne (ne_of_none hc hnd)]
    exact hc
theorem kst_old {Q : Unit → Shared → Prop} {B initId : String} (T : XOf X.K C B initId) (I : Inv X pins σ H s) (e : H a = some (exo a C (some dx))) (ed : H dx = some (exd dx fs)) (hl : fs.length ≤ 900) (hno : findIn X.K (.ref C) f = some none) (ry : RelV y u)
    (h : ∀ s', Inv X pins σ (upd H dx (exd dx ((f, y) :: fs))) s' → Q () s') : wpAny (model X.prog X.w) A (setAttr (.ref a) f u) Q E s := by
  obtain ⟨bmB, Bn, newId, b, T⟩ := T
  obtain ⟨cd, c⟩ := T.crec
  obtain ⟨t1, ho⟩ := exo_at I.hok e
  obtain ⟨mA, hns, rel⟩ := exd_at I.hok ed
  have hw := within_of rel
  obtain ⟨hp, g, d, t, os⟩ := s
  obtain ⟨oD, _, _, hoD, _, _⟩ := hns.count hw
  refine PySem.W.set_plain I.kIn (ox := { cls := .ref C, dict := some dx, data := .fields #[.ref t1, .none, .none, .none, .bool false, .none] }) (od := some oD) ⟨ho, rfl, rfl, hoD⟩ T.sa ?_
  refine kk_osa2 I.kIn ho hns hw (by rw [List.length_map]; omega) c b.pass b.hob hno (fun h' tk' k hn => ?_)
  have hd : ∃ o, h'.get? dx = some o := by
    obtain ⟨o, _, _, e', _⟩ := hn
    exact ⟨o, e'⟩
  refine h _ (I.write (t' := tk') (x := dx) (e := dx) (o := exd dx ((f, y) :: fs)) ?_ (.inl rfl) k hd (exd_ok hn (relO_put ry rel)))
  rw [ed]
  exact True.intro
theorem kinit_ok {Q : Value → Shared → Prop} {us : List Value} {B initId : String} (T : XOf X.K C B initId) (I : Inv X pins σ H s) (e : H a = some (exo a C none)) (hl : us.length ≤ sizeLine) (h : ∀ s', Inv X pins σ H s' → Q .none s') :
    wpAny (model X.prog X.w) A (call (.builtin initId) (.ref a :: us)) Q E s := by
  obtain ⟨bmB, Bn, newId, b, T⟩ := T
  obtain ⟨t1, ho⟩ := exo_at I.hok e
  obtain ⟨hp, g, d, t, os⟩ := s
  refine wpAny_call (kk_init I.kIn b T ho hl fun h' t2 k hx => ?_)
  have J := I.write (t' := t) (x := a) (e := a) (o := exo a C none) (by rw [e]; exact True.intro) (.inl rfl) k ⟨_, hx⟩ (exo_ok hx)
  have eu : upd H a (exo a C none) = H := funext fun b => if hb : b = a then by rw [hb, upd_same, e] else by rw [upd_ne hb]
  rw [eu] at J
  exact h _ J
end

/-! ### readings and rules -/
/-- B.__init__(self, ..), B built-in: nothing of it is told -/
def tKInit (K : PySem.W.Frag) (B initId : String) (ta : TA) : TE := fun σ H Q => ta σ H fun vs H1 => ∃ (a C : Addr) (ws : List V), vs = .ref a :: ws ∧ ws.length ≤ 1000 ∧ XOf K C B initId ∧ H1 a = some (exo a C none) ∧ Q .non H1
/-- self.f = e -/
def tKSt (K : PySem.W.Frag) (f : Str) (to te : TE) : TS := fun D σ H => te σ H fun y H1 => to σ H1 fun x H2 => ∃ (a C : Addr), x = .ref a ∧ (∃ B initId, XOf K C B initId) ∧ findIn K (.ref C) f = some none ∧
  ((H2 a = some (exo a C none) ∧ ∀ dx, H2 dx = none → dx ≠ a → D.nx σ (upd (upd H2 dx (exd dx [(f, y)])) a (exo a C (some dx)))) ∨
    ∃ (dx : Addr) (fs : List (Str × V)), H2 a = some (exo a C (some dx)) ∧ H2 dx = some (exd dx fs) ∧ fs.length ≤ 900 ∧ D.nx σ (upd H2 dx (exd dx ((f, y) :: fs))))
/-- e.f of an exception -/
def tKFld (K : PySem.W.Frag) (f : Str) (to : TE) : TE := fun σ H Q => to σ H fun x H1 => ∃ (a C dx : Addr) (fs : List (Str × V)) (v : V), x = .ref a ∧ (∃ B initId, XOf K C B initId) ∧ findIn K (.ref C) f = some none ∧ H1 a = some (exo a C (some dx)) ∧ H1 dx = some (exd dx fs) ∧ fs.lookup f = some v ∧ Q v H1
/-- isinstance(x, c), x an exception of the class at C -/
def rKIs (K : PySem.W.Frag) : List V → Hp → VK → Prop := fun xs H Q => ∃ (a C : Addr) (dv : Option Addr) (c : V) (cv : Value) (b : Bool), xs = [.ref a, c] ∧ ClsV c cv ∧ (∃ B initId, XOf K C B initId) ∧ H a = some (exo a C dv) ∧ (∀ d, dv = some d → ∃ fs, H d = some (exd d fs)) ∧ PySem.W.kitOne K (.ref C) cv = some b ∧ Q (.bl b) H
/-- D.__init__(self, ..), D an own class -/
def tKOwn (sp : Sp) (E : XK) (t : TA) : TE := fun σ H Q => t σ H fun vs H1 => sp vs H1 Q E
/-- C(..): a new exception, then its own __init__ -/
def tKMk (C : Addr) (sp : Sp) (E : XK) (t : TA) : TE := fun σ H Q => t σ H fun vs H1 => vs.length ≤ 1000 ∧ ∀ a, H1 a = none → sp (.ref a :: vs) (upd H1 a (exo a C none)) (fun v H2 => v = .non ∧ Q (.ref a) H2) E
/-- C(k = v, ..) -/
def tKMkK (C : Addr) (sp : Sp) (gV : List V → List V → List V) (E : XK) (tk : TA) : TE := fun σ H Q => tk σ H fun zs H1 => ∀ a, H1 a = none → sp (gV [.ref a] zs) (upd H1 a (exo a C none)) (fun v H2 => v = .non ∧ Q (.ref a) H2) E

section
variable {X : Cx} {o e : Expr} {es : List Expr} {to te : TE} {ta t tk : TA} {f x : Str} {p p' p1 p2 pos : Pos} {B initId : String}
theorem pe_kinit {pl : Sem Bool} (hB : typeOf (.type B) = pure (.type "type")) (sB : Manifest.isStub B = false) (gB : Gl X x) (mB : X.mg x = none) (bB : bootBuiltins x = some (.type B)) (hi : PySem.W.handedIn (.builtin initId) = true)
    (vV : findCls X.K (.type B) (.type "type") "__init__" = some (.val (.builtin initId))) (ha : PA X (e :: es) ta) (xn : x ≠ "__name__" := by decide) (xd : (x == ("__debug__" : Str)) = false := by decide)
    (hc : eval (.Call (.Attribute (.Name x p1) "__init__" p2) (e :: es) [] pos) X.env = (do
      let ov ← eval (.Name x p1) X.env
      standAt p2.atName
      let (f, first) ← holding [ov] (getMethod ov "__init__" pl)
      callWith pos f first (backTo pos (starEach (e :: es) X.env)) (backToKw pos (keywordEach [] X.env))) := by rfl)
    (he : starEach (e :: es) X.env = (false, eval e X.env) :: starEach es X.env := by rfl) (hpl : (backTo pos (starEach es X.env)).any (·.1) = false := by rfl) :
    PE X (.Call (.Attribute (.Name x p1) "__init__" p2) (e :: es) [] pos) (tKInit X.K B initId ta) := by
  constructor
  intro pins s σ H Q I h
  refine PySem.W.methodCall_KW (ld_blt I gB mB bB ?_ xn xd) hc
  obtain ⟨m, fr⟩ := I.fr
  refine PySem.W.method_type fr I.ok.mod.kin hB sB vV hi ?_
  show wpAny _ _ (callWith pos (Value.builtin initId) [] (backTo pos (starEach (e :: es) X.env)) []) _ _ _
  refine PyProof.Rows.callWith_method1 (thn (ha.run pos pins _ σ H _ (I.tok _) h) fun us s1 ⟨vs, H1, I1, r1, a, C, ws, ev, hl, T, ea, q⟩ => ?_) he hpl
  subst ev
  cases r1 with
  | @cons _ u0 _ ur ra rw' =>
    obtain rfl : u0 = Value.ref a := ra
    refine kinit_ok T I1 ea ?_ fun s' J => ⟨.non, H1, J, rfl, q⟩
    rw [← Paired.length rw', sizeLine_eq]
    omega
theorem ps_kst (ho : PE X o to) (he : PE X e te) (hs : swapsWith e (some (.Attribute o f p')) pos.line X.env = pure false := by rfl) : PS X (.Assign [.Attribute o f p'] e pos) (tKSt X.K f to te) := by
  constructor
  intro pins s σ H D I h
  refine plainObj_wpAny_Assign_Attribute (thn (he.run pins s σ H _ I h) fun v s1 ⟨y, H1, I1, r1, q1⟩ => thn (ho.run pins s1 σ H1 _ I1 q1) fun u s2 ⟨x, H2, I2, r2, a, C, ex, ⟨B, iB, T⟩, hno, q⟩ => ?_) hs
  subst ex
  obtain rfl : u = Value.ref a := r2
  rcases q with ⟨ea, q⟩ | ⟨dx, fs, ea, ed, hl, q⟩
  · exact kst_new T I2 ea hno r1 fun dx s' n ne J => ⟨σ, _, J, q dx n ne⟩
  · exact kst_old T I2 ea ed hl hno r1 fun s' J => ⟨σ, _, J, q⟩
theorem pe_kfld (ho : PE X o to) (hb : attributeBase o f X.env (eval o X.env) = eval o X.env) : PE X (.Attribute o f p) (tKFld X.K f to) := by
  constructor
  intro pins s σ H Q I h
  refine attr_of hb (thn (ho.run pins s σ H _ I h) fun u s1 ⟨x, H1, I1, r1, a, C, dx, fs, v, ex, ⟨B, iB, bmB, Bn, newId, b, T⟩, hno, ea, ed, hv, q⟩ => ?_)
  subst ex
  obtain rfl : u = Value.ref a := r1
  obtain ⟨t1, hoa⟩ := exo_at I1.hok ea
  obtain ⟨mA, hns, rel⟩ := exd_at I1.hok ed
  obtain ⟨od, ho, hl⟩ := lookIn_ns hns
  obtain ⟨u, hu, ru⟩ := RelO.some_of (v := v) (o := mA f) (by rw [← hv]; exact rel f)
  have J : PySem.W.InstAt s1.heap a _ C (some od) := ⟨hoa, rfl, rfl, ho⟩
  exact HandSPX.exc_get I1.kIn J T.ga T.gg T.exC (PySem.W.findObj_own T.hd hno rfl (by rw [hl, hu])) (handed_of ru) ⟨v, H1, I1.tok _, ru, q⟩
theorem call_kis : CallR X (.builtin "isinstance") (rKIs X.K) := by
  intro pins s σ H xs us Q I r h
  obtain ⟨a, C, dv, c, cv, b, rfl, k, ⟨B, iB, bmB, Bn, newId, _, T⟩, ea, hd, e, q⟩ := h
  obtain ⟨u1, u2, rfl, r1, r2⟩ := vals2 r
  have e2 := k.eq r2
  subst e2
  obtain rfl : u1 = Value.ref a := r1
  obtain ⟨t1, hoa⟩ := exo_at I.hok ea
  obtain ⟨cd, cr⟩ := T.crec
  obtain ⟨od, J⟩ : ∃ od, PySem.W.InstAt s.heap a ({ cls := .ref C, dict := dv, data := .fields #[.ref t1, .none, .none, .none, .bool false, .none] } : Obj) C od := by
    cases dv with
    | none => exact ⟨none, hoa, rfl, rfl, trivial⟩
    | some d =>
      obtain ⟨fs, ed⟩ := hd d rfl
      obtain ⟨mA, ⟨o, _, _, ho, _⟩, _⟩ := exd_at I.hok ed
      exact ⟨some o, hoa, rfl, rfl, ho⟩
  exact PySem.W.kia_one (PySem.W.kitx_exc (by rw [cr.at_]; rfl) T.ga T.gg T.exC T.ha T.hn T.ht T.hm) I.kIn J e (fun z => nomatch z) fun tk => ⟨.bl b, H, I.kept (t' := tk) fun _ _ z => z, rfl, q⟩
end
end KK

set_option Elab.async false
set_option linter.all false
set_option maxRecDepth 100000
set_option maxHeartbeats 2000000
/-! F. own exceptions: the base's __init__ called by name, C(..), C(k = v) -/
namespace KK
open PySem PySem.Spec L2
open PySem.W (findIn keepIn subIn typeIn hasDictIn specialIn takesIn mroIn clsIn isFn excInitIn excOver excTail findCls readsIn)

theorem NoRep.make {A : Around} (g : NoRep A) (v : List Value) (kw : List (Str × Value)) : NoRep (A.under (.builtin "type.__call__" ⟨v, kw⟩)) := by
  unfold NoRep at *
  first
    | exact g
    | (show pushGuards (Code.builtin "type.__call__" ⟨v, kw⟩).guards A.guards = some []; rw [g]; rfl)
    | (simp [Around.under, Code.guards, Code.isGuard, guardIds, pushGuards, g])

/-- a class whose names are read as ever -/
structure ClsRd (K : PySem.W.Frag) (C f : Addr) : Prop where
  sp : specialIn K (.ref C) "__getattribute__" = some (some (.builtin "type.__getattribute__"))
  rd : readsIn K C (.type "type") = true
  vl : findCls K (.ref C) (.type "type") "__init__" = some (.val (.ref f))
  kf : keepIn K (.ref f) = true
def clsRdB (K : PySem.W.Frag) (C f : Addr) : Bool :=
  He.eqO (specialIn K (.ref C) "__getattribute__") (some (some (.builtin "type.__getattribute__"))) && (readsIn K C (.type "type") && ((match findCls K (.ref C) (.type "type") "__init__" with
    | some (.val (.ref g)) => decide (g = f)
    | _ => false) && keepIn K (.ref f)))
theorem clsRdB_ok {K : PySem.W.Frag} {C f : Addr} (h : clsRdB K C f = true) : ClsRd K C f := by
  unfold clsRdB at h
  simp only [Bool.and_eq_true] at h
  obtain ⟨h1, h2, h3, h4⟩ := h
  refine ⟨He.eqO_ok h1, h2, ?_, h4⟩
  split at h3
  · rename_i g e
    rw [e, of_decide_eq_true h3]
  · cases h3

section
variable {X : Cx} {CX : CXT} {k : Nat} {f C : Addr} {fd : FuncData} {ps ks : List Str} {sp : Sp} {E : XK} {x : Str} {p p1 p2 pos : Pos} {e : Expr} {es : List Expr} {kws : List Keyword} {t tk : TA} {B initId : String}
/-- D.__init__(self, ..) -/
theorem pe_kown {pl : Sem Bool} (c : ClsRd X.K C f) (F : FnG X.prog X.w X.K X.mg X.base CX k f fd ps sp) (hr : Room k X.A) (hn : NoRep X.A) (hb : Binds X.K fd ps []) (hx : Passes CX X E) (hg : Gl X x) (hm : X.mg x = some (.ref C))
    (ha : PA X (e :: es) t) (hdb : (x == ("__debug__" : Str)) = false := by decide)
    (hc : eval (.Call (.Attribute (.Name x p1) "__init__" p2) (e :: es) [] pos) X.env = (do
      let ov ← eval (.Name x p1) X.env
      standAt p2.atName
      let (f, first) ← holding [ov] (getMethod ov "__init__" pl)
      callWith pos f first (backTo pos (starEach (e :: es) X.env)) (backToKw pos (keywordEach [] X.env))) := by rfl)
    (he : starEach (e :: es) X.env = (false, eval e X.env) :: starEach es X.env := by rfl) (hpl : (backTo pos (starEach es X.env)).any (·.1) = false := by rfl) :
    PE X (.Call (.Attribute (.Name x p1) "__init__" p2) (e :: es) [] pos) (tKOwn sp E t) := by
  constructor
  intro pins s σ H Q I h
  refine PySem.W.methodCall_KW (ld_glob I hg hm ?_ hdb) hc
  obtain ⟨m, fr⟩ := I.fr
  refine PySem.W.method_of_cls fr I.ok.mod.kin c.sp (PySem.W.cls_value I.kIn c.rd c.vl rfl ?_)
  refine PySem.W.callWith_K (h₀ := X.base) I.ok.mod.kin c.kf (thn (ha.run pos pins _ σ H _ (I.tok _) h) fun us s1 ⟨vs, H1, I1, r, q⟩ => ⟨I1.kIn, ?_⟩) he hpl
  exact run_g (dvs := []) (ds := []) F hr hn hb .nil hx I1 r (by rw [List.append_nil]; exact q)

/-- how keywords bind behind the new object -/
theorem run_kmk {pins : List (Addr × Obj)} {σ : L2.St} {H : Hp} {s : Shared} {Q : VK} {us : List Value} {kw : List (Str × Value)} {vs : List V} {bs : List Value} (T : XOf X.K C B initId) (iC : findIn X.K (.ref C) "__init__" = some (some (.ref f)))
    (tI : typeIn X.K (.ref f) = some (.type "function")) (F : FnG X.prog X.w X.K X.mg X.base CX k f fd ps sp) (hr : Room (k + 1) X.A) (hn : NoRep X.A) (hx : Passes CX X E) (I : Inv X pins σ H s) (hus : us.length ≤ sizeLine)
    (hb : ∀ (s : Shared) (a : Addr), X.K.In s.heap → BindsTo s fd ⟨.ref a :: us, kw⟩ (ps.zip (.ref a :: bs))) (r : Vals vs bs)
    (h : ∀ a, H a = none → sp (.ref a :: vs) (upd H a (exo a C none)) (fun v H2 => v = .non ∧ Q (.ref a) H2) E) :
    wpAny (model X.prog X.w) X.A (call (.ref C) us kw) (EP X pins σ Q) X.xe s := by
  obtain ⟨bmB, Bn, newId, b, T⟩ := T
  obtain ⟨nm, N, qn, bss, bm, hdct, sn, sub, ab, col, dd, k0, k1, k2, k3, k5, hC, ln, hT⟩ := xmk I.kIn b T
  obtain ⟨inN, bmN, FB⟩ := b.mkr
  obtain ⟨hp, g, dr, tk, os⟩ := s
  have hsz : hp.objs.size ≤ hp.objs.size + 1 := Nat.le_succ _
  have hnn : H (hp.objs.size + 1) = none := I.hok.fresh hsz
  have hq := h (hp.objs.size + 1) hnn
  have kk : ∀ b o, hp.get? b = some o → ((hp.push (PySem.W.kdv_tup us)).push (HandSPX.excO C hp.objs.size)).get? b = some o := fun b o e => Heap.get?_push_of_some _ (Heap.get?_push_of_some _ e)
  have hget : ((hp.push (PySem.W.kdv_tup us)).push (HandSPX.excO C hp.objs.size)).get? (hp.objs.size + 1) = some (HandSPX.excO C hp.objs.size) := by heap_get
  have I2 : Inv X pins σ (upd H (hp.objs.size + 1) (exo (hp.objs.size + 1) C none)) ⟨(hp.push (PySem.W.kdv_tup us)).push (HandSPX.excO C hp.objs.size), g, dr, tk, os⟩ :=
    I.laid (t' := tk) (a := hp.objs.size + 1) (o := exo (hp.objs.size + 1) C none) (h' := (hp.push (PySem.W.kdv_tup us)).push (HandSPX.excO C hp.objs.size)) kk hsz (exo_ok hget)
  have r2 : Vals (V.ref (hp.objs.size + 1) :: vs) (Value.ref (hp.objs.size + 1) :: bs) := .cons rfl r
  refine wpAny_call (kk_call FB ln hC (PySem.W.looks_findIn I.kIn iC) (fun self => PySem.W.bind_fn I.kIn self tI) hus
    (codeAny_mono (F.run _ X.stack _ _ ⟨Value.ref (hp.objs.size + 1) :: us, kw⟩ (Value.ref (hp.objs.size + 1) :: bs) _ _ E (hr.make C us kw) (hn.make _ _) (I2.env0.make C us kw) (hb _ _ I2.kIn) r2 hq) fun r s' hq' => ?_))
  cases r with
  | error er => exact hx pins σ _ _ er s' I2 hq'
  | ok fl =>
    cases fl with
    | ret u =>
      obtain ⟨v, H', I3, rv, ev, q3⟩ := I2.after hq'
      subst ev
      exact ⟨rv, ⟨V.ref (hp.objs.size + 1), H', I3, rfl, q3⟩⟩
    | next => exact False.elim hq'
    | brk => exact False.elim hq'
    | cont => exact False.elim hq'
/-- C(e, ..) -/
theorem pe_kmk (T : XOf X.K C B initId) (kC : keepIn X.K (.ref C) = true) (iC : findIn X.K (.ref C) "__init__" = some (some (.ref f))) (tI : typeIn X.K (.ref f) = some (.type "function"))
    (F : FnG X.prog X.w X.K X.mg X.base CX k f fd ps sp) (hr : Room (k + 1) X.A) (hn : NoRep X.A) (hb : Binds X.K fd ps []) (hx : Passes CX X E) (hg : Gl X x) (hm : X.mg x = some (.ref C)) (ha : PA X (e :: es) t)
    (hdb : (x == ("__debug__" : Str)) = false := by decide) (he : starEach (e :: es) X.env = (false, eval e X.env) :: starEach es X.env := by rfl) (hpl : (backTo pos (starEach es X.env)).any (·.1) = false := by rfl) :
    PE X (.Call (.Name x p) (e :: es) [] pos) (tKMk C sp E t) := by
  constructor
  intro pins s σ H Q I h
  refine wpAny_Call_Name_kw (ld_glob I hg hm ?_ hdb)
  refine PySem.W.callWith_K (h₀ := X.base) I.ok.mod.kin kC (thn (ha.run pos pins s σ H _ I h) fun us s1 ⟨vs, H1, I1, r, hz, q⟩ => ⟨I1.kIn, ?_⟩) he hpl
  refine run_kmk (bs := us) T iC tI F hr hn hx I1 ?_ (fun s a X' => ?_) r q
  · show us.length ≤ sizeLine
    rw [← Paired.length r, sizeLine_eq]
    omega
  have hl : ((Value.ref a :: us) ++ []).length = ps.length := by
    have e1 := F.len _ _ _ _ (q (s1.heap.objs.size) (I1.hok.fresh (Nat.le_refl _)))
    rw [List.append_nil, ← e1]
    show us.length + 1 = vs.length + 1
    rw [Paired.length r]
  have z := hb s (Value.ref a :: us) X' hl
  rw [List.append_nil] at z
  exact z
/-- C() -/
theorem pe_kmk0 (T : XOf X.K C B initId) (kC : keepIn X.K (.ref C) = true) (iC : findIn X.K (.ref C) "__init__" = some (some (.ref f))) (tI : typeIn X.K (.ref f) = some (.type "function"))
    (F : FnG X.prog X.w X.K X.mg X.base CX k f fd ps sp) (hr : Room (k + 1) X.A) (hn : NoRep X.A) (hb : Binds X.K fd ps []) (hx : Passes CX X E) (hg : Gl X x) (hm : X.mg x = some (.ref C))
    (hdb : (x == ("__debug__" : Str)) = false := by decide) : PE X (.Call (.Name x p) [] [] pos) (tKMk C sp E tNil) := by
  constructor
  intro pins s σ H Q I h
  obtain ⟨hz, q⟩ := h
  refine wpAny_Call_Name_kw (ld_glob I hg hm ?_ hdb)
  refine PySem.W.callWith_K0 I.kIn kC (run_kmk (us := []) (bs := []) (vs := []) T iC tI F hr hn hx I (Nat.zero_le _) (fun s' a X' => ?_) .nil q)
  have hl : ([Value.ref a] ++ []).length = ps.length := by
    have e1 := F.len _ _ _ _ (q (s.heap.objs.size) (I.hok.fresh (Nat.le_refl _)))
    rw [← e1]
    rfl
  have z := hb s' [Value.ref a] X' hl
  rw [List.append_nil] at z
  exact z
/-- C(k = v, ..), no positional argument -/
theorem pe_kmkK {g : List Value → List Value} {gV : List V → List V} (T : XOf X.K C B initId) (kC : keepIn X.K (.ref C) = true) (iC : findIn X.K (.ref C) "__init__" = some (some (.ref f))) (tI : typeIn X.K (.ref f) = some (.type "function"))
    (F : FnG X.prog X.w X.K X.mg X.base CX k f fd ps sp) (hr : Room (k + 1) X.A) (hn : NoRep X.A)
    (hb : ∀ (s : Shared) (a : Addr) (ws : List Value), X.K.In s.heap → ws.length = ks.length → BindsTo s fd ⟨[.ref a], ks.zip ws⟩ (ps.zip (.ref a :: g ws)))
    (hrel : ∀ {zs : List V} {ws : List Value}, Vals zs ws → Vals (gV zs) (g ws)) (hx : Passes CX X E) (hg : Gl X x) (hm : X.mg x = some (.ref C)) (hkw : PK X kws tk)
    (hall : (backToKw pos (keywordEach kws X.env)).all (·.1.isSome) = true := by rfl) (hks : (backToKw pos (keywordEach kws X.env)).filterMap (·.1) = ks := by rfl)
    (hdb : (x == ("__debug__" : Str)) = false := by decide) (hpl : ((backTo pos (starEach [] X.env)).any (·.1) || (backToKw pos (keywordEach kws X.env)).any (·.1.isNone)) = false := by rfl) :
    PE X (.Call (.Name x p) [] kws pos) (fun σ H Q => tk σ H fun zs H1 => zs.length = ks.length ∧ ∀ a, H1 a = none → sp (.ref a :: gV zs) (upd H1 a (exo a C none)) (fun v H2 => v = .non ∧ Q (.ref a) H2) E) := by
  constructor
  intro pins s σ H Q I h
  refine wpAny_Call_Name_kw (ld_glob I hg hm ?_ hdb)
  refine PySem.W.callWith_KW0 (h₀ := X.base) I.ok.mod.kin kC hall (thn (hkw.run pos pins s σ H _ I h) fun ws s2 ⟨zs, H2, I2, rz, lz, q2⟩ => ⟨I2.kIn, ?_⟩) hpl
  rw [hks]
  exact run_kmk (us := []) (bs := g ws) T iC tI F hr hn hx I2 (Nat.zero_le _) (fun s' a X' => hb s' a ws X' (rz.length.symm.trans lz)) (hrel rz) q2
end
end KK

set_option Elab.async false
set_option linter.all false
set_option maxRecDepth 100000
set_option maxHeartbeats 2000000
/-! G. raising an own exception that bears no field -/
namespace KK
open PySem PySem.Spec L2

theorem exo_ext {e C : Addr} {d : Option Addr} : ∃ φ, exo e C d = .ext φ := ⟨_, rfl⟩
/-- what gives a new exception without fields makes an exception -/
theorem pmk_k {X : Cx} {e : Expr} {te : TE} (hx : X.ex = []) (he : PE X e te) :
    PMk X e (fun σ H Q => te σ H fun x H1 => ∃ (a C : Addr), x = .ref a ∧ H1 a = some (exo a C none) ∧ X.H_0 a = none ∧ Raises X (.ref C) ∧ Q (.ref C) none (delH H1 a)) := by
  intro pins s σ H Q I h
  refine wpAny_mono (he.run pins s σ H _ I h) (fun u s1 hu => ?_) fun _ _ x => x
  obtain ⟨v, H1, I1, r1, a, C, rfl, ha, h0, hr, q⟩ := hu
  cases r1
  obtain ⟨t1, ho⟩ := exo_at I1.hok ha
  obtain ⟨φ, eφ⟩ := exo_ext (e := a) (C := C) (d := none)
  have ha' := ha
  rw [eφ] at ha'
  obtain ⟨G, gs, ga, J⟩ := I1.untrack ha' (fr0_none h0) hx
  exact ⟨a, _, _, { s1 with heap := G }, delH H1 a, .ref C, none, rfl, J, gs, ga, ho, ⟨rfl, rfl⟩, rfl, rfl, delH_same, rfl, I1.bare, hr, q⟩
theorem XC.raises {X : Cx} {C : Addr} {bmB : List Value} {newId : String} (T : XC X.K C bmB newId) : Raises X (.ref C) := raises_own T.exC T.tyC
end KK

set_option Elab.async false
set_option linter.all false
set_option maxRecDepth 100000
set_option maxHeartbeats 2000000
/-! M. how long a repr may be; data by its own places; a late item -/
namespace KK
open PySem PySem.Spec L2

/-! ### lengths -/
theorem ltext_len : ∀ ts : List Str, (listText ts).length ≤ 2 + piled ts
  | [] => by rw [listText_nil]; decide
  | t :: r => by
    have e := textFrom_length_pos r 1 ("[" ++ (if 0 > 0 then ", " else "" : String) ++ t) (by decide)
    show (textFrom 1 _ r ++ "]").length ≤ _
    rw [strLen_append, e, strLen_append, strLen_append, piled_cons]
    have e1 : (("[" : String) : Str).length = 1 := rfl
    have e2 : (("]" : String) : Str).length = 1 := rfl
    have e3 : (((if 0 > 0 then ", " else "" : String) : Str)).length = 0 := rfl
    rw [e1, e2, e3]
    omega
theorem join_le (ts : List Str) : (Str.join ", " ts).length ≤ piled ts := by
  by_cases h : ts = []
  · subst h
    exact Nat.le_refl _
  · have := join_length_add ts h
    omega
theorem ttext_len (ts : List Str) : (tupleText ts).length ≤ 3 + piled ts := by
  unfold tupleText
  rw [strLen_append, strLen_append]
  have e1 : ((("(" : String) : Str)).length = 1 := rfl
  have e3 : (((if ts.length == 1 then ",)" else ")" : String) : Str)).length ≤ 2 := by split <;> decide
  have := join_le ts
  rw [e1]
  omega
theorem dtext_len (ts : List Str) : (dictText ts).length ≤ 2 + piled ts := by
  unfold dictText
  rw [strLen_append, strLen_append]
  have e1 : ((("{" : String) : Str)).length = 1 := rfl
  have e3 : ((("}" : String) : Str)).length = 1 := rfl
  have := join_le ts
  rw [e1, e3]
  omega
mutual
/-- a bound of a repr's length -/
def W : PyData → Nat
  | .list xs => 3 + WAll xs
  | .tuple xs => 3 + WAll xs
  | .dict ps => 3 + WKv ps
  | .none => 4
  | .bool _ => 5
  | .int i => (Str.ofString (toString i)).length
  | .str x => (reprText x).length
def WAll : List PyData → Nat
  | [] => 0
  | x :: xs => (W x + 2) + WAll xs
def WKv : List (PyData × PyData) → Nat
  | [] => 0
  | (k, v) :: r => (W k + W v + 4) + WKv r
end
mutual
theorem shown_W : ∀ d : PyData, d.shown.length ≤ W d
  | .none => by simp only [PyData.shown, W]; decide
  | .bool b => by simp only [PyData.shown, W]; cases b <;> decide
  | .int i => by simp only [PyData.shown, W]; exact Nat.le_refl _
  | .str x => by simp only [PyData.shown, W]; exact Nat.le_refl _
  | .list xs => by
    simp only [PyData.shown, W]
    have := ltext_len (PyData.shownAll xs)
    have := shown_WAll xs
    omega
  | .tuple xs => by
    simp only [PyData.shown, W]
    have := ttext_len (PyData.shownAll xs)
    have := shown_WAll xs
    omega
  | .dict ps => by
    simp only [PyData.shown, W]
    have := dtext_len (PyData.shownKv ps)
    have := shown_WKv ps
    omega
theorem shown_WAll : ∀ xs : List PyData, piled (PyData.shownAll xs) ≤ WAll xs
  | [] => by simp only [PyData.shownAll, WAll]; exact Nat.le_refl _
  | x :: xs => by
    simp only [PyData.shownAll, WAll, piled_cons]
    have := shown_W x
    have := shown_WAll xs
    omega
theorem shown_WKv : ∀ ps : List (PyData × PyData), piled (PyData.shownKv ps) ≤ WKv ps
  | [] => by simp only [PyData.shownKv, WKv]; exact Nat.le_refl _
  | (k, v) :: ps => by
    simp only [PyData.shownKv, WKv, piled_cons]
    rw [strLen_append, strLen_append]
    have e : (((": " : String) : Str)).length = 2 := rfl
    have := shown_W k
    have := shown_W v
    have := shown_WKv ps
    rw [e]
    omega
end
theorem WAll_append : ∀ xs ys : List PyData, WAll (xs ++ ys) = WAll xs + WAll ys
  | [], ys => by simp only [List.nil_append, WAll, Nat.zero_add]
  | x :: xs, ys => by simp only [List.cons_append, WAll, WAll_append xs ys]; omega
theorem WKv_append : ∀ xs ys : List (PyData × PyData), WKv (xs ++ ys) = WKv xs + WKv ys
  | [], ys => by simp only [List.nil_append, WKv, Nat.zero_add]
  | (k, v) :: xs, ys => by simp only [List.cons_append, WKv, WKv_append xs ys]; omega
theorem showableAll_append : ∀ xs ys : List PyData, PyData.showableAll (xs ++ ys) = (PyData.showableAll xs && PyData.showableAll ys)
  | [], ys => by simp only [List.nil_append, PyData.showableAll, Bool.true_and]
  | x :: xs, ys => by simp only [List.cons_append, PyData.showableAll, showableAll_append xs ys, Bool.and_assoc]
theorem showableKv_append : ∀ xs ys : List (PyData × PyData), PyData.showableKv (xs ++ ys) = (PyData.showableKv xs && PyData.showableKv ys)
  | [], ys => by simp only [List.nil_append, PyData.showableKv, Bool.true_and]
  | (k, v) :: xs, ys => by simp only [List.cons_append, PyData.showableKv, showableKv_append xs ys, Bool.and_assoc]
theorem depthAll_append : ∀ xs ys : List PyData, PyData.depthAll (xs ++ ys) = max (PyData.depthAll xs) (PyData.depthAll ys)
  | [], ys => by simp only [List.nil_append, PyData.depthAll, Nat.zero_max]
  | x :: xs, ys => by simp only [List.cons_append, PyData.depthAll, depthAll_append xs ys, Nat.max_assoc]
theorem depthKv_append : ∀ xs ys : List (PyData × PyData), PyData.depthKv (xs ++ ys) = max (PyData.depthKv xs) (PyData.depthKv ys)
  | [], ys => by simp only [List.nil_append, PyData.depthKv, Nat.zero_max]
  | (k, v) :: xs, ys => by simp only [List.cons_append, PyData.depthKv, depthKv_append xs ys, Nat.max_assoc]

/-! ### data whose objects are all tracked, told with their places -/
mutual
inductive Dz (H : Hp) : V → PyData → List Addr → Prop
  | non : Dz H .non .none []
  | bl (b : Bool) : Dz H (.bl b) (.bool b) []
  | int (i : Int) : Dz H (.int i) (.int i) []
  | str (x : Str) : Dz H (.str x) (.str x) []
  | lst {a : Addr} {xs : List V} {ds : List PyData} {S : List Addr} : H a = some (.lst xs) → DzAll H xs ds S → a ∉ S → Dz H (.ref a) (.list ds) (a :: S)
  | tup {a : Addr} {xs : List V} {ds : List PyData} {S : List Addr} : H a = some (.tup xs) → DzAll H xs ds S → a ∉ S → Dz H (.ref a) (.tuple ds) (a :: S)
  | dic {a : Addr} {kvs : List (Key × V)} {ps : List (PyData × PyData)} {S : List Addr} : H a = some (.dK kvs) → DzKv H kvs ps S → a ∉ S → Dz H (.ref a) (.dict ps) (a :: S)
inductive DzAll (H : Hp) : List V → List PyData → List Addr → Prop
  | nil : DzAll H [] [] []
  | cons {v : V} {vs : List V} {d : PyData} {ds : List PyData} {S S' : List Addr} : Dz H v d S → DzAll H vs ds S' → DzAll H (v :: vs) (d :: ds) (S ++ S')
inductive DzKv (H : Hp) : List (Key × V) → List (PyData × PyData) → List Addr → Prop
  | nil : DzKv H [] [] []
  | cons {k : Key} {v : V} {kvs : List (Key × V)} {d : PyData} {ps : List (PyData × PyData)} {S S' : List Addr} : Dz H v d S → DzKv H kvs ps S' → DzKv H ((k, v) :: kvs) ((kD k, d) :: ps) (S ++ S')
end
mutual
theorem Dz.dq {K : PySem.W.Frag} {H : Hp} : ∀ {v : V} {d : PyData} {S : List Addr}, Dz H v d S → Dq K H v d
  | _, _, _, .non => .non
  | _, _, _, .bl b => .bl b
  | _, _, _, .int i => .int i
  | _, _, _, .str x => .str x
  | _, _, _, .lst h ha _ => .lst (SqL.of h) ha.dq
  | _, _, _, .tup h ha _ => .tup (SqT.of h) ha.dq
  | _, _, _, .dic h ha _ => .dic h ha.dq
theorem DzAll.dq {K : PySem.W.Frag} {H : Hp} : ∀ {vs : List V} {ds : List PyData} {S : List Addr}, DzAll H vs ds S → DqAll K H vs ds
  | _, _, _, .nil => .nil
  | _, _, _, .cons h r => .cons h.dq r.dq
theorem DzKv.dq {K : PySem.W.Frag} {H : Hp} : ∀ {vs : List (Key × V)} {ds : List (PyData × PyData)} {S : List Addr}, DzKv H vs ds S → DqKv K H vs ds
  | _, _, _, .nil => .nil
  | _, _, _, .cons h r => .cons h.dq r.dq
end
mutual
theorem Dz.keep {H H' : Hp} : ∀ {v : V} {d : PyData} {S : List Addr}, Dz H v d S → (∀ a ∈ S, ∀ o, H a = some o → H' a = some o) → Dz H' v d S
  | _, _, _, .non, _ => .non
  | _, _, _, .bl b, _ => .bl b
  | _, _, _, .int i, _ => .int i
  | _, _, _, .str x, _ => .str x
  | _, _, _, .lst h ha n, k => .lst (k _ (List.mem_cons_self ..) _ h) (ha.keep fun a m o e => k a (List.mem_cons_of_mem _ m) o e) n
  | _, _, _, .tup h ha n, k => .tup (k _ (List.mem_cons_self ..) _ h) (ha.keep fun a m o e => k a (List.mem_cons_of_mem _ m) o e) n
  | _, _, _, .dic h ha n, k => .dic (k _ (List.mem_cons_self ..) _ h) (ha.keep fun a m o e => k a (List.mem_cons_of_mem _ m) o e) n
theorem DzAll.keep {H H' : Hp} : ∀ {vs : List V} {ds : List PyData} {S : List Addr}, DzAll H vs ds S → (∀ a ∈ S, ∀ o, H a = some o → H' a = some o) → DzAll H' vs ds S
  | _, _, _, .nil, _ => .nil
  | _, _, _, .cons h r, k => .cons (h.keep fun a m o e => k a (List.mem_append_left _ m) o e) (r.keep fun a m o e => k a (List.mem_append_right _ m) o e)
theorem DzKv.keep {H H' : Hp} : ∀ {vs : List (Key × V)} {ds : List (PyData × PyData)} {S : List Addr}, DzKv H vs ds S → (∀ a ∈ S, ∀ o, H a = some o → H' a = some o) → DzKv H' vs ds S
  | _, _, _, .nil, _ => .nil
  | _, _, _, .cons h r, k => .cons (h.keep fun a m o e => k a (List.mem_append_left _ m) o e) (r.keep fun a m o e => k a (List.mem_append_right _ m) o e)
end
theorem Dz.same {H H' : Hp} {v : V} {d : PyData} {S : List Addr} (h : Dz H v d S) (s : Same H H') : Dz H' v d S := h.keep fun a _ o e => s a o e
mutual
theorem Dz.there {H : Hp} : ∀ {v : V} {d : PyData} {S : List Addr}, Dz H v d S → ∀ a ∈ S, ∃ o, H a = some o
  | _, _, _, .non, _, m => by cases m
  | _, _, _, .bl b, _, m => by cases m
  | _, _, _, .int i, _, m => by cases m
  | _, _, _, .str x, _, m => by cases m
  | _, _, _, .lst h ha n, a, m => by
    rcases List.mem_cons.mp m with e | m
    · rw [e]; exact ⟨_, h⟩
    · exact ha.there a m
  | _, _, _, .tup h ha n, a, m => by
    rcases List.mem_cons.mp m with e | m
    · rw [e]; exact ⟨_, h⟩
    · exact ha.there a m
  | _, _, _, .dic h ha n, a, m => by
    rcases List.mem_cons.mp m with e | m
    · rw [e]; exact ⟨_, h⟩
    · exact ha.there a m
theorem DzAll.there {H : Hp} : ∀ {v : List V} {d : List PyData} {S : List Addr}, DzAll H v d S → ∀ a ∈ S, ∃ o, H a = some o
  | _, _, _, .nil, _, m => by cases m
  | _, _, _, .cons h r, a, m => by
    rcases List.mem_append.mp m with m | m
    · exact h.there a m
    · exact r.there a m
theorem DzKv.there {H : Hp} : ∀ {v : List (Key × V)} {d : List (PyData × PyData)} {S : List Addr}, DzKv H v d S → ∀ a ∈ S, ∃ o, H a = some o
  | _, _, _, .nil, _, m => by cases m
  | _, _, _, .cons h r, a, m => by
    rcases List.mem_append.mp m with m | m
    · exact h.there a m
    · exact r.there a m
end
theorem DzAll.snoc {H : Hp} {v : V} {d : PyData} {S' : List Addr} (h : Dz H v d S') : ∀ {vs : List V} {ds : List PyData} {S : List Addr}, DzAll H vs ds S → DzAll H (vs ++ [v]) (ds ++ [d]) (S ++ S')
  | _, _, _, .nil => by
    have z := DzAll.cons h .nil
    rw [List.append_nil] at z
    exact z
  | _, _, _, .cons (S := A) (S' := B) h' r => by
    have z := DzAll.cons h' (DzAll.snoc h r)
    rw [List.append_assoc]
    exact z
end KK

set_option Elab.async false
set_option linter.all false
set_option maxRecDepth 100000
set_option maxHeartbeats 2000000
/-! H. the head by a look of one's own at the written part, and the law's end with the script's bits -/
namespace KK
open PySem PySem.Spec L2
open PyProof.Rows hiding St

/-- a list of numbers, reckoned first -/
def frL {α : Type} : List Nat → (List Nat → α) → α
  | [], k => k []
  | a :: r, k => HandSHeadRun.frNat a fun a => frL r fun r => k (a :: r)
theorem frL_eq {α : Type} : ∀ (l : List Nat) (k : List Nat → α), frL l k = k l
  | [], _ => rfl
  | a :: r, k => by
    show HandSHeadRun.frNat a (fun a => frL r fun r => k (a :: r)) = _
    rw [HandSHeadRun.frNat_eq, frL_eq r]

/-- the objects that are looked at -/
def asK (g : Addr → Option Obj) (n : Nat) : List Addr := sysModules :: cStatics :: He.asD g n
abbrev AlK : Type := Bool × List He.FnW
def obsK (more : PySem.W.Frag → Bool) (fa : List He.Fa) (fn : List He.DefD) (K : PySem.W.Frag) : AlK :=
  (more K && ((fa.all fun f => f.ok K) && fn.all fun d => d.ok K), fn.map fun d => He.fnW K d.at_)
def valK (fn : List He.DefD) : AlK := (true, fn.map He.DefD.val)
def SaysK (more : PySem.W.Frag → Bool) (fa : List He.Fa) (fn : List He.DefD) (K : PySem.W.Frag) : Prop := obsK more fa fn K = valK fn
def obsKG (n : Nat) (more : PySem.W.Frag → Bool) (fa : List He.Fa) (fn : List He.DefD) (g : Addr → Option Obj) : AlK := obsK more fa fn (He.frG g (asK g n))
def hookK (n : Nat) (more : PySem.W.Frag → Bool) (fa : List He.Fa) (fn : List He.DefD) : PySem.W.Hook where
  α := AlK
  obs := fun s => obsKG n more fa fn s.heap.get?
  val := fun _ => valK fn
  says := fun _ h => ∃ K : PySem.W.Frag, K.In h ∧ SaysK more fa fn K
  of := fun _ _ e => ⟨_, He.frG_in, e⟩
  keeps := fun _ _ _ ⟨K, hK, c⟩ k => ⟨K, PySem.W.Frag.In.keeps hK k, c⟩
theorem obsKG_eq {n : Nat} {more : PySem.W.Frag → Bool} {fa : List He.Fa} {fn : List He.DefD} {g : Addr → Option Obj} {s : Shared} (h : ∀ a, g a = s.heap.get? a) : obsKG n more fa fn g = (hookK n more fa fn).obs s := by
  have e : g = s.heap.get? := funext h
  subst e
  rfl
section
variable {more : PySem.W.Frag → Bool} {fa : List He.Fa} {fn : List He.DefD} {K : PySem.W.Frag}
theorem SaysK.bits (c : SaysK more fa fn K) : more K = true ∧ ((fa.all fun f => f.ok K) = true) ∧ ((fn.all fun d => d.ok K) = true) := by
  have c1 : (more K && ((fa.all fun f => f.ok K) && fn.all fun d => d.ok K)) = true := congrArg (fun z : AlK => z.1) c
  simp only [Bool.and_eq_true] at c1
  exact c1
theorem SaysK.fact (c : SaysK more fa fn K) {f : He.Fa} (h : f ∈ fa) : f.ok K = true := List.all_eq_true.mp c.bits.2.1 f h
theorem SaysK.def_ (c : SaysK more fa fn K) (i : Nat) {d : He.DefD} (h : fn[i]? = some d := by rfl) : ∃ fd, FunD K d.name d.qual d.params d.body d.scope (d.dvs K) (d.kws K) (He.fAd K d.at_) fd := by
  have e : fn.map (fun d => He.fnW K d.at_) = fn.map He.DefD.val := congrArg (fun z : AlK => z.2) c
  have e2 : (fn.map fun d => He.fnW K d.at_)[i]? = (fn.map He.DefD.val)[i]? := by rw [e]
  rw [List.getElem?_map, List.getElem?_map, h] at e2
  exact He.DefD.funD (Option.some.inj e2) (List.all_eq_true.mp c.bits.2.2 d (List.mem_of_getElem? h))
end

/-- the law's end: its def's promise where no repr runs -/
theorem law_callK {P : Program} {w : World} {K : PySem.W.Frag} {mg mb : Str → Option Value} {k : Nat} {fa a : Addr} {fd : FuncData} {x : Str} {sp : Sp} {s₁ : Shared} {vs : List Value} {ns : List Int}
    (KX : K.In s₁.heap) (hns : s₁.heap.Ns mainGlobals mg) (hb : s₁.heap.Ns builtinsNs mb) (hbb : ∀ x : Str, x ≠ "__name__" → mb x = bootBuiltins x) (hlim : s₁.heap.NoLimit) (hg : s₁.gens = #[])
    (ha : s₁.heap.get? a = some { cls := .type "list", data := .seq vs.toArray }) (hi : PyProof.Rows.IntsAre vs ns) (hl : ns.length ≤ sizeLine) (hr : Room k callerA)
    (F : ∀ base : Heap, K.In base → base.Ns mainGlobals mg → FnG P w K mg base CX0 k fa fd [x] sp) (hbind : ∀ (s : Shared) (u : Value), BindsTo s fd ⟨[u], []⟩ [(x, u)])
    (hsp : ∀ H : Hp, Only H → SqL K H a (ns.map V.int) → sp [.ref a] H (fun v _ => v = .bl true) fun _ _ _ => False) :
    codeAny (model P w) callerA (.call (.ref fa) ⟨[.ref a], []⟩) (fun r s' => r = .ok (.ret (.bool true)) ∧ OldK s₁.heap s'.heap ∧ s'.os = s₁.os ∧ PyProof.Rows.AllBare s'.gens) s₁ := by
  have go : ∀ H : Hp, Only H → SqL K H a (ns.map V.int) → HOk P w H s₁.heap → (∀ b u, H b = some u → b = a ∧ K.lookup a = none) →
      codeAny (model P w) callerA (.call (.ref fa) ⟨[.ref a], []⟩) (fun r s' => r = .ok (.ret (.bool true)) ∧ OldK s₁.heap s'.heap ∧ s'.os = s₁.os ∧ PyProof.Rows.AllBare s'.gens) s₁ := by
    intro H hO hS hok hA
    have noH : ∀ {b : Addr}, b ≠ a → H b = none := fun {b} n => by
      cases q : H b with
      | none => rfl
      | some u => exact absurd (hA b u q).1 n
    have nsK : ∀ {b : Addr} {m : Str → Option Value}, s₁.heap.Ns b m → (hidT s₁.heap H).Ns b m := fun {b m} ⟨o, es, ep, e, d, r⟩ => by
      refine ⟨o, es, ep, hidT_get e (noH fun z => ?_), d, r⟩
      rw [z, ha] at e
      cases e
      cases d
    have hKb : K.In (hidT s₁.heap H) := fun b o e => by
      refine hidT_get (KX b o e) ?_
      cases q : H b with
      | none => rfl
      | some u =>
        obtain ⟨rfl, z⟩ := hA b u q
        rw [z] at e
        cases e
    obtain ⟨mc, l1, l2⟩ := hlim
    have e0 : Env0 P w K mg (hidT s₁.heap H) callerA [] s₁ H :=
      { frames := rfl, mod := ⟨hKb, nsK hns, ⟨mb, nsK hb, hbb⟩, ⟨mc, nsK l1, l2⟩⟩, bs := fun b o e => of_hidT e, bsz := Nat.le_of_eq (hidT_size _ _), funs := trivial
        frf := fun b hb => absurd (show b ∈ ([] : List Addr) from hb) (by simp), hok := hok, bare := .of_eq hg }
    have run := (F _ hKb (nsK hns)).run callerA [] s₁ H ⟨[.ref a], []⟩ [.ref a] [.ref a] _ _ hr rfl e0 (hbind s₁ (.ref a)) (.cons rfl .nil) (hsp H hO hS)
    refine codeAny_mono run fun r s' h => ?_
    cases r with
    | error e => exact h.elim
    | ok fl =>
      cases fl <;> first | exact False.elim h | skip
      obtain ⟨v, H', os, bare, un, hok', r', q⟩ := h
      have q' : v = .bl true := q
      subst q'
      cases (show _ = Value.bool true from r')
      refine ⟨rfl, OldK.of_keep fun b o e => ?_, os, bare⟩
      rcases hO b with z | ⟨ob, xs, z⟩
      · exact un.keep b o e z (fun m => absurd (show b ∈ ([] : List Addr) from m) (by simp)) (by simp)
      · obtain ⟨e1, _⟩ := hok b _ z
        obtain ⟨e2, _⟩ := hok' b _ (un.frzs b ob _ z)
        rw [e] at e1
        cases e1
        exact e2
  have rv := vals_ints hi
  have lenV := hi.length
  cases hk : K.lookup a with
  | some o =>
    have e := KX a o hk
    rw [ha] at e
    cases e
    have S : SqL K (fun _ => none) a (ns.map V.int) := .inr ⟨_, vs.toArray, _, hk, rfl, rfl, rfl, by rw [List.size_toArray, lenV]; exact hl, by simpa using rv⟩
    exact go (fun _ => none) (fun _ => .inl rfl) S (fun b u z => nomatch z) (fun b u z => nomatch z)
  | none =>
    have H0 : ∀ b, (if b = a then some (HO.frz { cls := .type "list", data := .seq vs.toArray } (.lst (ns.map V.int))) else none) ≠ none → b = a := fun b z => by
      by_cases hb : b = a
      · exact hb
      · exact absurd (if_neg hb) z
    refine go (fun b => if b = a then some (.frz { cls := .type "list", data := .seq vs.toArray } (.lst (ns.map V.int))) else none) (fun b => ?_) (.inl (.inr ⟨_, if_pos rfl⟩)) (fun b u z => ?_) (fun b u z => ⟨H0 b (fun q => by have z' := z.symm.trans q; cases z'), hk⟩)
    · by_cases hb : b = a
      · exact .inr ⟨_, _, if_pos hb⟩
      · exact .inl (if_neg hb)
    · have hb := H0 b (fun q => by have z' := z.symm.trans q; cases z')
      subst hb
      have z' := (if_pos rfl).symm.trans z
      cases z'
      exact ⟨ha, by rw [List.length_map]; exact hl, vs, _, rv, ha⟩

/-- the goal that the head leaves -/
theorem walk_K {l : PySem.W.OpenLaw} {n k : Nat} {q : Program} {loose : List Str} {XP : (Str → Option Value) → Heap → Prop} {YP : World → Heap → Prop} {d : DefRec} {x : Str}
    (hn : l.most = some n) (hn2 : n ≤ sizeLine) (hdf : d.params.defaults = []) (hr : Room k callerA)
    (F : ∀ (w : World) (mg : Str → Option Value) (fa : Addr) (h : Heap), YP w h → h.Ns mainGlobals mg → mg d.name = some (.ref fa) →
      ∃ (K : PySem.W.Frag) (fd : FuncData) (sp : Sp), K.In h ∧ (∀ (s : Shared) (u : Value), BindsTo s fd ⟨[u], []⟩ [(x, u)]) ∧
        (∀ (H : Hp) (a : Addr) (ns : List Int), ns.length ≤ n → (∀ z ∈ ns, Builtin.Int.intBits z ≤ 1048576) → Only H → SqL K H a (ns.map V.int) → sp [.ref a] H (fun v _ => v = .bl true) fun _ _ _ => False) ∧
        ∀ base : Heap, K.In base → base.Ns mainGlobals mg → FnG l.prog w K mg base CX0 k fa fd [x] sp) :
    PySem.W.WalkO q loose XP YP l.row.toRowW d [] (fun f vs => PySem.call f vs) := by
  refine Att.attach_callB hn hdf fun w s₀ s₁ mg mb fa o pm cd doc a vs ns G Y ho hd hcd hmg hobj hints hlen hbits hg => ?_
  obtain ⟨K, fd, sp, KX, hb, hsp, hF⟩ := F w mg fa _ Y G.T.g hmg
  exact law_callK KX G.T.g G.T.b G.T.builtins G.T.nolimit hg hobj hints (Nat.le_trans hlen hn2) hr hF hb fun H hO hS => hsp H a ns hlen hbits hO hS
end KK

set_option Elab.async false
set_option linter.all false
set_option maxRecDepth 100000
set_option maxHeartbeats 2000000
/-! N. a value that may grow a late item -/
namespace KK
open PySem PySem.Spec L2
open PyProof.Rows hiding St

/-- what no one can change, and its type -/
inductive Imm (H : Hp) : V → String → Prop
  | non : Imm H .non "NoneType"
  | bl (b : Bool) : Imm H (.bl b) "bool"
  | int (i : Int) : Imm H (.int i) "int"
  | str (x : Str) : Imm H (.str x) "str"
  | tup {a : Addr} {xs : List V} (e : H a = some (.tup xs)) : Imm H (.ref a) "tuple"
theorem Imm.ty {K : PySem.W.Frag} {H : Hp} {v : V} {t : String} (h : Imm H v t) : TyX K H v (.type t) := by
  cases h with
  | non => exact .base .non
  | bl b => exact .base (.bl b)
  | int i => exact .base (.int i)
  | str x => exact .base (.str x)
  | tup e => exact .base (.tup e)
theorem Imm.no {K : PySem.W.Frag} {H : Hp} {v : V} {t : String} (h : Imm H v t) : PySem.W.kitOne K (.type t) (.type "list") = some false ∧ PySem.W.kitOne K (.type t) (.type "dict") = some false := by
  cases h <;> exact ⟨kit_ty (by decide +kernel), kit_ty (by decide +kernel)⟩
theorem Imm.same {H H' : Hp} {v : V} {t : String} (h : Imm H v t) (s : Same H H') : Imm H' v t := by
  cases h with
  | non => exact .non
  | bl b => exact .bl b
  | int i => exact .int i
  | str x => exact .str x
  | tup e => exact .tup (s _ _ e)

def late : Key := .inr "late"
/-- a value as the law hands it in, n late items behind it; D: where it may stand -/
inductive One (D : Addr → Prop) (H : Hp) : V → Nat → Prop
  | imm {v : V} {d : PyData} {S : List Addr} {t : String} {n : Nat} (z : Dz H v d S) (i : Imm H v t) (sd : ∀ p ∈ S, D p) (iv : ∀ a, v = .ref a → D a) (sh : d.showable = true) (ln : W d ≤ 1000000 + 20 * n) (dp : d.depth ≤ 20 + min n 10) : One D H v n
  | lst {a : Addr} {xs : List V} {ds : List PyData} {S : List Addr} {n : Nat} (h : H a = some (.lst xs)) (z : DzAll H xs ds S) (ne : a ∉ S) (da : D a) (sd : ∀ p ∈ S, D p) (sh : PyData.showableAll ds = true) (wl : WAll ds ≤ 1000000 + 20 * n) (ll : xs.length ≤ 100 + n) (dp : PyData.depthAll ds ≤ 20 + min n 10) : One D H (.ref a) n
  | dic {a : Addr} {kvs : List (Key × V)} {ps : List (PyData × PyData)} {S : List Addr} {n : Nat} (h : H a = some (.dK kvs)) (z : DzKv H kvs ps S) (ne : a ∉ S) (da : D a) (sd : ∀ p ∈ S, D p) (sh : PyData.showableKv ps = true) (wl : WKv ps ≤ 1000000 + 20 * n) (ll : kvs.length ≤ 100 + n)
      (dp : PyData.depthKv ps ≤ 20 + min n 10) (lt : ∀ p ∈ kvs, p.1 = late → p.2 = .int 7) : One D H (.ref a) n
theorem One.rep {K : PySem.W.Frag} {D : Addr → Prop} {H : Hp} {v : V} {n : Nat} (o : One D H v n) (hn : n ≤ 10000) : ∃ d, Dq K H v d ∧ d.showable = true ∧ d.shown.length ≤ sizeLine ∧ d.depth ≤ 60 := by
  have sl : 16000000 ≤ sizeLine := by rw [sizeLine_eq]; decide
  cases o with
  | @imm _ d _ _ _ z i sd iv sh ln dp => exact ⟨_, z.dq, sh, by have := shown_W d; omega, by omega⟩
  | lst h z ne da sd sh wl ll dp =>
    rename_i a xs ds S
    refine ⟨.list ds, .lst (SqL.of h) z.dq, by simp only [PyData.showable]; exact sh, ?_, ?_⟩
    · have := shown_W (.list ds)
      simp only [W] at this
      omega
    · simp only [PyData.depth]
      omega
  | dic h z ne da sd sh wl ll dp lt =>
    rename_i a kvs ps S
    refine ⟨.dict ps, .dic h z.dq, by simp only [PyData.showable]; exact sh, ?_, ?_⟩
    · have := shown_W (.dict ps)
      simp only [W] at this
      omega
    · simp only [PyData.depth]
      omega
/-- what stands where D says stays -/
theorem One.keep {D : Addr → Prop} {H H' : Hp} {v : V} {n : Nat} (o : One D H v n) (k : ∀ p u, D p → H p = some u → H' p = some u) : One D H' v n := by
  cases o with
  | @imm _ d S t _ z i sd iv sh ln dp =>
    refine .imm (t := t) (z.keep fun a m o e => k a o (sd a m) e) ?_ sd iv sh ln dp
    cases i with
    | non => exact .non
    | bl b => exact .bl b
    | int i => exact .int i
    | str x => exact .str x
    | tup e => exact .tup (k _ _ (iv _ rfl) e)
  | lst h z ne da sd sh wl ll dp => exact .lst (k _ _ da h) (z.keep fun a m o e => k a o (sd a m) e) ne da sd sh wl ll dp
  | dic h z ne da sd sh wl ll dp lt => exact .dic (k _ _ da h) (z.keep fun a m o e => k a o (sd a m) e) ne da sd sh wl ll dp lt
theorem One.same {D : Addr → Prop} {H H' : Hp} {v : V} {n : Nat} (o : One D H v n) (s : Same H H') : One D H' v n := o.keep fun p u _ e => s p u e
theorem One.wide {D D' : Addr → Prop} {H : Hp} {v : V} {n : Nat} (o : One D H v n) (k : ∀ p, D p → D' p) : One D' H v n := by
  cases o with
  | imm z i sd iv sh ln dp => exact .imm z i (fun p m => k p (sd p m)) (fun a e => k a (iv a e)) sh ln dp
  | lst h z ne da sd sh wl ll dp => exact .lst h z ne (k _ da) (fun p m => k p (sd p m)) sh wl ll dp
  | dic h z ne da sd sh wl ll dp lt => exact .dic h z ne (k _ da) (fun p m => k p (sd p m)) sh wl ll dp lt
theorem One.at_ {D : Addr → Prop} {H : Hp} {v : V} {n : Nat} (o : One D H v n) : ∀ a, v = .ref a → D a := by
  cases o with
  | imm z i sd iv sh ln dp => exact iv
  | lst h z ne da sd sh wl ll dp => exact fun a e => V.ref.inj e ▸ da
  | dic h z ne da sd sh wl ll dp lt => exact fun a e => V.ref.inj e ▸ da
theorem One.more {D : Addr → Prop} {H : Hp} {v : V} {n m : Nat} (o : One D H v n) (h : n ≤ m) : One D H v m := by
  cases o with
  | imm z i sd iv sh ln dp => exact .imm z i sd iv sh (by omega) (by omega)
  | lst h z ne da sd sh wl ll dp => exact .lst h z ne da sd sh (by omega) (by omega) (by omega)
  | dic h z ne da sd sh wl ll dp lt => exact .dic h z ne da sd sh (by omega) (by omega) (by omega) lt
theorem W_late : W (.str "late") ≤ 6 := by simp only [W]; decide +kernel
theorem W_7 : W (.int 7) ≤ 1 := by simp only [W]; decide +kernel
theorem put_late {kvs : List (Key × V)} (h : ∀ p ∈ kvs, p.1 = late → p.2 = .int 7) : putK kvs late (.int 7) = kvs ∨ (putK kvs late (.int 7) = kvs ++ [(late, .int 7)]) := by
  unfold putK
  split
  · refine .inl ?_
    have e : ∀ p ∈ kvs, (fun kv : Key × V => if kv.1 = late then (kv.1, V.int 7) else kv) p = id p := fun p hp => by
      by_cases hk : p.1 = late
      · simp only [if_pos hk, id]
        rw [← h p hp hk]
      · simp only [if_neg hk, id]
    rw [List.map_congr_left e, List.map_id]
  · exact .inr rfl
theorem DzKv.snoc {H : Hp} {k : Key} {v : V} {d : PyData} {S' : List Addr} (h : Dz H v d S') : ∀ {vs : List (Key × V)} {ds : List (PyData × PyData)} {S : List Addr}, DzKv H vs ds S → DzKv H (vs ++ [(k, v)]) (ds ++ [(kD k, d)]) (S ++ S')
  | _, _, _, .nil => by
    have z := DzKv.cons (k := k) h .nil
    rw [List.append_nil] at z
    exact z
  | _, _, _, .cons (k := k0) (S := A) (S' := B) h' r => by
    have z := DzKv.cons (k := k0) h' (DzKv.snoc (k := k) h r)
    rw [List.append_assoc]
    exact z
/-- what stands at v is changed, nothing else -/
def But (H H' : Hp) (v : V) : Prop := ∀ b o, H b = some o → v ≠ .ref b → H' b = some o
theorem But.refl {H : Hp} {v : V} : But H H v := fun _ _ e _ => e
theorem But.trans {H H1 H2 : Hp} {v : V} (a : But H H1 v) (b : But H1 H2 v) : But H H2 v := fun c o e n => b c o (a c o e n) n
theorem upd_but {H : Hp} {a : Addr} {o : HO} : But H (upd H a o) (.ref a) := fun b u e n => by
  rw [upd_ne fun z => n (by rw [z])]
  exact e
theorem One.app {D : Addr → Prop} {H : Hp} {a : Addr} {xs : List V} {ds : List PyData} {S : List Addr} {n : Nat} (h : H a = some (.lst xs)) (z : DzAll H xs ds S) (ne : a ∉ S) (da : D a) (sd : ∀ p ∈ S, D p) (sh : PyData.showableAll ds = true) (wl : WAll ds ≤ 1000000 + 20 * n) (ll : xs.length ≤ 100 + n) (dp : PyData.depthAll ds ≤ 20 + min n 10) :
    One D (upd H a (.lst (xs ++ [.str "late"]))) (.ref a) (n + 1) := by
  have z1 := DzAll.snoc (Dz.str "late") z
  rw [List.append_nil] at z1
  have z2 := z1.keep (H' := upd H a (.lst (xs ++ [.str "late"]))) fun b m o e => by
    rw [upd_ne fun q => ne (by rw [← q]; exact m)]
    exact e
  have := W_late
  refine .lst upd_same z2 ne da sd ?_ ?_ ?_ ?_
  · rw [showableAll_append, sh]
    rfl
  · rw [WAll_append]
    simp only [WAll]
    omega
  · rw [List.length_append]
    show xs.length + 1 ≤ _
    omega
  · rw [depthAll_append]
    simp only [PyData.depthAll, PyData.depth]
    omega
theorem One.put {D : Addr → Prop} {H : Hp} {a : Addr} {kvs : List (Key × V)} {ps : List (PyData × PyData)} {S : List Addr} {n : Nat} (h : H a = some (.dK kvs)) (z : DzKv H kvs ps S) (ne : a ∉ S) (da : D a) (sd : ∀ p ∈ S, D p) (sh : PyData.showableKv ps = true) (wl : WKv ps ≤ 1000000 + 20 * n) (ll : kvs.length ≤ 100 + n)
    (dp : PyData.depthKv ps ≤ 20 + min n 10) (lt : ∀ p ∈ kvs, p.1 = late → p.2 = .int 7) : One D (upd H a (.dK (putK kvs late (.int 7)))) (.ref a) (n + 1) := by
  have keep : ∀ (u : HO) b, b ∈ S → ∀ o, H b = some o → (upd H a u) b = some o := fun u b m o e => by
    rw [upd_ne fun q => ne (by rw [← q]; exact m)]
    exact e
  rcases put_late lt with e | e
  all_goals rw [e]
  · have z2 := z.keep (keep (.dK kvs))
    exact .dic upd_same z2 ne da sd sh (by omega) (by omega) (by omega) lt
  · have z1 := DzKv.snoc (k := late) (Dz.int 7) z
    rw [List.append_nil] at z1
    have z2 := z1.keep (keep (.dK (kvs ++ [(late, .int 7)])))
    have := W_late
    have := W_7
    refine .dic upd_same z2 ne da sd ?_ ?_ ?_ ?_ ?_
    · rw [showableKv_append, sh]
      rfl
    · rw [WKv_append]
      simp only [WKv]
      show WKv ps + (W (.str "late") + W (.int 7) + 4 + 0) ≤ _
      omega
    · rw [List.length_append]
      show kvs.length + 1 ≤ _
      omega
    · rw [depthKv_append]
      simp only [PyData.depthKv]
      show max (PyData.depthKv ps) (max (max (PyData.str "late").depth (PyData.int 7).depth) 0) ≤ 20 + min (n + 1) 10
      simp only [PyData.depth]
      omega
    · intro p hp hk
      rcases List.mem_append.mp hp with m | m
      · exact lt p m hk
      · rw [List.mem_singleton.mp m]
end KK

set_option Elab.async false
set_option linter.all false
set_option maxRecDepth 100000
set_option maxHeartbeats 2000000
/-! P. comprehensions that map: over texts, tuples, lists, ranges; isinstance by data -/
namespace KK
open PySem PySem.Spec L2
open PyProof.Rows hiding St

theorem laidK {H : Hp} {p : Addr} {o : HO} (n : H p = none) : Same H (upd H p o) := fun b u e => by
  rw [upd_ne (ne_of_none e n)]
  exact e
theorem newlyK {H H' : Hp} {p : Addr} {o : HO} (g : upd H p o = H') (n : H p = none) : Same H H' ∧ H' p = some o := by
  subst g
  exact ⟨laidK n, upd_same⟩
theorem sqT_same {K : PySem.W.Frag} {H H' : Hp} {a : Addr} {xs : List V} (S : SqT K H a xs) (s : Same H H') : SqT K H' a xs := by
  rcases S with (e | ⟨ob, e⟩) | z
  · exact .inl (.inl (s _ _ e))
  · exact .inl (.inr ⟨ob, s _ _ e⟩)
  · exact .inr z
theorem sqL_same {K : PySem.W.Frag} {H H' : Hp} {a : Addr} {xs : List V} (S : SqL K H a xs) (s : Same H H') : SqL K H' a xs := by
  rcases S with (e | ⟨ob, e⟩) | z
  · exact .inl (.inl (s _ _ e))
  · exact .inl (.inr ⟨ob, s _ _ e⟩)
  · exact .inr z
mutual
theorem Dq.same {K : PySem.W.Frag} {H H' : Hp} : ∀ {v : V} {d : PyData}, Dq K H v d → Same H H' → Dq K H' v d
  | _, _, .non, _ => .non
  | _, _, .bl b, _ => .bl b
  | _, _, .int i, _ => .int i
  | _, _, .str x, _ => .str x
  | _, _, .lst h ha, s => .lst (sqL_same h s) (ha.same s)
  | _, _, .tup h ha, s => .tup (sqT_same h s) (ha.same s)
  | _, _, .dic h ha, s => .dic (s _ _ h) (ha.same s)
theorem DqAll.same {K : PySem.W.Frag} {H H' : Hp} : ∀ {vs : List V} {ds : List PyData}, DqAll K H vs ds → Same H H' → DqAll K H' vs ds
  | _, _, .nil, _ => .nil
  | _, _, .cons h r, s => .cons (h.same s) (r.same s)
theorem DqKv.same {K : PySem.W.Frag} {H H' : Hp} : ∀ {vs : List (Key × V)} {ds : List (PyData × PyData)}, DqKv K H vs ds → Same H H' → DqKv K H' vs ds
  | _, _, .nil, _ => .nil
  | _, _, .cons h r, s => .cons (h.same s) (r.same s)
end
theorem DqAll.length {K : PySem.W.Frag} {H : Hp} : ∀ {vs : List V} {ds : List PyData}, DqAll K H vs ds → vs.length = ds.length
  | _, _, .nil => rfl
  | _, _, .cons h r => by rw [List.length_cons, List.length_cons, r.length]
theorem DqAll.at {K : PySem.W.Frag} {H : Hp} : ∀ {vs : List V} {ds : List PyData}, DqAll K H vs ds → ∀ {i : Nat} {v : V}, vs[i]? = some v → ∃ d, ds[i]? = some d ∧ Dq K H v d
  | _, _, .cons h r, 0, v, e => by
    cases e
    exact ⟨_, rfl, h⟩
  | _, _, .cons h r, i + 1, v, e => DqAll.at r (i := i) e

/-! ### isinstance, told of data -/
def tyD : PyData → String
  | .none => "NoneType"
  | .bool _ => "bool"
  | .int _ => "int"
  | .str _ => "str"
  | .list _ => "list"
  | .tuple _ => "tuple"
  | .dict _ => "dict"
inductive KnownT : String → Prop
  | int : KnownT "int"
  | bool : KnownT "bool"
  | str : KnownT "str"
  | tuple : KnownT "tuple"
  | list : KnownT "list"
  | dict : KnownT "dict"
def isiT (t T : String) : Bool := decide (t = T) || (decide (t = "bool") && decide (T = "int"))
def isiD (d : PyData) (T : String) : Bool := isiT (tyD d) T
theorem Dq.ty {K : PySem.W.Frag} {H : Hp} {v : V} {d : PyData} (h : Dq K H v d) : TyX K H v (.type (tyD d)) := by
  cases h with
  | non => exact .base .non
  | bl b => exact .base (.bl b)
  | int i => exact .base (.int i)
  | str x => exact .base (.str x)
  | lst h a =>
    rcases h with (e | ⟨ob, e⟩) | ⟨o, its, n, k, c, _⟩
    · exact .base (.lst e)
    · exact .base (.frz e)
    · exact .kList k c
  | tup h a =>
    rcases h with (e | ⟨ob, e⟩) | ⟨o, its, n, k, c, _⟩
    · exact .base (.tup e)
    · exact .fTuple e
    · exact .kTuple k c
  | dic h a => exact .base (.dK h)
theorem kit_tab : ∀ t ∈ (["NoneType", "bool", "int", "str", "list", "tuple", "dict"] : List String), ∀ T ∈ (["int", "bool", "str", "tuple", "list", "dict"] : List String), kitB t T = some (isiT t T) := by decide +kernel
theorem kit_isi {K : PySem.W.Frag} {d : PyData} {T : String} (k : KnownT T) : PySem.W.kitOne K (.type (tyD d)) (.type T) = some (isiD d T) :=
  kit_ty (kit_tab _ (by cases d <;> simp [tyD]) _ (by cases k <;> simp))
structure IsD (K : PySem.W.Frag) (xs : List V) (H : Hp) (Q : VK) : Prop where
  ex : ∃ (v : V) (d : PyData) (T : String), xs = [v, .ty T] ∧ KnownT T ∧ Dq K H v d ∧ Q (.bl (isiD d T)) H
theorem call_isd {K : PySem.W.Frag} {X : Cx} (e : X.K = K) : CallR X (.builtin "isinstance") (fun xs H Q => IsD K xs H Q) := by
  subst e
  intro pins s σ H xs us Q I r h
  obtain ⟨v, d, T, rfl, k, hd, q⟩ := h.ex
  exact call_isi pins s σ H _ us Q I r ⟨v, .ty T, _, _, _, rfl, .ty _, hd.ty, kit_isi k, q⟩

/-! ### comprehensions -/
theorem lc_str {x : Str} {g : TG} {tt : TT} {te : TE} {vs : List Nat} {σ : L2.St} {H1 : Hp} {D : Addr} {Qd : Hp → Prop} (Pv : Nat → Hp → Prop) (h0 : Pv 0 (upd H1 D (.lst [])))
    (hs : ∀ i c H, x.cps.toList[i]? = some c → Pv i H → g (.str ⟨#[c]⟩) (wipe σ vs) H fun σ2 H2 => wipe σ2 vs = wipe σ vs ∧ tt σ2 H2 fun b H3 =>
      if b = true then te σ2 H3 fun y H4 => ∃ acc, H4 D = some (.lst acc) ∧ acc.length < sizeLine ∧ Pv (i + 1) (upd H4 D (.lst (acc ++ [y]))) else Pv (i + 1) H3) (hd : ∀ H, Pv x.cps.toList.length H → Qd H) :
    ∃ W : Nat → Nat → Hp → Prop, (∃ m, W 0 m (upd H1 D (.lst []))) ∧ ∀ i m H, W i m H →
      ((Its x).stop i H ∧ Qd H) ∨ ((Its x).go i H ∧ ∃ Nx : Hp → Prop, (∀ H', Nx H' → ∃ m', m' < m ∧ W (i + 1) m' H') ∧ ∀ v H', (Its x).yld i H v H' → g v (wipe σ vs) H' fun σ2 H2 => wipe σ2 vs = wipe σ vs ∧ tt σ2 H2 fun b H3 =>
        if b = true then te σ2 H3 fun y H4 => ∃ acc, H4 D = some (.lst acc) ∧ acc.length < sizeLine ∧ Nx (upd H4 D (.lst (acc ++ [y]))) else Nx H3) := by
  have sz : x.cps.toList.length = x.cps.size := by simp
  refine ⟨fun i m H => m = x.cps.size - i ∧ i ≤ x.cps.size ∧ Pv i H, ⟨x.cps.size, by simp, Nat.zero_le _, h0⟩, ?_⟩
  rintro i m H ⟨rfl, hi, p⟩
  by_cases hlt : i < x.cps.size
  · refine .inr ⟨hlt, Pv (i + 1), fun H' p' => ⟨x.cps.size - (i + 1), by omega, rfl, hlt, p'⟩, fun v H' y => ?_⟩
    obtain ⟨e, c, hc, rfl⟩ := y
    subst e
    exact hs i c _ (by rw [Array.getElem?_toList]; exact hc) p
  · have e : i = x.cps.size := by omega
    subst e
    exact .inl ⟨Nat.le_refl _, hd H (by rw [sz]; exact p)⟩
/-- what a mapping comprehension leaves: all as it was, and the list at D -/
theorem lc_mapStr {x : Str} {g : TG} {te : TE} {vs : List Nat} {σ : L2.St} {H1 : Hp} {D : Addr} {Qd : Hp → Prop} (f : Nat → V) (nD : H1 D = none) (hl : x.cps.toList.length ≤ 1000)
    (hs : ∀ c H (Z : VK), Z (f c) H → g (.str ⟨#[c]⟩) (wipe σ vs) H fun σ2 H2 => wipe σ2 vs = wipe σ vs ∧ te σ2 H2 Z) (hd : ∀ H, Same H1 H → H D = some (.lst (x.cps.toList.map f)) → Qd H)
    (hg : ∀ v σ H (Z1 Z2 : L2.St → Hp → Prop), (∀ σ H, Z1 σ H → Z2 σ H) → g v σ H Z1 → g v σ H Z2) :
    ∃ W : Nat → Nat → Hp → Prop, (∃ m, W 0 m (upd H1 D (.lst []))) ∧ ∀ i m H, W i m H →
      ((Its x).stop i H ∧ Qd H) ∨ ((Its x).go i H ∧ ∃ Nx : Hp → Prop, (∀ H', Nx H' → ∃ m', m' < m ∧ W (i + 1) m' H') ∧ ∀ v H', (Its x).yld i H v H' → g v (wipe σ vs) H' fun σ2 H2 => wipe σ2 vs = wipe σ vs ∧ tYes σ2 H2 fun b H3 =>
        if b = true then te σ2 H3 fun y H4 => ∃ acc, H4 D = some (.lst acc) ∧ acc.length < sizeLine ∧ Nx (upd H4 D (.lst (acc ++ [y]))) else Nx H3) := by
  refine lc_str (fun i H => But (upd H1 D (.lst [])) H (.ref D) ∧ H D = some (.lst ((x.cps.toList.take i).map f))) ⟨But.refl, upd_same⟩ (fun i c H hc p => ?_) (fun H p => ?_)
  · obtain ⟨b, e⟩ := p
    refine hg _ _ _ _ _ (fun σ2 H2 h => ?_) (hs c H (fun y H4 => ∃ acc, H4 D = some (.lst acc) ∧ acc.length < sizeLine ∧ (But (upd H1 D (.lst [])) (upd H4 D (.lst (acc ++ [y]))) (.ref D) ∧ (upd H4 D (.lst (acc ++ [y]))) D = some (.lst ((x.cps.toList.take (i + 1)).map f)))) ⟨_, e, ?_, ?_, ?_⟩)
    · refine ⟨h.1, ?_⟩
      dsimp only [tYes]
      rw [if_pos rfl]
      exact h.2
    · rw [List.length_map, List.length_take]
      rw [sizeLine_eq]
      omega
    · exact b.trans upd_but
    · rw [upd_same, List.take_add_one, List.map_append, hc]
      rfl
  · obtain ⟨b, e⟩ := p
    rw [List.take_length] at e
    refine hd H (fun q u z => b q u (laidK nD q u z) fun w => ?_) e
    cases w
    rw [nD] at z
    cases z
theorem gName_mono {i : Nat} : ∀ v σ H (Z1 Z2 : L2.St → Hp → Prop), (∀ σ H, Z1 σ H → Z2 σ H) → gName i v σ H Z1 → gName i v σ H Z2 := fun _ _ _ _ _ k h => k _ _ h
end KK
namespace KK
open PySem PySem.Spec L2
theorem same_butK {H H' : Hp} {v : V} (s : Same H H') : But H H' v := fun b o e _ => s b o e
end KK

set_option Elab.async false
set_option linter.all false
set_option maxRecDepth 100000
set_option maxHeartbeats 2000000
/-! Q. [x for x in xs if ..] == []: is there none -/
namespace KK
open PySem PySem.Spec L2
open PyProof.Rows hiding St

/-- a list against an empty one -/
theorem op_eqNil {K : PySem.W.Frag} {X : Cx} (e : X.K = K) (hu : X.A.units + 64 < cLine) : OpR X (compareOp .Eq) (fun x y H Q => ∃ a b xs, x = .ref a ∧ y = .ref b ∧ SqL K H a xs ∧ SqL K H b [] ∧ Q (.bl xs.isEmpty) H) := by
  subst e
  intro pins s σ H x y v u Q I rx ry h
  obtain ⟨a, b, xs, rfl, rfl, ha, hb, q⟩ := h
  cases (show v = Value.ref a from rx)
  cases (show u = Value.ref b from ry)
  obtain ⟨its, rv, p, _⟩ := I.list ha
  obtain ⟨its2, rv2, p2, _⟩ := I.list hb
  cases rv2
  cases xs with
  | nil =>
    cases rv
    exact SeqAt.eq_listAt (e := fun _ => true) p.isList p2.isList rfl (by omega) (fun j h1 => absurd h1 (Nat.not_lt_zero _)) ⟨.bl true, H, I, rfl, q⟩
  | cons z zs =>
    cases rv with
    | cons r rs => exact SeqAt.eq_list_lengthsAt p.isList p2.isList (by simp) (by omega) ⟨.bl false, H, I, rfl, q⟩
theorem all_succ {p : Nat → Bool} {i : Nat} : (List.range (i + 1)).all (fun j => !p j) = ((List.range i).all (fun j => !p j) && !p i) := by
  rw [List.range_succ, List.all_append, List.all_cons, List.all_nil, Bool.and_true]
/-- the items of a tuple that p tells: are there none -/
theorem lc_noneTup {K : PySem.W.Frag} {a : Addr} {xs : List V} {g : TG} {tt : TT} {te : TE} {vs : List Nat} {σ : L2.St} {H1 : Hp} {D : Addr} {Qd : Hp → Prop} (p : Nat → Bool) (S : SqT K H1 a xs) (nD : H1 D = none) (hl : xs.length ≤ 1000)
    (hs : ∀ i x H (Z : VK) (N : Hp → Prop), xs[i]? = some x → Same H1 H → (∀ H3, Same H H3 → if p i = true then Z x H3 else N H3) → g x (wipe σ vs) H fun σ2 H2 => wipe σ2 vs = wipe σ vs ∧ tt σ2 H2 fun b H3 => if b = true then te σ2 H3 Z else N H3)
    (hd : ∀ H acc, Same H1 H → H D = some (.lst acc) → acc.isEmpty = (List.range xs.length).all (fun j => !p j) → Qd H) :
    ∃ W : Nat → Nat → Hp → Prop, (∃ m, W 0 m (upd H1 D (.lst []))) ∧ ∀ i m H, W i m H →
      ((Itt K a).stop i H ∧ Qd H) ∨ ((Itt K a).go i H ∧ ∃ Nx : Hp → Prop, (∀ H', Nx H' → ∃ m', m' < m ∧ W (i + 1) m' H') ∧ ∀ v H', (Itt K a).yld i H v H' → g v (wipe σ vs) H' fun σ2 H2 => wipe σ2 vs = wipe σ vs ∧ tt σ2 H2 fun b H3 =>
        if b = true then te σ2 H3 fun y H4 => ∃ acc, H4 D = some (.lst acc) ∧ acc.length < sizeLine ∧ Nx (upd H4 D (.lst (acc ++ [y]))) else Nx H3) := by
  have sD : ∀ {H}, But (upd H1 D (.lst [])) H (.ref D) → Same H1 H := fun b q u z => b q u (laidK nD q u z) fun w => by
    cases w
    rw [nD] at z
    cases z
  refine lc_tup (xs := xs) (fun i H => But (upd H1 D (.lst [])) H (.ref D) ∧ ∃ acc, H D = some (.lst acc) ∧ acc.length ≤ i ∧ acc.isEmpty = (List.range i).all (fun j => !p j)) ⟨But.refl, [], upd_same, Nat.le_refl _, rfl⟩ (fun i H _ q => sqT_same S (sD q.1)) (fun i x H hx q => ?_) (fun H q => ?_)
  · obtain ⟨b, acc, e, la, ea⟩ := q
    have hi : i < xs.length := (List.getElem?_eq_some_iff.mp hx).1
    refine hs i x H _ _ hx (sD b) fun H3 s3 => ?_
    split
    · rename_i hp
      refine ⟨acc, s3 _ _ e, by rw [sizeLine_eq]; omega, b.trans ((same_butK s3).trans upd_but), acc ++ [x], upd_same, by rw [List.length_append]; show acc.length + 1 ≤ i + 1; omega, ?_⟩
      rw [all_succ, hp, Bool.not_true, Bool.and_false]
      simp
    · rename_i hp
      refine ⟨b.trans (same_butK s3), acc, s3 _ _ e, by omega, ?_⟩
      rw [all_succ, Bool.eq_false_iff.mpr hp, Bool.not_false, Bool.and_true]
      exact ea
  · obtain ⟨b, acc, e, _, ea⟩ := q
    exact hd H acc (sD b) e ea
/-- the signs of a text that p tells: are there none -/
theorem lc_noneStr {x : Str} {g : TG} {tt : TT} {te : TE} {vs : List Nat} {σ : L2.St} {H1 : Hp} {D : Addr} {Qd : Hp → Prop} (p : Nat → Bool) (nD : H1 D = none) (hl : x.cps.toList.length ≤ 1000)
    (hs : ∀ c H (Z : VK) (N : Hp → Prop), c ∈ x.cps.toList → Same H1 H → (∀ H3, Same H H3 → if p c = true then Z (.str ⟨#[c]⟩) H3 else N H3) → g (.str ⟨#[c]⟩) (wipe σ vs) H fun σ2 H2 => wipe σ2 vs = wipe σ vs ∧ tt σ2 H2 fun b H3 => if b = true then te σ2 H3 Z else N H3)
    (hd : ∀ H acc, Same H1 H → H D = some (.lst acc) → acc.isEmpty = x.cps.toList.all (fun c => !p c) → Qd H) :
    ∃ W : Nat → Nat → Hp → Prop, (∃ m, W 0 m (upd H1 D (.lst []))) ∧ ∀ i m H, W i m H →
      ((Its x).stop i H ∧ Qd H) ∨ ((Its x).go i H ∧ ∃ Nx : Hp → Prop, (∀ H', Nx H' → ∃ m', m' < m ∧ W (i + 1) m' H') ∧ ∀ v H', (Its x).yld i H v H' → g v (wipe σ vs) H' fun σ2 H2 => wipe σ2 vs = wipe σ vs ∧ tt σ2 H2 fun b H3 =>
        if b = true then te σ2 H3 fun y H4 => ∃ acc, H4 D = some (.lst acc) ∧ acc.length < sizeLine ∧ Nx (upd H4 D (.lst (acc ++ [y]))) else Nx H3) := by
  have sD : ∀ {H}, But (upd H1 D (.lst [])) H (.ref D) → Same H1 H := fun b q u z => b q u (laidK nD q u z) fun w => by
    cases w
    rw [nD] at z
    cases z
  refine lc_str (fun i H => But (upd H1 D (.lst [])) H (.ref D) ∧ ∃ acc, H D = some (.lst acc) ∧ acc.length ≤ i ∧ acc.isEmpty = (x.cps.toList.take i).all (fun c => !p c)) ⟨But.refl, [], upd_same, Nat.le_refl _, rfl⟩ (fun i c H hc q => ?_) (fun H q => ?_)
  · obtain ⟨b, acc, e, la, ea⟩ := q
    have hi : i < x.cps.toList.length := (List.getElem?_eq_some_iff.mp hc).1
    have ts : (x.cps.toList.take (i + 1)).all (fun c => !p c) = ((x.cps.toList.take i).all (fun c => !p c) && !p c) := by
      rw [List.take_add_one, hc, List.all_append]
      simp
    refine hs c H _ _ (List.mem_of_getElem? hc) (sD b) fun H3 s3 => ?_
    split
    · rename_i hp
      refine ⟨acc, s3 _ _ e, by rw [sizeLine_eq]; omega, b.trans ((same_butK s3).trans upd_but), acc ++ [_], upd_same, by rw [List.length_append]; show acc.length + 1 ≤ i + 1; omega, ?_⟩
      rw [ts, hp, Bool.not_true, Bool.and_false]
      simp
    · rename_i hp
      refine ⟨b.trans (same_butK s3), acc, s3 _ _ e, by omega, ?_⟩
      rw [ts, Bool.eq_false_iff.mpr hp, Bool.not_false, Bool.and_true]
      exact ea
  · obtain ⟨b, acc, e, _, ea⟩ := q
    rw [List.take_length] at ea
    exact hd H acc (sD b) e ea
end KK

set_option Elab.async false
set_option linter.all false
set_option maxRecDepth 100000
set_option maxHeartbeats 2000000
/-! R. values made only of what is written; a text some times over; two tuples in one -/
namespace KK
open PySem PySem.Spec L2
open PyProof.Rows hiding St

theorem sameR {H : Hp} : Same H H := fun _ _ e => e
theorem weakE {X : Cx} {e : Expr} {t t' : TE} (h : PE X e t) (k : ∀ σ H Q, t' σ H Q → t σ H Q) : PE X e t' := ⟨fun pins s σ H Q I q => h.run pins s σ H Q I (k σ H Q q)⟩
theorem weakA {X : Cx} {es : List Expr} {t t' : TA} (h : PA X es t) (k : ∀ σ H Q, t' σ H Q → t σ H Q) : PA X es t' := ⟨fun pos pins s σ H Q I q => h.run pos pins s σ H Q I (k σ H Q q)⟩
theorem weakO {X : Cx} {f : Value → Value → Sem Value} {r r' : R2} (h : OpR X f r) (k : ∀ x y H Q, r' x y H Q → r x y H Q) : OpR X f r' := fun pins s σ H x y v u Q I rx ry q => h pins s σ H x y v u Q I rx ry (k x y H Q q)

/-- written: new where it stands -/
structure Lit (H H' : Hp) (v : V) (d : PyData) : Prop where
  ex : ∃ S, Dz H' v d S ∧ ∀ p ∈ S, H p = none
  same : Same H H'
structure Lits (H H' : Hp) (vs : List V) (ds : List PyData) : Prop where
  ex : ∃ S, DzAll H' vs ds S ∧ ∀ p ∈ S, H p = none
  same : Same H H'
def tLit (C : L2.St → Prop) (d : PyData) : TE := fun σ H Q => C σ ∧ ∀ v H', Lit H H' v d → Q v H'
def tLits (C : L2.St → Prop) (ds : List PyData) : TA := fun σ H Q => C σ ∧ ∀ vs H', Lits H H' vs ds → Q vs H'
theorem Lits.cons {H H1 H2 : Hp} {v : V} {d : PyData} {vs : List V} {ds : List PyData} (a : Lit H H1 v d) (b : Lits H1 H2 vs ds) : Lits H H2 (v :: vs) (d :: ds) := by
  obtain ⟨S, z, n⟩ := a.ex
  obtain ⟨S', z', n'⟩ := b.ex
  refine ⟨⟨S ++ S', .cons (z.same b.same) z', fun p m => ?_⟩, a.same.trans b.same⟩
  rcases List.mem_append.mp m with m | m
  · exact n p m
  · exact a.same.free (n' p m)
theorem lit_new {H H1 H2 : Hp} {vs : List V} {ds : List PyData} {p : Addr} (a : Lits H H1 vs ds) (n : H1 p = none) (e : upd H1 p (.tup vs) = H2) : Lit H H2 (.ref p) (.tuple ds) := by
  subst e
  obtain ⟨S, z, nS⟩ := a.ex
  have np : p ∉ S := fun m => by
    have q := DzAll.there z p m
    rw [n] at q
    obtain ⟨o, q⟩ := q
    cases q
  refine ⟨⟨p :: S, .tup upd_same (z.keep fun b m o q => laidK n _ _ q) np, fun q m => ?_⟩, a.same.trans (laidK n)⟩
  rcases List.mem_cons.mp m with m | m
  · rw [m]
    exact a.same.free n
  · exact nS q m
theorem lit_newL {H H1 H2 : Hp} {vs : List V} {ds : List PyData} {p : Addr} (a : Lits H H1 vs ds) (n : H1 p = none) (e : upd H1 p (.lst vs) = H2) : Lit H H2 (.ref p) (.list ds) := by
  subst e
  obtain ⟨S, z, nS⟩ := a.ex
  have np : p ∉ S := fun m => by
    have q := DzAll.there z p m
    rw [n] at q
    obtain ⟨o, q⟩ := q
    cases q
  refine ⟨⟨p :: S, .lst upd_same (z.keep fun b m o q => laidK n _ _ q) np, fun q m => ?_⟩, a.same.trans (laidK n)⟩
  rcases List.mem_cons.mp m with m | m
  · rw [m]
    exact a.same.free n
  · exact nS q m
theorem dzAll_len {H : Hp} : ∀ {vs : List V} {ds : List PyData} {S : List Addr}, DzAll H vs ds S → vs.length = ds.length
  | _, _, _, .nil => rfl
  | _, _, _, .cons _ r => by rw [List.length_cons, List.length_cons, dzAll_len r]
theorem lits_len {H H' : Hp} {vs : List V} {ds : List PyData} (a : Lits H H' vs ds) : vs.length = ds.length := by
  obtain ⟨S, z, _⟩ := a.ex
  exact dzAll_len z
section
variable {X : Cx} {C : L2.St → Prop} {e : Expr} {es : List Expr} {d : PyData} {ds : List PyData} {pos : Pos}
theorem lit_c {v : V} (h : PE X e (tC v)) (z : ∀ H, Dz H v d []) : PE X e (tLit C d) := weakE h fun σ H Q q => q.2 v H ⟨⟨[], z H, nofun⟩, sameR⟩
theorem lit_int {i : Int} {t : _} : PE X (.Constant (.int i) t pos) (tLit C (.int i)) := lit_c pe_int fun _ => .int i
theorem lit_bl {b : Bool} {t : _} : PE X (.Constant (.bool b) t pos) (tLit C (.bool b)) := lit_c pe_bl fun _ => .bl b
theorem lit_str {x : Str} {t : _} : PE X (.Constant (.str x) t pos) (tLit C (.str x)) := lit_c pe_str fun _ => .str x
theorem lit_non {t : _} : PE X (.Constant .none t pos) (tLit C .none) := lit_c pe_non fun _ => .non
theorem lits_nil : PA X [] (tLits C []) := weakA pa_nil fun σ H Q q => q.2 [] H ⟨⟨[], .nil, nofun⟩, sameR⟩
theorem lits_cons (ha : PE X e (tLit C d)) (hr : PA X es (tLits C ds)) (hs : starEach (e :: es) X.env = (false, eval e X.env) :: starEach es X.env := by rfl) : PA X (e :: es) (tLits C (d :: ds)) :=
  weakA (pa_cons ha hr hs) fun σ H Q q => ⟨q.1, fun v H1 l1 => ⟨q.1, fun vs H2 l2 => q.2 _ _ (Lits.cons l1 l2)⟩⟩
theorem lit_tup {x1 : _} (h : PA X es (tLits C ds)) (n : ds.length ≤ 1000 := by decide) : PE X (.Tuple es x1 pos) (tLit C (.tuple ds)) :=
  weakE (pe_tup h) fun σ H Q q => ⟨q.1, fun vs H1 l1 => ⟨by rw [lits_len l1, sizeLine_eq]; omega, fun p np => q.2 _ _ (lit_new l1 np rfl)⟩⟩
theorem lit_lst (h : PA X es (tLits C ds)) (n : ds.length ≤ 1000 := by decide) : PE X (.List es pos) (tLit C (.list ds)) :=
  weakE (pe_lst h) fun σ H Q q => ⟨q.1, fun vs H1 l1 => ⟨by rw [lits_len l1, sizeLine_eq]; omega, fun p np => q.2 _ _ (lit_newL l1 np rfl)⟩⟩
theorem lit_d0 : PE X (.Dict [] [] pos) (tLit C (.dict [])) := weakE pe_dnewK fun σ H Q q p np => q.2 _ _ ⟨⟨[p], .dic (S := []) upd_same .nil (by simp), fun b m => by rw [List.mem_singleton.mp m]; exact np⟩, laidK np⟩
theorem lit_d1 {x : Str} {i : Int} {t1 t2 : _} {p1 p2 : Pos} : PE X (.Dict [some (.Constant (.str x) t1 p1)] [.Constant (.int i) t2 p2] pos) (tLit C (.dict [(.str x, .int i)])) :=
  weakE (pe_disp (pps_cons pe_str pe_int pps_nil) (by rfl) (by rfl) (fun z => by cases z) (by show 1 ≤ 15; decide)) fun σ H Q q p np => by
    refine ⟨upd_same, [(.inr x, .int i)], rfl, by show 1 ≤ 15; decide, q.2 _ _ ⟨⟨[p], .dic (S := []) upd_same (.cons (k := .inr x) (S := []) (S' := []) (.int i) .nil) (by simp), fun b m => by rw [List.mem_singleton.mp m]; exact np⟩, fun b o e => ?_⟩⟩
    have nb : b ≠ p := ne_of_none e np
    rw [upd_ne nb, upd_ne nb]
    exact e
/-- a text some times over -/
theorem op_mul_str : OpR X (binaryOp .Mult) (fun x y H Q => ∃ a k, x = .str a ∧ y = .int k ∧ 2 ≤ k ∧ k ≤ 1000 ∧ 1 ≤ a.length ∧ a.length ≤ 1000 ∧ (⟨(List.replicate k.toNat a.cps).foldl (· ++ ·) #[]⟩ : Str).length ≤ sizeLine ∧ Q (.str ⟨(List.replicate k.toNat a.cps).foldl (· ++ ·) #[]⟩) H) := by
  intro pins s σ H x y v u Q I rx ry h
  obtain ⟨a, k, rfl, rfl, k2, k9, a1, a9, lz, q⟩ := h
  obtain ⟨t, rfl⟩ := rx
  obtain ⟨t', rfl⟩ := ry
  have n1 : ¬ k < 1 := by omega
  have n2 : (k == 1 || a.length == 0) = false := by
    rw [Bool.or_eq_false_iff, beq_eq_false_iff_ne, beq_eq_false_iff_ne]
    omega
  have mm : a.length * k.toNat ≤ 1000 * 1000 := Nat.mul_le_mul a9 (by omega)
  refine PySem.P.mul_str (by rw [decide_eq_false (by omega), decide_eq_false (by omega)]; rfl) (fun _ _ z => ?_) (fun _ _ => ?_) ?_
  · have d1 : k * (a.length : Int) ≤ 1000000 := by
      have := Int.mul_le_mul (show k ≤ 1000 by omega) (show (a.length : Int) ≤ 1000 by omega) (by omega) (by decide)
      omega
    have d2 := Int.mul_ediv_add_emod (2 ^ 63 - 1) k
    have d3 := Int.emod_lt_of_pos (2 ^ 63 - 1) (show 0 < k by omega)
    have d4 : k * ((2 ^ 63 - 1) / k) < k * (a.length : Int) := Int.mul_lt_mul_of_pos_left z (by omega)
    omega
  · unfold Builtin.Str.tooLong
    rw [sizeLine_eq]
    exact decide_eq_false (by omega)
  · rw [if_neg n1, if_neg (by rw [n2]; decide)]
    exact ⟨lz, .str _, H, I.tok _, ⟨_, rfl⟩, q⟩
/-- t + u, u not empty: what comes stands at u or anew -/
theorem op_cat1 : OpR X (binaryOp .Add) (fun x y H Q => ∃ a b xs ys, x = .ref a ∧ y = .ref b ∧ H a = some (.tup xs) ∧ H b = some (.tup ys) ∧ ys ≠ [] ∧ xs.length + ys.length ≤ 2000 ∧ ∀ p H', Same H H' → H' p = some (.tup (xs ++ ys)) → (p = b ∨ H p = none) → Q (.ref p) H') :=
  weakO op_catA fun x y H Q ⟨a, b, xs, ys, ex, ey, ea, eb, ne, l, q⟩ => ⟨a, b, xs, ys, ex, ey, SqT.of ea, SqT.of eb, by rw [sizeLine_eq]; omega,
    fun z => q b H sameR (by rw [z, eb]; rfl) (.inl rfl), fun _ z => absurd z ne, fun _ _ p np => q p _ (laidK np) upd_same (.inr np)⟩
/-- t + u, t not empty: what comes stands at t or anew -/
theorem op_cat2 : OpR X (binaryOp .Add) (fun x y H Q => ∃ a b xs ys, x = .ref a ∧ y = .ref b ∧ H a = some (.tup xs) ∧ H b = some (.tup ys) ∧ xs ≠ [] ∧ xs.length + ys.length ≤ 2000 ∧ ∀ p H', Same H H' → H' p = some (.tup (xs ++ ys)) → (p = a ∨ H p = none) → Q (.ref p) H') :=
  weakO op_catA fun x y H Q ⟨a, b, xs, ys, ex, ey, ea, eb, ne, l, q⟩ => ⟨a, b, xs, ys, ex, ey, SqT.of ea, SqT.of eb, by rw [sizeLine_eq]; omega,
    fun z => absurd z ne, fun _ z => q a H sameR (by rw [z, List.append_nil, ea]) (.inl rfl), fun _ _ p np => q p _ (laidK np) upd_same (.inr np)⟩
theorem dz_rep {H : Hp} {v : V} {d : PyData} (z : Dz H v d []) : ∀ n, DzAll H (List.replicate n v) (List.replicate n d) []
  | 0 => .nil
  | n + 1 => .cons (S := []) (S' := []) z (dz_rep z n)
/-- (x,) * n, x without a place -/
theorem lit_rep {C : L2.St → Prop} {e : Expr} {t1 t2 : _} {p1 p2 p3 : Pos} {v : V} {d : PyData} {k : Int} (h : PE X e (tC v)) (z : ∀ H, Dz H v d []) (k2 : 2 ≤ k) (k9 : k ≤ 1000) (hs : starEach [e] X.env = (false, eval e X.env) :: starEach [] X.env := by rfl) :
    PE X (.BinOp (.Tuple [e] t1 p1) .Mult (.Constant (.int k) t2 p2) p3) (tLit C (.tuple (List.replicate k.toNat d))) :=
  weakE (pe_op op_repT (pe_tup (pa_cons h pa_nil hs)) pe_int) fun σ H Q q => by
    refine ⟨by rw [sizeLine_eq]; show 1 ≤ _; omega, fun p np => ⟨p, k, [v], rfl, rfl, SqT.of upd_same, by simp, k2, k9, by show 1 ≤ 1000; decide, fun p2 np2 => ?_⟩⟩
    have e : (List.replicate k.toNat [v]).flatten = List.replicate k.toNat v := by
      induction k.toNat with
      | zero => rfl
      | succ n ih => rw [List.replicate_succ, List.flatten_cons, ih, List.replicate_succ]; rfl
    rw [e]
    have n2 : H p2 = none := (laidK np).free np2
    refine q.2 _ _ ⟨⟨[p2], .tup (S := []) upd_same (dz_rep (z _) _) (by simp), fun b m => by rw [List.mem_singleton.mp m]; exact n2⟩, (laidK np).trans (laidK np2)⟩
end
end KK

set_option Elab.async false
set_option linter.all false
set_option maxRecDepth 100000
set_option maxHeartbeats 2000000
/-! S. several except clauses, with names or without; what stands behind the last that is looked at is never reached -/
namespace KK
open PySem PySem.Spec L2
open PyProof.Rows hiding St

abbrev Su := Addr → Value → Option Addr → TS
/-- the end of a suite whose clause has a name in slot i -/
def offE (i : Nat) (D : Ends) : Ends := { nx := fun σ H => D.nx (σ.set i none) H, rt := D.rt, bk := fun σ H => D.bk (σ.set i none) H, ct := fun σ H => D.ct (σ.set i none) H }
def suE : Option Nat → Su → Addr → Value → Option Addr → Ends → L2.St → Hp → Prop
  | none, ts, a, cls, d, D, σ, H => ts a cls d D σ H
  | some i, ts, a, cls, d, D, σ, H => ts a cls d (offE i D) (σ.set i (some (.ref a))) H
def wHs (K : PySem.W.Frag) (D : Ends) : List (Value × Option Nat × Su) → WX
  | [] => fun _ _ _ _ => False
  | (c, oi, ts) :: r => fun cls d σ H => ∃ b, PySem.W.exmOne K cls c = some b ∧ (b = true → ∀ a, H a = none → suE oi ts a cls d D σ H) ∧ (b = false → wHs K D r cls d σ H)
inductive Hs (X : Cx) : List ExceptHandler → List (Value × Option Nat × Su) → Prop
  | stop {hds : List ExceptHandler} : Hs X hds []
  | bare {x : Str} {c : Value} {ts : Su} {b₀ : Stmt} {suite : List Stmt} {np pos' : Pos} {hds : List ExceptHandler} {l : List (Value × Option Nat × Su)} (hc : Names X x c)
      (hsu : ∀ (a : Addr) (oe : Obj) (cls : Value) (d : Option Addr) (pn : List (Addr × Obj)), Zc cls d oe → (∃ vs, oe.data = .fields vs) → PSs (X.suite a ((a, oe) :: pn)) (b₀ :: suite) (ts a cls d)) (r : Hs X hds l) :
      Hs X (.ExceptHandler (some (.Name x np)) none (b₀ :: suite) pos' :: hds) ((c, none, ts) :: l)
  | named {x n : Str} {c : Value} {i : Nat} {ts : Su} {b₀ : Stmt} {suite : List Stmt} {np pos' : Pos} {hds : List ExceptHandler} {l : List (Value × Option Nat × Su)} (hN : X.N.Nodup) (hi : X.N[i]? = some n) (hln : X.env.kindOf n = some .local) (hc : Names X x c)
      (hsu : ∀ (a : Addr) (oe : Obj) (cls : Value) (d : Option Addr) (pn : List (Addr × Obj)), Zc cls d oe → (∃ vs, oe.data = .fields vs) → PSs (X.suite a ((a, oe) :: pn)) (b₀ :: suite) (ts a cls d)) (r : Hs X hds l) :
      Hs X (.ExceptHandler (some (.Name x np)) (some n) (b₀ :: suite) pos' :: hds) ((c, some i, ts) :: l)
section
variable {X : Cx} {body : List Stmt} {h₀ : ExceptHandler} {hds : List ExceptHandler} {l : List (Value × Option Nat × Su)} {pos : Pos} {tb : WX → TS}
/-- the clauses one behind the other, once the exception is on the ground -/
theorem hs_go {pins : List (Addr × Obj)} {σ' : L2.St} {H' : Hp} {a : Addr} {B : Heap} {cls : Value} {d : Option Addr} {D : Ends} {s3 : Shared} (ok : X.Ok)
    (fl : HandSPX.FlyingZ B (X.env :: X.outer) a (Zc cls d) s3.heap) (nL : a ≠ X.env.locals) (nF : a ∉ X.fs) (na : H' a = none)
    (land : ∀ h4, HandSPX.FlyingZ B (X.env :: X.outer) a (Zc cls d) h4 → s3.heap.UpToSlots h4 → Inv X pins σ' H' { s3 with heap := h4 }) {hds' : List ExceptHandler} {l' : List (Value × Option Nat × Su)} (hk : Hs X hds' l') :
    wHs X.K D l' cls d σ' H' → wpAny (model X.prog X.w) X.A (handleBy (.ref a) X.env hds') (SP X pins D) X.xe s3 := by
  have J3 : Inv X pins σ' H' s3 := land s3.heap fl (Heap.UpToSlots.refl _)
  obtain ⟨o3, w3, g3, z3, k3⟩ := fl.there
  have S3 := J3.suite g3 k3 na nL nF
  have tyL : PySem.W.Looks (model X.prog X.w) s3.heap (typeOf (.ref a)) cls := fun _ _ _ _ kp q => wpAny_typeOf_ref (kp _ _ g3) (by rw [z3.1]; exact q)
  have asked : ∀ {x : Str} {c : Value} {np : Pos} {Q E : Value → Shared → Prop}, Names X x c → Q c s3 → wpAny (model X.prog X.w) (X.A.mark (some (.ref a))) (eval (.Name x np) X.env) Q E s3 := fun {x c np Q E} hc q => by
    rcases hc with ⟨g1, g2, g3 | ⟨g3, g4, g5⟩⟩
    · exact ld_glob (X := X.suite a ((a, o3) :: (X.pn ++ pins))) S3 g1 g3 q g2
    · exact ld_blt (X := X.suite a ((a, o3) :: (X.pn ++ pins))) S3 g1 g3 g4 q g5 g2
  induction hk with
  | stop => exact fun z => z.elim
  | bare hc hsu r ih =>
    rintro ⟨b, e, yes, no⟩
    have M := PySem.W.exm_one (M := model X.prog X.w) (J3.kIn) tyL e
    refine wpAny_handleBy_cons (codeAny_handlers_test ?_) (by intro q; cases q)
    refine asked hc (M.here ?_)
    cases b
    · exact ih (no rfl)
    refine codeAny_handlers_suite (HandSPX.lands_againZ fl fun h4 fl4 up4 => ?_)
    obtain ⟨o4, w4, g4, z4, k4⟩ := fl4.there
    refine wpAny_mono ((hsu a o4 cls d (X.pn ++ pins) z4 ⟨_, k4⟩).run [] _ _ H' _ ((land h4 fl4 up4).suite g4 k4 na nL nF) (yes rfl a na)) (fun f s6 fin => ?_) (fun _ _ z => z.elim)
    cases f <;> first
      | (obtain ⟨σ6, H6, S6, q6⟩ := fin; exact ⟨_, _, S6.unsuite ok, q6⟩)
      | (obtain ⟨v6, σ6, H6, S6, r6, q6⟩ := fin; exact ⟨_, _, _, S6.unsuite ok, r6, q6⟩)
  | @named x n c i ts b₀ suite np pos' hds l hN hi hln hc hsu r ih =>
    rintro ⟨b, e, yes, no⟩
    have M := PySem.W.exm_one (M := model X.prog X.w) (J3.kIn) tyL e
    refine wpAny_handleBy_cons (codeAny_handlers_test ?_) (by intro q; cases q)
    refine asked hc (M.here ?_)
    cases b
    · exact ih (no rfl)
    refine codeAny_handlers_suite_as (HandSPX.lands_againZ fl fun h4 fl4 up4 => ?_)
    obtain ⟨o4, w4, g4, z4, k4⟩ := fl4.there
    refine store_ok (X := X.suite a ((a, o4) :: (X.pn ++ pins))) (v := .ref a) ((land h4 fl4 up4).suite g4 k4 na nL nF) hN hi (.inl hln) rfl (fun s5 S5 => ?_) (.inr hln)
    refine wpAny_mono ((hsu a o4 cls d (X.pn ++ pins) z4 ⟨_, k4⟩).run [] s5 _ H' _ S5 (yes rfl a na)) (fun f s6 fin => ?_) (fun _ _ z => z.elim)
    cases f <;> first
      | (obtain ⟨σ6, H6, S6, q6⟩ := fin; exact gone_ok (S6.unsuite ok) hN hi hln fun s7 J7 => ⟨_, _, J7, q6⟩)
      | (obtain ⟨v6, σ6, H6, S6, r6, q6⟩ := fin; exact gone_ok (S6.unsuite ok) hN hi hln fun s7 J7 => ⟨_, _, _, J7, r6, q6⟩)
theorem ps_try_hs (st : X.stack = X.env :: X.outer) (hf : X.env.frame = some X.env.locals)
    (hb : ∀ (W : WX) (pn : List (Addr × Obj)) (xe : Value → Shared → Prop), Takes (X.tr pn xe) W → PassesOwn (model X.prog X.w) X.A X.env xe → PSs (X.tr pn xe) body (tb W))
    (hh : Hs X (h₀ :: hds) l) : PS X (.Try body (h₀ :: hds) [] [] pos) (fun D σ H => tb (wHs X.K D l) D σ H) := by
  constructor
  intro pins s σ H D I h
  have ok := I.ok
  have frm : X.A.frames = some (X.env :: X.outer) := by rw [ok.frames, st]
  refine wpAny_Try_except (wpAny_mono ((hb (wHs X.K D l) (X.pn ++ pins) (fun e s₁ => wpAny (model X.prog X.w) X.A (noteFrame e X.env) (fun _ s₂ => wpAny (model X.prog X.w) X.A (setFlight e none) (fun _ s₃ =>
    wpAny (model X.prog X.w) X.A (handleBy e X.env (h₀ :: hds)) (SP X pins D) X.xe s₃) X.xe s₂) X.xe s₁) (fun u s' xx => ?_) PassesOwn.looking).run [] s σ H D (I.toTry _) h) (fun f s1 fin => ?_) (fun e s1 he => he))
  · obtain ⟨a, B, sI, pins', σ', H', cls, d, rfl, J', nb, up, sky, na, os, ag, w⟩ := xx
    have J : Inv X pins σ' H' sI := J'.ofTry ok
    rw [show (X.tr (X.pn ++ pins) _).stack = X.env :: X.outer from st] at sky
    refine Sky.land Zc.steady frm hf sky fun h3 fl3 up3 => ?_
    have off : a ∉ frs (X.env :: X.outer) := fun hm => by
      obtain ⟨o3, w3, g3, _, k3⟩ := fl3.there
      obtain ⟨_, o', e', nf⟩ := fl3.2.2.1.mem hm
      rw [g3] at e'
      cases e'
      exact nf _ k3
    refine hs_go (s3 := { s' with heap := h3 }) ok fl3 (fun z => off (List.mem_filterMap.mpr ⟨X.env, List.mem_cons_self, by rw [hf, z]⟩)) (fun hm => ?_) na (fun h4 fl4 up4 => J.landed nb fl4.1 ((up.trans up3).trans up4) os ag) hh w
    obtain ⟨e, he, q⟩ := List.mem_filterMap.mp hm
    exact off (List.mem_filterMap.mpr ⟨e, List.mem_cons_of_mem _ he, q⟩)
  · cases f <;> first
      | (obtain ⟨σ', H', J', q⟩ := fin; exact wpAny_execs_nil ⟨σ', H', J'.ofTry ok, q⟩)
      | (obtain ⟨σ', H', J', q⟩ := fin; exact ⟨σ', H', J'.ofTry ok, q⟩)
      | (obtain ⟨v, σ', H', J', r, q⟩ := fin; exact ⟨v, σ', H', J'.ofTry ok, r, q⟩)
end
end KK

set_option Elab.async false
set_option linter.all false
set_option maxRecDepth 100000
set_option maxHeartbeats 2000000
/-! T. more of what is written; tuples cut and put together -/
namespace KK
open PySem PySem.Spec L2
open PyProof.Rows hiding St
section
variable {X : Cx} {C : L2.St → Prop} {e : Expr} {es : List Expr} {d : PyData} {ds : List PyData} {pos : Pos}
theorem weakSs {X : Cx} {st : List Stmt} {t t' : TS} (h : PSs X st t) (k : ∀ D σ H, t' D σ H → t D σ H) : PSs X st t' := ⟨fun pins s σ H D I q => h.run pins s σ H D I (k D σ H q)⟩
theorem lit_neg {i : Int} {t : _} {p1 : Pos} : PE X (.UnaryOp .USub (.Constant (.int i) t p1) pos) (tLit C (.int (-i))) := weakE (pe_un un_neg pe_int) fun σ H Q q => ⟨_, rfl, q.2 _ _ ⟨⟨[], .int _, nofun⟩, sameR⟩⟩
theorem lit_mulS {x : Str} {k : Int} {t1 t2 : _} {p1 p2 : Pos} {z : Str} (e : (⟨(List.replicate k.toNat x.cps).foldl (· ++ ·) #[]⟩ : Str) = z) (k2 : 2 ≤ k) (k9 : k ≤ 1000) (x1 : 1 ≤ x.length) (x9 : x.length ≤ 1000) (lz : z.length ≤ 1000) :
    PE X (.BinOp (.Constant (.str x) t1 p1) .Mult (.Constant (.int k) t2 p2) pos) (tLit C (.str z)) :=
  weakE (pe_op op_mul_str pe_str pe_int) fun σ H Q q => ⟨_, _, rfl, rfl, k2, k9, x1, x9, by rw [e, sizeLine_eq]; omega, by rw [e]; exact q.2 _ _ ⟨⟨[], .str _, nofun⟩, sameR⟩⟩
theorem dzAll_take {H : Hp} : ∀ {vs : List V} {ds : List PyData} {S : List Addr}, DzAll H vs ds S → ∀ i, ∃ S', DzAll H (vs.take i) (ds.take i) S' ∧ ∀ p ∈ S', p ∈ S
  | _, _, _, .nil, i => ⟨[], by rw [List.take_nil, List.take_nil]; exact .nil, nofun⟩
  | _, _, _, .cons h r, 0 => ⟨[], .nil, nofun⟩
  | _, _, _, .cons h r, i + 1 => by
    obtain ⟨S', z, m⟩ := dzAll_take r i
    refine ⟨_, .cons h z, fun p q => ?_⟩
    rcases List.mem_append.mp q with q | q
    · exact List.mem_append_left _ q
    · exact List.mem_append_right _ (m p q)
theorem dzAll_drop {H : Hp} : ∀ {vs : List V} {ds : List PyData} {S : List Addr}, DzAll H vs ds S → ∀ i, ∃ S', DzAll H (vs.drop i) (ds.drop i) S' ∧ ∀ p ∈ S', p ∈ S
  | _, _, _, .nil, i => ⟨[], by rw [List.drop_nil, List.drop_nil]; exact .nil, nofun⟩
  | _, _, _, .cons h r, 0 => ⟨_, .cons h r, fun p q => q⟩
  | _, _, _, .cons h r, i + 1 => by
    obtain ⟨S', z, m⟩ := dzAll_drop r i
    exact ⟨S', z, fun p q => List.mem_append_right _ (m p q)⟩
theorem dzAll_app {H : Hp} : ∀ {vs ws : List V} {ds es : List PyData} {S S' : List Addr}, DzAll H vs ds S → DzAll H ws es S' → ∃ T, DzAll H (vs ++ ws) (ds ++ es) T ∧ ∀ p ∈ T, p ∈ S ∨ p ∈ S'
  | _, _, _, _, _, _, .nil, b => ⟨_, b, fun p q => .inr q⟩
  | _, _, _, _, _, _, .cons h r, b => by
    obtain ⟨T, z, m⟩ := dzAll_app r b
    refine ⟨_, .cons h z, fun p q => ?_⟩
    rcases List.mem_append.mp q with q | q
    · exact .inl (List.mem_append_left _ q)
    · rcases m p q with q | q
      · exact .inl (List.mem_append_right _ q)
      · exact .inr q
theorem dzAll_at {H : Hp} : ∀ {vs : List V} {ds : List PyData} {S : List Addr}, DzAll H vs ds S → ∀ {i : Nat} {v : V}, vs[i]? = some v → ∃ d S', ds[i]? = some d ∧ Dz H v d S' ∧ ∀ p ∈ S', p ∈ S
  | _, _, _, .cons h r, 0, v, e => by
    cases e
    exact ⟨_, _, rfl, h, fun p q => List.mem_append_left _ q⟩
  | _, _, _, .cons h r, i + 1, v, e => by
    obtain ⟨d, S', e', z, m⟩ := dzAll_at r (i := i) e
    exact ⟨d, S', e', z, fun p q => List.mem_append_right _ (m p q)⟩
theorem cut_head (xs : List V) (i : Nat) (h : i < xs.length) : cutV xs none (some (i : Int)) = xs.take i := by
  have e : HT.sIx xs.length xs.length (some (i : Int)) = i := by
    first
      | (rw [HT.sIx_nat]; omega)
      | (rw [show ((i : Int) + 1) = ((i + 1 : Nat) : Int) by omega, HT.sIx_nat]; omega)
  have e0 : HT.sIx xs.length 0 none = 0 := rfl
  unfold cutV
  rw [e, e0]
  rfl
theorem cut_tail (xs : List V) (i : Nat) (h : i < xs.length) : cutV xs (some ((i : Int) + 1)) none = xs.drop (i + 1) := by
  have e : HT.sIx xs.length 0 (some ((i : Int) + 1)) = i + 1 := by
    first
      | (rw [HT.sIx_nat]; omega)
      | (rw [show ((i : Int) + 1) = ((i + 1 : Nat) : Int) by omega, HT.sIx_nat]; omega)
  have e0 : HT.sIx xs.length xs.length none = xs.length := rfl
  unfold cutV
  rw [e, e0]
  exact List.take_of_length_le (by rw [List.length_drop]; omega)
/-- t[:i], i within t -/
theorem sl_head {X : Cx} : SlR X (fun x lo hi H Q => ∃ a xs i, x = .ref a ∧ lo = none ∧ hi = some ((i : Nat) : Int) ∧ H a = some (.tup xs) ∧ i < xs.length ∧ ∀ p, H p = none → Q (.ref p) (upd H p (.tup (xs.take i)))) := by
  intro pins s σ H x v vl vu lo hi sl Q I rx hs pl pu h
  obtain ⟨a, xs, i, rfl, rfl, rfl, e, hi, q⟩ := h
  refine sl_tup pins s σ H _ v vl vu _ _ sl Q I rx hs pl pu ⟨a, xs, rfl, SqT.of e, fun z => ?_, fun p np => by rw [cut_head xs i hi]; exact q p np⟩
  have e : HT.sIx xs.length xs.length (some (i : Int)) = i := by
    first
      | (rw [HT.sIx_nat]; omega)
      | (rw [show ((i : Int) + 1) = ((i + 1 : Nat) : Int) by omega, HT.sIx_nat]; omega)
  omega
/-- t[i + 1:], i within t -/
theorem sl_rest {X : Cx} : SlR X (fun x lo hi H Q => ∃ a xs i, x = .ref a ∧ lo = some (((i : Nat) : Int) + 1) ∧ hi = none ∧ H a = some (.tup xs) ∧ i < xs.length ∧ ∀ p, H p = none → Q (.ref p) (upd H p (.tup (xs.drop (i + 1))))) := by
  intro pins s σ H x v vl vu lo hi sl Q I rx hs pl pu h
  obtain ⟨a, xs, i, rfl, rfl, rfl, e, hi, q⟩ := h
  refine sl_tup pins s σ H _ v vl vu _ _ sl Q I rx hs pl pu ⟨a, xs, rfl, SqT.of e, fun z => ?_, fun p np => by rw [cut_tail xs i hi]; exact q p np⟩
  have e : HT.sIx xs.length 0 (some ((i : Int) + 1)) = i + 1 := by
    first
      | (rw [HT.sIx_nat]; omega)
      | (rw [show ((i : Int) + 1) = ((i + 1 : Nat) : Int) by omega, HT.sIx_nat]; omega)
  omega
end
end KK

set_option Elab.async false
set_option linter.all false
set_option maxRecDepth 100000
set_option maxHeartbeats 2000000
/-! U. defs whatever is handled around the call; a call in a try whose wish knows the slots -/
namespace KK
open PySem PySem.Spec PyProof.Rows L2

theorem NoRep.mark {A : Around} (g : NoRep A) (h : Option Value) : NoRep (A.mark h) := g
/-- a def's promise, whatever is handled around the call; no repr runs there -/
structure FnA (P : Program) (w : World) (K : PySem.W.Frag) (mg : Str → Option Value) (base : Heap) (CX : CXT) (k : Nat) (f : Addr) (fd : FuncData) (ps : List Str) (sp : Sp) : Prop where
  len : ∀ vs H Q E, sp vs H Q E → vs.length = ps.length
  run : ∀ (A : Around) (outer : List Env) (s : Shared) (H : Hp) (args : Args) (us : List Value) (vs : List V) (Q : VK) (E : XK), L2H.RoomH k A → NoRep A → Env0 P w K mg base A outer s H → BindsTo s fd args (ps.zip us) → Vals vs us → sp vs H Q E →
    codeAny (model P w) A (.call (.ref f) args) (CR CX outer P w H s Q E) s
section
variable {P : Program} {w : World} {K : PySem.W.Frag} {mg : Str → Option Value} {base : Heap} {CX : CXT} {j k : Nat} {f : Addr} {fd : FuncData} {ps : List Str} {sp : Sp}
theorem FnA.g (F : FnA P w K mg base CX k f fd ps sp) : FnG P w K mg base CX k f fd ps sp := ⟨F.len, fun A outer s H args us vs Q E hr hg e0 hb r q => F.run A outer s H args us vs Q E (L2H.roomH_of hr) hg e0 hb r q⟩
end
/-- the context of such a def's body -/
def cxA (CX : CXT) (P : Program) (w : World) (K : PySem.W.Frag) (mg : Str → Option Value) (base : Heap) (N : List Str) (qual : Str) (scope : Scope) (f : Addr) (cd : Value) (A : Around) (outer : List Env) (s : Shared) (H : Hp) (E : XK) : Cx :=
  { cxOf CX P w K mg base N qual scope f cd A outer s H E with calm := false }
theorem fn_ofA {CX : CXT} {P : Program} {w : World} {K : PySem.W.Frag} {mg : Str → Option Value} {base : Heap} {x qual : Str} {params : Arguments} {body : List Stmt} {scope : Scope} {dvs : List V} {kws : List (Str × V)} {f : Addr} {fd : FuncData} {N ps : List Str} {k : Nat} {sp : Sp}
    (F : FunD K x qual params body scope dvs kws f fd) (S : FnScope N ps scope) (len : ∀ vs H Q E, sp vs H Q E → vs.length = ps.length)
    (hbody : ∀ (cdv : Value) (A : Around) (outer : List Env) (s : Shared) (H : Hp) (vs : List V) (Q : VK) (E : XK), L2H.RoomH k (A.deeper (envOfC qual scope s.heap.objs.size f cdv)) → NoRep (A.deeper (envOfC qual scope s.heap.objs.size f cdv)) → sp vs H Q E →
      ∃ t, PSs (cxA CX P w K mg base N qual scope f cdv A outer s H E) body t ∧ t { nx := fun _ H' => Q .non H', rt := Q } (start N vs) H) : FnA P w K mg base CX (k + 1) f fd ps sp := by
  obtain ⟨oc, od, dV, kV, doc, pm, an, cdv, ct, osl, rfl, lk, hcd, _, _⟩ := F.ex
  refine ⟨len, fun A outer s H args us vs Q E hr hg e0 hb r hsp => ?_⟩
  have KX : K.In s.heap := e0.mod.kin.keeps fun b o e => (e0.bs b o e).1
  have lim : s.heap.NoLimit := e0.mod.nolimit.keeps fun b o e => (e0.bs b o e).1
  have kinds : ∀ y ∈ ps.zip us, scope.names.lookup y.1 = some .local ∨ (scope.names.lookup y.1 = some .cell ∧ ((cellsFrom (s.heap.objs.size + 1) scope.names []).lookup y.1).isSome = true) := by
    rintro ⟨n, v⟩ hy
    exact (S.par n (List.of_mem_zip hy).1).imp id fun q => ⟨q, PySem.W.cellsFrom_some _ _ _ (.inl q)⟩
  refine codeAny_call_function hr.depth (KX _ _ lk) rfl S.co S.gen rfl (PySem.W.codeRec_of KX hcd) (hb _ _ _ _ (wpAny_newFunctionEnv_cells S.kind kinds ?_))
  rintro env rfl s1 x
  refine ⟨lim.keeps x.toInCall.keep, codeAny_func ?_⟩
  obtain ⟨t, ht, hq⟩ := hbody cdv A outer s H vs Q E (hr.deeper _) hg hsp
  have e1 : Env0 P w K mg base { A with handled := none } outer s H := ⟨e0.frames, e0.mod, e0.bs, e0.bsz, e0.funs, e0.frf, e0.hok, e0.bare⟩
  have I0 := inv_start (CX := CX) (E := E) (cd := cdv) (f := f) (A := { A with handled := none }) S rfl e1 (len _ _ _ _ hsp) r x
  have ok0 := I0.ok
  have I : Inv (cxA CX P w K mg base N qual scope f cdv A outer s H E) [] (start N vs) H s1 :=
    ⟨⟨ok0.mod, ok0.kind, ok0.glob, ok0.blt, ok0.above, ok0.inj, ok0.has, ok0.cab, (fun z => Bool.noConfusion (show false = true from z)), ok0.frames, ok0.stk, ok0.exf, ok0.bs, ok0.bsz, ok0.noex, ok0.exfs, ok0.funs, ok0.frf⟩, I0.os, I0.bare, I0.base, I0.loc, I0.cell, I0.free, I0.freeC, I0.pin, I0.hok, I0.len⟩
  refine wpAny_mono (ht.run [] s1 (start N vs) H _ I hq) (fun fl s' fin => ?_) fun e s' hs => hs
  cases fl with
  | ret u =>
    obtain ⟨v, σ', H', J, rv, q⟩ := fin
    exact ⟨v, H', J.os, J.bare, J.base, J.hok, rv, q⟩
  | next =>
    obtain ⟨σ', H', J, q⟩ := fin
    exact ⟨V.non, H', J.os, J.bare, J.base, J.hok, rfl, q⟩
  | brk => exact False.elim (fin.elim fun _ z => z.elim fun _ z => z.2)
  | cont => exact False.elim (fin.elim fun _ z => z.elim fun _ z => z.2)
section
variable {X : Cx} {CX : CXT} {k : Nat} {f : Addr} {fd : FuncData} {ps : List Str} {sp : Sp} {dvs : List V} {ds : List Value} {E : XK} {ES : L2.St → XK} {x : Str} {p pos : Pos} {e : Expr} {es : List Expr} {t : TA}
theorem run_a {pins : List (Addr × Obj)} {σ : L2.St} {H : Hp} {s : Shared} {Q : VK} {us : List Value} {vs : List V} (F : FnA X.prog X.w X.K X.mg X.base CX k f fd ps sp) (hr : L2H.RoomH k X.A) (hg : NoRep X.A) (hb : Binds X.K fd ps ds) (hd : Vals dvs ds) (hx : Passes CX X E) (I : Inv X pins σ H s) (r : Vals vs us) (h : sp (vs ++ dvs) H Q E) :
    wpAny (model X.prog X.w) X.A (call (.ref f) us) (EP X pins σ Q) X.xe s := by
  have r2 : Vals (vs ++ dvs) (us ++ ds) := r.append hd
  refine wpAny_call (codeAny_mono (F.run X.A X.stack s H ⟨us, []⟩ (us ++ ds) (vs ++ dvs) Q E hr hg I.env0 (hb s us I.kIn (r2.length.symm.trans (F.len _ _ _ _ h))) r2 h) fun r s' hq => ?_)
  cases r with
  | error e => exact hx pins σ H s e s' I hq
  | ok fl => cases fl <;> first | exact I.after hq | exact hq.elim
theorem pe_callA (F : FnA X.prog X.w X.K X.mg X.base CX k f fd ps sp) (hr : L2H.RoomH k X.A) (hn : NoRep X.A) (hg : Gl X x) (hm : X.mg x = some (.ref f)) (hk : PySem.W.keepIn X.K (.ref f) = true) (hb : Binds X.K fd ps ds) (hd : Vals dvs ds) (hx : Passes CX X E) (ha : PA X (e :: es) t)
    (hdb : (x == ("__debug__" : Str)) = false := by decide) (he : starEach (e :: es) X.env = (false, eval e X.env) :: starEach es X.env := by rfl) (hpl : (backTo pos (starEach es X.env)).any (·.1) = false := by rfl) : PE X (.Call (.Name x p) (e :: es) [] pos) (tCall sp dvs E t) :=
  ⟨fun pins s σ H Q I h => wpAny_Call_Name_kw (ld_glob I hg hm (PySem.W.callWith_K (h₀ := X.base) I.ok.mod.kin hk (thn (ha.run pos pins s σ H _ I h) fun us s1 ⟨vs, H1, I1, r, q⟩ => ⟨I1.kIn, run_a F hr hn hb hd hx I1 r q⟩) he hpl) hdb)⟩
/-- a call whose way out knows the slots -/
def tCallGS (sp : Sp) (dvs : List V) (ES : L2.St → XK) (t : TA) : TE := fun σ H Q => t σ H fun vs H1 => sp (vs ++ dvs) H1 Q (ES σ)
theorem pe_callGS (F : FnG X.prog X.w X.K X.mg X.base CX k f fd ps sp) (hr : Room k X.A) (hn : NoRep X.A) (hg : Gl X x) (hm : X.mg x = some (.ref f)) (hk : PySem.W.keepIn X.K (.ref f) = true) (hb : Binds X.K fd ps ds) (hd : Vals dvs ds) (hx : ∀ σ, PassesAt CX X σ (ES σ)) (ha : PA X (e :: es) t)
    (hdb : (x == ("__debug__" : Str)) = false := by decide) (he : starEach (e :: es) X.env = (false, eval e X.env) :: starEach es X.env := by rfl) (hpl : (backTo pos (starEach es X.env)).any (·.1) = false := by rfl) : PE X (.Call (.Name x p) (e :: es) [] pos) (tCallGS sp dvs ES t) := by
  refine ⟨fun pins s σ H Q I h => wpAny_Call_Name_kw (ld_glob I hg hm (PySem.W.callWith_K (h₀ := X.base) I.ok.mod.kin hk (thn (ha.run pos pins s σ H _ I h) fun us s1 ⟨vs, H1, I1, r, q⟩ => ⟨I1.kIn, ?_⟩) he hpl) hdb)⟩
  have r2 : Vals (vs ++ dvs) (us ++ ds) := r.append hd
  refine wpAny_call (codeAny_mono (F.run X.A X.stack s1 H1 ⟨us, []⟩ (us ++ ds) (vs ++ dvs) Q (ES σ) hr hn I1.env0 (hb s1 us I1.kIn (r2.length.symm.trans (F.len _ _ _ _ q))) r2 q) fun r s' hq => ?_)
  cases r with
  | error e => exact hx σ pins H1 s1 e s' I1 hq
  | ok fl => cases fl <;> first | exact I1.after hq | exact hq.elim
end
end KK

set_option Elab.async false
set_option linter.all false
set_option maxRecDepth 100000
set_option maxHeartbeats 2000000
/-! V. within an except suite: the own exception that is held there, its fields, what it is -/
namespace KK
open PySem PySem.Spec L2
open PyProof.Rows hiding St
open PySem.W (findIn kitOne)

/-- what is known of the exception that a suite holds: its class, its dict as it is told -/
structure Held (K : PySem.W.Frag) (C : Addr) (cls : Value) (d : Option Addr) (H : Hp) : Prop where
  cl : cls = .ref C
  own : ∃ B initId, XOf K C B initId
  dict : ∀ dx, d = some dx → ∃ fs, H dx = some (exd dx fs)
def tHFld (K : PySem.W.Frag) (a : Addr) (cls : Value) (d : Option Addr) (f : Str) (te : TE) : TE := fun σ H Q => te σ H fun x H1 => ∃ (C dx : Addr) (fs : List (Str × V)) (v : V), x = .ref a ∧ Held K C cls d H1 ∧ findIn K (.ref C) f = some none ∧ d = some dx ∧ H1 dx = some (exd dx fs) ∧ fs.lookup f = some v ∧ Q v H1
def rHIs (K : PySem.W.Frag) (a : Addr) (cls : Value) (d : Option Addr) : List V → Hp → VK → Prop := fun xs H Q => ∃ (C : Addr) (c : V) (cv : Value) (b : Bool), xs = [.ref a, c] ∧ ClsV c cv ∧ Held K C cls d H ∧ kitOne K (.ref C) cv = some b ∧ Q (.bl b) H
section
variable {X : Cx} {a : Addr} {oe : Obj} {cls : Value} {d : Option Addr} {pn : List (Addr × Obj)}
theorem held_at {K : PySem.W.Frag} {pins : List (Addr × Obj)} {σ : L2.St} {H : Hp} {s : Shared} {C : Addr} (I : Inv (X.suite a ((a, oe) :: pn)) pins σ H s) (hz : Zc cls d oe) (hf : ∃ vs, oe.data = .fields vs) (h : Held K C cls d H) : ∃ od, PySem.W.InstAt s.heap a oe C od := by
  obtain ⟨ha, _⟩ := I.pin (a, oe) (List.mem_append_left _ List.mem_cons_self)
  obtain ⟨vs, hd⟩ := hf
  have n1 : PySem.W.notCls oe = true := by
    unfold PySem.W.notCls
    rw [hd] <;> rfl
  cases d with
  | none => exact ⟨none, ha, hz.1.trans h.cl, n1, by rw [hz.2]; exact True.intro⟩
  | some dx =>
    obtain ⟨fs, e⟩ := h.dict dx rfl
    obtain ⟨mA, hns, rel⟩ := exd_at I.hok e
    obtain ⟨od, ho, hl⟩ := lookIn_ns hns
    exact ⟨some od, ha, hz.1.trans h.cl, n1, by rw [hz.2]; exact ho⟩
/-- e.f, e the exception of the suite -/
theorem pe_hfld {K : PySem.W.Frag} {e : Expr} {te : TE} {f : Str} {pos : Pos} (eK : X.K = K) (hz : Zc cls d oe) (hf : ∃ vs, oe.data = .fields vs) (he : PE (X.suite a ((a, oe) :: pn)) e te) (hb : attributeBase e f X.env (eval e X.env) = eval e X.env := by rfl) :
    PE (X.suite a ((a, oe) :: pn)) (.Attribute e f pos) (tHFld K a cls d f te) := by
  subst eK
  constructor
  intro pins s σ H Q I h
  refine attr_of hb (thn (he.run pins s σ H _ I h) fun u s1 hh => ?_)
  obtain ⟨x, H1, I1, rx, C, dx, fs, v, rfl, hd, no, rfl, ed, lk, q⟩ := hh
  obtain rfl : u = Value.ref a := rx
  obtain ⟨ha, _⟩ := I1.pin (a, oe) (List.mem_append_left _ List.mem_cons_self)
  obtain ⟨B, iB, bmB, Bn, newId, b, T⟩ := hd.own
  obtain ⟨mA, hns, rel⟩ := exd_at I1.hok ed
  obtain ⟨od, ho, hl⟩ := lookIn_ns hns
  obtain ⟨u, hu, ru⟩ := RelO.some_of (v := v) (o := mA f) (by rw [← lk]; exact rel f)
  obtain ⟨vs, hv⟩ := hf
  have J : PySem.W.InstAt s1.heap a oe C (some od) := ⟨ha, hz.1.trans hd.cl, by unfold PySem.W.notCls; rw [hv] <;> rfl, by rw [hz.2]; exact ho⟩
  exact HandSPX.exc_get I1.kIn J T.ga T.gg T.exC (PySem.W.findObj_own T.hd no rfl (by rw [hl, hu])) (handed_of ru) ⟨v, H1, I1.tok _, ru, q⟩
/-- isinstance(e, c), e the exception of the suite -/
theorem call_his {K : PySem.W.Frag} (eK : X.K = K) (hz : Zc cls d oe) (hf : ∃ vs, oe.data = .fields vs) : CallR (X.suite a ((a, oe) :: pn)) (.builtin "isinstance") (rHIs K a cls d) := by
  subst eK
  intro pins s σ H xs us Q I r h
  obtain ⟨C, c, cv, b, rfl, k, hd, e, q⟩ := h
  obtain ⟨u1, u2, rfl, r1, r2⟩ := vals2 r
  obtain rfl := k.eq r2
  obtain rfl : u1 = Value.ref a := r1
  obtain ⟨od, J⟩ := held_at I hz hf hd
  obtain ⟨B, iB, bmB, Bn, newId, _, T⟩ := hd.own
  obtain ⟨cd, cr⟩ := T.crec
  exact PySem.W.kia_one (PySem.W.kitx_exc (by rw [cr.at_]; rfl) T.ga T.gg T.exC T.ha T.hn T.ht T.hm) I.kIn J e (fun z => nomatch z) fun tk => ⟨.bl b, H, I.kept (t' := tk) fun _ _ z => z, rfl, q⟩
end
end KK

set_option Elab.async false
set_option linter.all false
set_option maxRecDepth 100000
set_option maxHeartbeats 4000000
/-! k01, a: the text, the classes' table, the facts, the run of the top -/
namespace K01
open PySem PySem.Spec L2 KK
open PyProof.Rows hiding St
abbrev R : PySem.W.OpenRow := PySem.W.OpenLaw.row PySem.Challenge.rw_innerlook_k01_kinds_of_any_thing
def top (i : Nat) : Stmt := PySem.Challenge.pw_innerlook_k01_kinds_of_any_thing.main.body.getD i (.Pass ⟨0, 0, 0, 0⟩)
def nm : List Str := ["InnerError", "Barred", "NoWorth"]
abbrev iS (i : Nat) : Stmt := inClass (top (1 + i)) 0
def nmAt (i : Nat) : Str := nm.getD i ""
def bmAt (i : Nat) : List Value := if i = 1 then mroL else mroV
def nwAt (i : Nat) : String := if i = 1 then "LookupError.__new__" else "ValueError.__new__"
def fldAt (i : Nat) : List Str := if i = 2 then ["found"] else []
/-- which is beneath which -/
def kitAt (i j : Nat) : Bool := decide (i = j) || (decide (i = 2) && decide (j = 0))
def tabB (K : PySem.W.Frag) (cs ins : List Nat) : Bool :=
  ((List.range 3).all fun i => xcB K (cs.getD i 0) (bmAt i) (nwAt i) && (He.eqO (PySem.W.findIn K (.ref (cs.getD i 0)) "__init__") (some (some (.ref (ins.getD i 0)))) && (decide (PySem.W.typeIn K (.ref (ins.getD i 0)) = some (.type "function")) &&
    (fldAt i).all fun f => He.eqO (PySem.W.findIn K (.ref (cs.getD i 0)) f) (some none)))) &&
  (((List.range 2).all fun j => clsRdB K (cs.getD j 0) (ins.getD j 0)) &&
  (((List.range 3).all fun i => (List.range 3).all fun j => decide (PySem.W.kitOne K (.ref (cs.getD i 0)) (.ref (cs.getD j 0)) = some (kitAt i j))) &&
  ((List.range 3).all fun i => (List.range 3).all fun j => decide (PySem.W.exmOne K (.ref (cs.getD i 0)) (.ref (cs.getD j 0)) = some (kitAt i j)))))
def vlB (K : PySem.W.Frag) (B initId : String) : Bool := match PySem.W.findCls K (.type B) (.type "type") "__init__" with
  | some (.val (.builtin x)) => decide (x = initId)
  | _ => false
def notN : List He.Dv := [.str "me", .str "here", .str "none"]
def more (K : PySem.W.Frag) : Bool := sysB K && ((vlB K "ValueError" "ValueError.__init__" && (vlB K "LookupError" "LookupError.__init__" && He.tupB K "NOT_NAMES" notN)) &&
  frL (nm.map (He.ga K)) fun cs => frL (cs.map fun C => He.ma K C "__init__") fun ins => tabB K cs ins)
def dI (i : Nat) : He.DefD := ⟨(nmAt i, some "__init__"), "__init__", nmAt i ++ ".__init__", defArgs (iS i), defBody (iS i), defScope (iS i), [], []⟩
def dT (i : Nat) (x : Str) : He.DefD := ⟨(x, none), x, x, defArgs (top i), defBody (top i), defScope (top i), [], []⟩
def lawD : List He.DefD := ([dT 13 "is_whole", dT 14 "is_name", dT 15 "is_text", dT 16 "is_plain_worth", dT 17 "is_worth", dT 18 "_is_worth_within", dT 19 "says_yes", dT 20 "_check_worth", dT 22 "_law_cell", dT 23 "_law_box"] : List He.DefD) ++ ([dT 24 "_law_take", dT 25 "_law_signs", dT 26 "_law_text", dT 27 "_law_worth", dT 28 "_law_deep", dT 29 "_law_bent", dT 30 "_law_is_text", dT 31 "_law_is_number", dT 32 "_law_is_worth", dT 33 "_law_same"] : List He.DefD) ++ ([dT 34 "_law_name", dT 35 "_law_is_name", dT 36 "_law_bound", dT 37 "_law_yes_right", dT 38 "_law_right", dT 39 "law"] : List He.DefD)
def fn : List He.DefD := (List.range 3).map dI ++ lawD
def fa : List He.Fa := ([.glo "InnerError", .glo "Barred", .glo "NoWorth", .glo "NOT_NAMES", .glo "is_whole", .glo "is_name", .glo "is_text", .glo "is_plain_worth", .glo "is_worth", .glo "_is_worth_within"] : List He.Fa) ++ ([.glo "says_yes", .glo "_check_worth", .glo "_law_cell", .glo "_law_box", .glo "_law_take", .glo "_law_signs", .glo "_law_text", .glo "_law_worth", .glo "_law_deep", .glo "_law_bent"] : List He.Fa) ++ ([.glo "_law_is_text", .glo "_law_is_number", .glo "_law_is_worth", .glo "_law_same", .glo "_law_name", .glo "_law_is_name", .glo "_law_bound", .glo "_law_yes_right", .glo "_law_right", .glo "law"] : List He.Fa) ++ ([.free "isinstance", .free "bool", .free "int", .free "str", .free "tuple", .free "list", .free "dict", .free "len", .free "all", .free "ord"] : List He.Fa) ++ ([.free "repr", .free "max", .free "min", .free "range", .free "ValueError", .free "LookupError", .int "MOST_NUMBER" 1000000000, .int "MOST_THING" 999, .int "MOST_NAME" 8, .int "MOST_TEXT" 60] : List He.Fa) ++ ([.int "MOST_PARTS" 30, .int "MOST_WITHIN" 4, .int "PERCENT" 37] : List He.Fa)
def loose : List Str := (["InnerError", "Barred", "NoWorth", "MOST_NUMBER", "MOST_THING", "MOST_NAME", "MOST_TEXT", "MOST_PARTS", "MOST_WITHIN", "PERCENT"] : List Str) ++ (["NOT_NAMES", "is_whole", "is_name", "is_text", "is_plain_worth", "is_worth", "_is_worth_within", "says_yes", "_check_worth", "_law_cell"] : List Str) ++ (["_law_box", "_law_take", "_law_signs", "_law_text", "_law_worth", "_law_deep", "_law_bent", "_law_is_text", "_law_is_number", "_law_is_worth"] : List Str) ++ (["_law_same", "_law_name", "_law_is_name", "_law_bound", "_law_yes_right", "_law_right"] : List Str)
abbrev hk : PySem.W.Hook := hookK 5 more fa fn
def ob (s : PySem.W.SharedT) : AlK := obsKG 5 more fa fn (HandSHeadRun.getT s)
theorem ob_eq (s : PySem.W.SharedT) : ob s = hk.obs s.abs := obsKG_eq (HandSHeadRun.getT_eq s)
theorem run (w : World) : HandSHeadRun.RunEq R (PySem.W.view R.prog [39]) hk ob 9000 loose w := by
  intro os
  kernel_rfl
end K01

set_option Elab.async false
set_option linter.all false
set_option maxRecDepth 100000
set_option maxHeartbeats 4000000
/-! k01, b: what the facts say -/
namespace K01
open PySem PySem.Spec L2 KK
open PyProof.Rows hiding St
open PySem.W (findIn typeIn kitOne exmOne keepIn findCls)

def CA (K : PySem.W.Frag) (i : Nat) : Addr := (nm.map (He.ga K)).getD i 0
def IA (K : PySem.W.Frag) (i : Nat) : Addr := ((nm.map (He.ga K)).map fun C => He.ma K C "__init__").getD i 0
theorem CA_eq {K : PySem.W.Frag} {i : Nat} (h : i < 3) : CA K i = He.ga K (nmAt i) := match i, h with
  | 0, _ => rfl
  | 1, _ => rfl
  | 2, _ => rfl
theorem IA_eq {K : PySem.W.Frag} {i : Nat} (h : i < 3) : IA K i = He.fAd K (nmAt i, some "__init__") := match i, h with
  | 0, _ => rfl
  | 1, _ => rfl
  | 2, _ => rfl
def intL : List (Str × Int) := [("MOST_NUMBER", 1000000000), ("MOST_THING", 999), ("MOST_NAME", 8), ("MOST_TEXT", 60), ("MOST_PARTS", 30), ("MOST_WITHIN", 4), ("PERCENT", 37)]
def frees : List Str := ["isinstance", "bool", "int", "str", "tuple", "list", "dict", "len", "all", "ord", "repr", "max", "min", "range", "ValueError", "LookupError"]
structure Tx (K : PySem.W.Frag) (mg : Str → Option Value) : Prop where
  sm : SysD K
  xc : ∀ i, i < 3 → XC K (CA K i) (bmAt i) (nwAt i)
  ini : ∀ i, i < 3 → findIn K (.ref (CA K i)) "__init__" = some (some (.ref (IA K i)))
  tyI : ∀ i, i < 3 → typeIn K (.ref (IA K i)) = some (.type "function")
  nof : ∀ i, i < 3 → ∀ f ∈ fldAt i, findIn K (.ref (CA K i)) f = some none
  rd : ∀ j, j < 2 → ClsRd K (CA K j) (IA K j)
  kit : ∀ i, i < 3 → ∀ j, j < 3 → kitOne K (.ref (CA K i)) (.ref (CA K j)) = some (kitAt i j)
  exm : ∀ i, i < 3 → ∀ j, j < 3 → exmOne K (.ref (CA K i)) (.ref (CA K j)) = some (kitAt i j)
  vV : findCls K (.type "ValueError") (.type "type") "__init__" = some (.val (.builtin "ValueError.__init__"))
  vL : findCls K (.type "LookupError") (.type "type") "__init__" = some (.val (.builtin "LookupError.__init__"))
  nn : ∀ H : Hp, SqT K H (He.ga K "NOT_NAMES") [.str "me", .str "here", .str "none"]
  mgC : ∀ i, i < 3 → mg (nmAt i) = some (.ref (CA K i))
  mgF : ∀ x ∈ lawD.map (·.name), mg x = some (.ref (He.ga K x))
  mgN : mg "NOT_NAMES" = some (.ref (He.ga K "NOT_NAMES"))
  mgI : ∀ p ∈ intL, ∃ t, mg p.1 = some (.int p.2 t)
  fre : ∀ x ∈ frees, mg x = none
theorem vlB_ok {K : PySem.W.Frag} {B initId : String} (h : vlB K B initId = true) : findCls K (.type B) (.type "type") "__init__" = some (.val (.builtin initId)) := by
  unfold vlB at h
  split at h
  · rename_i x e
    rw [e, of_decide_eq_true h]
  · cases h
theorem rall {n : Nat} {p : Nat → Bool} (h : (List.range n).all p = true) (i : Nat) (hi : i < n) : p i = true := List.all_eq_true.mp h i (List.mem_range.mpr hi)
theorem tx_of {K : PySem.W.Frag} {h : Heap} {mg : Str → Option Value} (X : K.In h) (G : h.Ns mainGlobals mg) (c : SaysK more fa fn K) : Tx K mg := by
  have b := c.bits.1
  unfold more at b
  rw [frL_eq, frL_eq] at b
  unfold tabB at b
  simp only [Bool.and_eq_true] at b
  obtain ⟨b0, ⟨⟨bV, bL, bN⟩, b1, b2, b3, b4⟩⟩ := b
  have glo : ∀ x : Str, (He.Fa.glo x) ∈ fa → mg x = some (.ref (He.ga K x)) := fun x m => He.glo_ok X G (c.fact m)
  have free : ∀ x : Str, (He.Fa.free x) ∈ fa → mg x = none := fun x m => He.free_ok X G (c.fact m)
  have intf : ∀ (x : Str) (i : Int), (He.Fa.int x i) ∈ fa → ∃ t, mg x = some (.int i t) := fun x i m => He.int_ok X G (c.fact m)
  refine ⟨sysB_ok b0, fun i hi => ?_, fun i hi => ?_, fun i hi => ?_, fun i hi f hf => ?_, fun j hj => ?_, fun i hi j hj => ?_, fun i hi j hj => ?_, vlB_ok bV, vlB_ok bL, fun H => ?_, fun i hi => ?_, fun x hx => ?_, ?_, fun p hp => ?_, fun x hx => ?_⟩
  · have z := rall b1 i hi
    simp only [Bool.and_eq_true] at z
    exact xcB_ok z.1
  · have z := rall b1 i hi
    simp only [Bool.and_eq_true] at z
    exact He.eqO_ok z.2.1
  · have z := rall b1 i hi
    simp only [Bool.and_eq_true, decide_eq_true_eq] at z
    exact z.2.2.1
  · have z := rall b1 i hi
    simp only [Bool.and_eq_true] at z
    exact He.eqO_ok (List.all_eq_true.mp z.2.2.2 f hf)
  · exact clsRdB_ok (rall b2 j hj)
  · exact of_decide_eq_true (rall (rall b3 i hi) j hj)
  · exact of_decide_eq_true (rall (rall b4 i hi) j hj)
  · exact He.tupB_ok bN H
  · rw [CA_eq hi]
    refine glo (nmAt i) ?_
    match i, hi with
    | 0, _ => exact List.mem_append_left _ (by simp [nmAt, nm, fa])
    | 1, _ => simp [nmAt, nm, fa]
    | 2, _ => simp [nmAt, nm, fa]
  · refine glo x ?_
    simp only [lawD, dT, List.map_append, List.map_cons, List.map_nil, List.mem_append, List.mem_cons, List.not_mem_nil, or_false] at hx
    simp only [fa, List.mem_append, List.mem_cons, He.Fa.glo.injEq, reduceCtorEq, List.not_mem_nil, or_false, false_or]
    grind
  · exact glo "NOT_NAMES" (by simp [fa])
  · refine intf p.1 p.2 ?_
    simp only [intL, List.mem_cons, List.not_mem_nil, or_false] at hp
    rcases hp with rfl | rfl | rfl | rfl | rfl | rfl | rfl <;> simp [fa]
  · refine free x ?_
    simp only [frees, List.mem_cons, List.not_mem_nil, or_false] at hx
    rcases hx with rfl | rfl | rfl | rfl | rfl | rfl | rfl | rfl | rfl | rfl | rfl | rfl | rfl | rfl | rfl | rfl <;> simp [fa]
theorem def_at {K : PySem.W.Frag} (c : SaysK more fa fn K) {i : Nat} (h : i < 3) : ∃ fd, FunD K "__init__" (nmAt i ++ ".__init__") (defArgs (iS i)) (defBody (iS i)) (defScope (iS i)) [] [] (IA K i) fd := by
  have e : fn[i]? = some (dI i) := by
    unfold fn
    rw [List.getElem?_append_left (by rw [List.length_map, List.length_range]; exact h), List.getElem?_map, List.getElem?_range h]
    rfl
  rw [IA_eq h]
  exact c.def_ i e
theorem law_at {K : PySem.W.Frag} (c : SaysK more fa fn K) (j : Nat) {d : He.DefD} (h : lawD[j]? = some d) : ∃ fd, FunD K d.name d.qual d.params d.body d.scope (d.dvs K) (d.kws K) (He.fAd K d.at_) fd := by
  have e : fn[3 + j]? = some d := by
    unfold fn
    rw [List.getElem?_append_right (by rw [List.length_map, List.length_range]; omega), List.length_map, List.length_range]
    rw [show 3 + j - 3 = j by omega]
    exact h
  exact c.def_ (3 + j) e
end K01

set_option Elab.async false
set_option linter.all false
set_option maxRecDepth 100000
set_option maxHeartbeats 8000000
/-! k01, c: the program's looks: is_whole, is_text, is_plain_worth -/
namespace K01
open PySem PySem.Spec L2 KK
open PyProof.Rows hiding St

abbrev FnT (K : PySem.W.Frag) (i : Nat) (x : Str) (f : Addr) (fd : FuncData) : Prop := FunD K x x (defArgs (top i)) (defBody (top i)) (defScope (top i)) [] [] f fd
theorem iteC {c : Bool} {a b : Prop} (e : c = true) (h : a) : if c = true then a else b := by
  subst e
  exact h
theorem iteE {c : Bool} {a b : Prop} (e : c = false) (h : b) : if c = true then a else b := by
  subst e
  exact h
/-! ### what is a worth -/
def numOk (lo hi : Int) : PyData → Bool
  | .int i => decide (lo ≤ i) && decide (i ≤ hi)
  | _ => false
def signOk (c : Nat) : Bool := decide (32 ≤ c) && (decide (c ≤ 126) && (decide (c ≠ 39) && decide (c ≠ 37)))
def txtOk : PyData → Bool
  | .str x => decide (x.length ≤ 60) && x.cps.toList.all signOk
  | _ => false
def isN : PyData → Bool
  | .none => true
  | _ => false
def plainOk (d : PyData) : Bool := isN d || (txtOk d || numOk (-1000000000) 1000000000 d)
def thingOk : PyData → Bool
  | .tuple [.str w, h] => decide (w = "thing") && numOk 0 999 h
  | _ => false
def rowOk (p : PyData → Bool) : PyData → Bool
  | .tuple [.str w, .tuple ps] => decide (w = "row") && (decide (ps.length ≤ 30) && ps.all p)
  | _ => false
def worthOk : Nat → PyData → Bool
  | 0, d => plainOk d || thingOk d
  | n + 1, d => plainOk d || (thingOk d || rowOk (worthOk n) d)
/-! ### what can be looked at -/
def scalD : PyData → Bool
  | .none => true
  | .bool _ => true
  | .int _ => true
  | .str _ => true
  | _ => false
def wordOk : List PyData → Bool
  | [w, _] => scalD w
  | _ => true
mutual
def smD : PyData → Bool
  | .str x => decide (x.length ≤ 1000) && x.cps.toList.all fun c => decide (c < 128)
  | .tuple ds => decide (ds.length ≤ 1000) && (wordOk ds && smHs ds)
  | .none => true
  | .bool _ => true
  | .int _ => true
  | .list _ => true
  | .dict _ => true
def smHs : List PyData → Bool
  | [] => true
  | d :: r => smH d && smHs r
def smH : PyData → Bool
  | .tuple ps => decide (ps.length ≤ 1000) && smAll ps
  | .str _ => true
  | .none => true
  | .bool _ => true
  | .int _ => true
  | .list _ => true
  | .dict _ => true
def smAll : List PyData → Bool
  | [] => true
  | d :: r => smD d && smAll r
end
theorem smAll_at : ∀ {ds : List PyData} {i : Nat} {d : PyData}, smAll ds = true → ds[i]? = some d → smD d = true
  | d :: r, 0, _, h, e => by
    cases e
    simp only [smAll, Bool.and_eq_true] at h
    exact h.1
  | d :: r, i + 1, _, h, e => by
    simp only [smAll, Bool.and_eq_true] at h
    exact smAll_at h.2 (i := i) e

structure WholeP (K : PySem.W.Frag) (vs : List V) (H : Hp) (Q : VK) : Prop where
  ex : ∃ (v : V) (d : PyData) (lo hi : Int), vs = [v, .int lo, .int hi] ∧ Dq K H v d ∧ Q (.bl (numOk lo hi d)) H
def spWhole (K : PySem.W.Frag) : Sp := fun vs H Q _ => WholeP K vs H Q
/-- a look at one thing, told of its data -/
structure LookP (K : PySem.W.Frag) (p : PyData → Bool) (vs : List V) (H : Hp) (Q : VK) : Prop where
  ex : ∃ (v : V) (d : PyData), vs = [v] ∧ Dq K H v d ∧ smD d = true ∧ ∀ H', Same H H' → Q (.bl (p d)) H'
def spLook (K : PySem.W.Frag) (p : PyData → Bool) : Sp := fun vs H Q _ => LookP K p vs H Q
theorem same_refl {H : Hp} : Same H H := fun _ _ e => e
theorem lt_one (c k : Nat) : decide ([c] < [k]) = decide (c < k) := by
  rw [decide_eq_decide]
  constructor
  · intro h
    rcases List.cons_lt_cons_iff.mp h with h | ⟨_, h⟩
    · exact h
    · exact absurd h (by simp)
  · intro h
    exact List.cons_lt_cons_iff.mpr (.inl h)
section
variable {P : Program} {w : World} {K : PySem.W.Frag} {mg : Str → Option Value} {base : Heap}
theorem scWhole : FnScope ["thing", "low", "high"] ["thing", "low", "high"] (defScope (top 13)) := ⟨rfl, rfl, rfl, by decide +kernel, rfl, by decide +kernel, by decide +kernel⟩
theorem okWhole {f : Addr} {fd : FuncData} (F : FnT K 13 "is_whole" f fd) (T : Tx K mg) : FnG P w K mg base CX0 1 f fd ["thing", "low", "high"] (spWhole K) := by
  refine fn_ofG F scWhole (fun vs H Q E h => ?_) (fun cdv A outer s H vs Q E hr hg h => ?_)
  · obtain ⟨v, d, lo, hi, rfl, _⟩ := h.ex
    rfl
  · obtain ⟨v, d, lo, hi, rfl, hd, q⟩ := h.ex
    refine ⟨_, PSs.nox (pss_one (ps_ret (pe_and (pe_callB (call_isd (K := K) rfl) (by rfl) (T.fre "isinstance" (by simp [frees])) boot_isinstance (pa_cons (pv 0) (pa_cons (pe_bltn (v := .ty "int") (by rfl) (T.fre "int" (by simp [frees])) (by decide +kernel) rfl) pa_nil)))
      (pe_and (pe_not (pe_callB (call_isd (K := K) rfl) (by rfl) (T.fre "isinstance" (by simp [frees])) boot_isinstance (pa_cons (pv 0) (pa_cons (pe_bltn (v := .ty "bool") (by rfl) (T.fre "bool" (by simp [frees])) (by decide +kernel) rfl) pa_nil))))
      (pe_one (pe_chain op_le op_le (pv 1) (pv 0) (pv 2))))))), ?_⟩
    refine ⟨_, rfl, ⟨⟨v, d, "int", rfl, .int, hd, _, rfl, ?_⟩⟩⟩
    cases hd with
    | int i =>
      refine iteC (show isiT "int" "int" = true by decide +kernel) ⟨_, rfl, ⟨⟨_, _, "bool", rfl, .bool, .int i, _, rfl, _, rfl, iteC (show (!isiT "int" "bool") = true by decide +kernel) ?_⟩⟩⟩
      refine ⟨_, rfl, _, rfl, _, _, rfl, rfl, _, rfl, ite2 (fun h => ?_) (fun h => ?_)⟩
      · refine ⟨_, rfl, _, _, rfl, rfl, ?_⟩
        rw [numOk, h, Bool.true_and] at q
        exact q
      · have e : decide (lo ≤ i) = false := by
          cases z : decide (lo ≤ i)
          · rfl
          · exact absurd z h
        rw [numOk, e, Bool.false_and] at q
        exact q
    | bl b => exact iteC (show isiT "bool" "int" = true by decide +kernel) ⟨_, rfl, ⟨⟨_, _, "bool", rfl, .bool, .bl b, _, rfl, _, rfl, iteE (show (!isiT "bool" "bool") = false by decide +kernel) q⟩⟩⟩
    | non => exact iteE (by decide +kernel) q
    | str x => exact iteE (show isiT "str" "int" = false by decide +kernel) q
    | lst h a => exact iteE (show isiT "list" "int" = false by decide +kernel) q
    | tup h a => exact iteE (show isiT "tuple" "int" = false by decide +kernel) q
    | dic h a => exact iteE (show isiT "dict" "int" = false by decide +kernel) q
theorem scText : FnScope ["thing", "sign"] ["thing"] (defScope (top 15)) := ⟨rfl, rfl, rfl, by decide +kernel, rfl, by decide +kernel, by decide +kernel⟩
theorem okText {f : Addr} {fd : FuncData} (F : FnT K 15 "is_text" f fd) (T : Tx K mg) : FnG P w K mg base CX0 1 f fd ["thing"] (spLook K txtOk) := by
  obtain ⟨tT, mT⟩ := T.mgI ("MOST_TEXT", 60) (by simp [intL])
  obtain ⟨tP, mP⟩ := T.mgI ("PERCENT", 37) (by simp [intL])
  refine fn_ofG F scText (fun vs H Q E h => ?_) (fun cdv A outer s H vs Q E hr hg h => ?_)
  · obtain ⟨v, d, rfl, _⟩ := h.ex
    rfl
  · obtain ⟨v, d, rfl, hd, sm, q⟩ := h.ex
    refine ⟨_, PSs.nox (pss_cons (ps_if (PW.pt (pw_or (pt_not (pt_val (pe_callB (call_isd (K := K) rfl) (by rfl) (T.fre "isinstance" (by simp [frees])) boot_isinstance (pa_cons (pv 0) (pa_cons (pe_bltn (v := .ty "str") (by rfl) (T.fre "str" (by simp [frees])) (by decide +kernel) rfl) pa_nil)))))
        (pw_or1 (pt_cmpR op_gt (pe_callB call_len_str (by rfl) (T.fre "len" (by simp [frees])) PySem.boot_len (pa_cons (pv 0) pa_nil)) (pe_glob (v := .int 60) (by rfl) mT ⟨_, rfl⟩) (nomark _))))) (pss_one (ps_ret pe_bl)) pss_nil)
      (pss_one (ps_ret (pe_callB (cr_all rfl) (by rfl) (T.fre "all" (by simp [frees])) (by decide +kernel) (pa_cons (pe_lc (own := [("sign", 1)]) (g := gName 1) (tt := tYes) rfl scText.nd (pi_str (pv 0)) (blkOk_by (own := [("sign", 1)]) (N := ["thing", "sign"]) (sc := defScope (top 15)) (by decide +kernel))
        (fun _ _ _ _ _ => pg_name (i := 1) scText.nd rfl (Or.inl rfl)) (fun _ _ _ _ _ => pts_nil)
        (fun _ _ _ _ _ => pe_and (pe_chain op_le_str op_le_str pe_str (pv 1) pe_str) (pe_and (pe_cmpR op_ne (pv 1) pe_str (nomark _)) (pe_one (pe_cmpR op_ne (pe_callB call_ord (by rfl) (T.fre "ord" (by simp [frees])) (by decide +kernel) (pa_cons (pv 1) pa_nil)) (pe_glob (v := .int 37) (by rfl) mP ⟨_, rfl⟩) (nomark _)))))) pa_nil))))), ?_⟩
    refine ⟨_, rfl, ⟨⟨v, d, "str", rfl, .str, hd, _, rfl, ?_⟩⟩⟩
    cases hd with
    | str x =>
      have hl : x.length ≤ 1000 := by
        simp only [smD, Bool.and_eq_true, decide_eq_true_eq] at sm
        exact sm.1
      refine iteE (show (!isiT "str" "str") = false by decide +kernel) ⟨_, rfl, x, rfl, by rw [sizeLine_eq]; omega, _, _, rfl, rfl, _, rfl, ite2 (fun h => ?_) (fun h => ?_)⟩
      · have e : txtOk (.str x) = false := by
          have := of_decide_eq_true h
          rw [txtOk, decide_eq_false (by omega), Bool.false_and]
        have z := q H same_refl
        rw [e] at z
        exact z
      · refine ⟨_, rfl, x, rfl, fun D nD => lc_mapStr (fun c => .bl (signOk c)) nD (by show x.cps.toList.length ≤ 1000; rw [Array.length_toList]; exact hl) (fun c H1 Z z => ⟨rfl, ?_⟩) (fun H1 s1 e1 => ?_) gName_mono⟩
        · refine ⟨_, rfl, _, _, rfl, rfl, _, rfl, ?_⟩
          have l1 : (!decide ((⟨#[c]⟩ : Str).cps.toList < (Str.ofString " ").cps.toList)) = decide (32 ≤ c) := by
            show (!decide ([c] < [32])) = _
            rw [lt_one, ← decide_not, decide_eq_decide]
            omega
          have l2 : (!decide ((Str.ofString "~").cps.toList < (⟨#[c]⟩ : Str).cps.toList)) = decide (c ≤ 126) := by
            show (!decide ([126] < [c])) = _
            rw [lt_one, ← decide_not, decide_eq_decide]
            omega
          rw [l1]
          by_cases c1 : 32 ≤ c
          · refine iteC (decide_eq_true c1) ⟨_, _, rfl, rfl, _, rfl, ?_⟩
            rw [l2]
            by_cases c2 : c ≤ 126
            · refine iteC (decide_eq_true c2) ⟨_, rfl, rfl, _, rfl, ?_⟩
              by_cases c3 : c = 39
              · subst c3
                refine iteE (by decide +kernel) ?_
                exact z
              · refine iteC ?_ ⟨_, rfl, _, rfl, rfl, rfl, ?_⟩
                · rw [Bool.not_eq_true', decide_eq_false_iff_not]
                  intro w
                  have := congrArg (fun s : Str => s.cps.getD 0 0) (V.str.inj w)
                  exact c3 this
                · have e : signOk c = (!decide (V.int (((⟨#[c]⟩ : Str).cps.getD 0 0 : Nat) : Int) = V.int 37)) := by
                    show signOk c = (!decide (V.int (c : Int) = V.int 37))
                    rw [signOk, decide_eq_true c1, decide_eq_true c2, decide_eq_true c3, Bool.true_and, Bool.true_and, Bool.true_and, ← decide_not, decide_eq_decide]
                    constructor
                    · intro a b
                      have := V.int.inj b
                      omega
                    · intro a b
                      subst b
                      exact a rfl
                  rw [e] at z
                  exact z
            · refine iteE (decide_eq_false c2) ?_
              rw [signOk, decide_eq_false c2, Bool.false_and, Bool.and_false] at z
              exact z
          · refine iteE (decide_eq_false c1) ⟨_, rfl, iteE rfl ?_⟩
            rw [signOk, decide_eq_false c1, Bool.false_and] at z
            exact z
        · refine ⟨D, x.cps.toList.map signOk, rfl, SqL.of (by rw [e1, List.map_map]; rfl), ?_⟩
          have e : txtOk (.str x) = (x.cps.toList.map signOk).all id := by
            have : ¬ ((x.length : Int) > 60) := fun w => h (decide_eq_true w)
            rw [txtOk, decide_eq_true (by omega), Bool.true_and, List.all_map]
            rfl
          have z := q H1 s1
          rw [e] at z
          exact z
    | int i => exact iteC (show (!isiT "int" "str") = true by decide +kernel) (iteC rfl (q H same_refl))
    | bl b => exact iteC (show (!isiT "bool" "str") = true by decide +kernel) (iteC rfl (q H same_refl))
    | non => exact iteC (show (!isiT "NoneType" "str") = true by decide +kernel) (iteC rfl (q H same_refl))
    | lst h a => exact iteC (show (!isiT "list" "str") = true by decide +kernel) (iteC rfl (q H same_refl))
    | tup h a => exact iteC (show (!isiT "tuple" "str") = true by decide +kernel) (iteC rfl (q H same_refl))
    | dic h a => exact iteC (show (!isiT "dict" "str") = true by decide +kernel) (iteC rfl (q H same_refl))
end
end K01

set_option Elab.async false
set_option linter.all false
set_option maxRecDepth 100000
set_option maxHeartbeats 8000000
/-! k01, d: is_plain_worth, is a worth within -/
namespace K01
open PySem PySem.Spec L2 KK
open PyProof.Rows hiding St

structure WithinP (K : PySem.W.Frag) (n : Nat) (vs : List V) (H : Hp) (Q : VK) : Prop where
  ex : ∃ (v : V) (d : PyData), vs = [v, .int (n : Int)] ∧ Dq K H v d ∧ smD d = true ∧ ∀ H', Same H H' → Q (.bl (worthOk n d)) H'
def spWithin (K : PySem.W.Frag) (n : Nat) : Sp := fun vs H Q _ => WithinP K n vs H Q
theorem dq_non {K : PySem.W.Frag} {H : Hp} {v : V} {d : PyData} (h : Dq K H v d) : decide (v = .non) = isN d := by
  cases h <;> simp [isN]
theorem worth_plain {n : Nat} {d : PyData} (h : plainOk d = true) : worthOk n d = true := by
  cases n <;> simp [worthOk, h]
/-- neither plain nor a pair -/
theorem worth_odd {n : Nat} {d : PyData} (h : plainOk d = false) (t : ∀ a b, d ≠ .tuple [a, b]) : worthOk n d = false := by
  have e1 : thingOk d = false := by
    unfold thingOk
    split
    · exact absurd rfl (t _ _)
    · rfl
  have e2 : ∀ p, rowOk p d = false := fun p => by
    unfold rowOk
    split
    · exact absurd rfl (t _ _)
    · rfl
  cases n <;> simp [worthOk, h, e1, e2]
/-- a mapping over a tuple, each turn keeping all that stands -/
theorem lc_mapTup {K : PySem.W.Frag} {a : Addr} {xs : List V} {g : TG} {te : TE} {vs : List Nat} {σ : L2.St} {H1 : Hp} {D : Addr} {Qd : Hp → Prop} (f : Nat → V) (S : SqT K H1 a xs) (nD : H1 D = none) (hl : xs.length ≤ 1000)
    (hs : ∀ i x H (Z : VK), xs[i]? = some x → Same H1 H → (∀ H', Same H H' → Z (f i) H') → g x (wipe σ vs) H fun σ2 H2 => wipe σ2 vs = wipe σ vs ∧ te σ2 H2 Z) (hd : ∀ H, Same H1 H → H D = some (.lst ((List.range xs.length).map f)) → Qd H)
    (hg : ∀ v σ H (Z1 Z2 : L2.St → Hp → Prop), (∀ σ H, Z1 σ H → Z2 σ H) → g v σ H Z1 → g v σ H Z2) :
    ∃ W : Nat → Nat → Hp → Prop, (∃ m, W 0 m (upd H1 D (.lst []))) ∧ ∀ i m H, W i m H →
      ((Itt K a).stop i H ∧ Qd H) ∨ ((Itt K a).go i H ∧ ∃ Nx : Hp → Prop, (∀ H', Nx H' → ∃ m', m' < m ∧ W (i + 1) m' H') ∧ ∀ v H', (Itt K a).yld i H v H' → g v (wipe σ vs) H' fun σ2 H2 => wipe σ2 vs = wipe σ vs ∧ tYes σ2 H2 fun b H3 =>
        if b = true then te σ2 H3 fun y H4 => ∃ acc, H4 D = some (.lst acc) ∧ acc.length < sizeLine ∧ Nx (upd H4 D (.lst (acc ++ [y]))) else Nx H3) := by
  have sD : ∀ {H}, But (upd H1 D (.lst [])) H (.ref D) → Same H1 H := fun b q u z => b q u (laidK nD q u z) fun w => by
    cases w
    rw [nD] at z
    cases z
  refine lc_tup (xs := xs) (fun i H => But (upd H1 D (.lst [])) H (.ref D) ∧ H D = some (.lst ((List.range i).map f))) ⟨But.refl, upd_same⟩ (fun i H _ p => sqT_same S (sD p.1)) (fun i x H hx p => ?_) (fun H p => hd H (sD p.1) p.2)
  obtain ⟨b, e⟩ := p
  have hi : i < xs.length := (List.getElem?_eq_some_iff.mp hx).1
  refine hg _ _ _ _ _ (fun σ2 H2 h => ?_) (hs i x H (fun y H4 => ∃ acc, H4 D = some (.lst acc) ∧ acc.length < sizeLine ∧ (But (upd H1 D (.lst [])) (upd H4 D (.lst (acc ++ [y]))) (.ref D) ∧ (upd H4 D (.lst (acc ++ [y]))) D = some (.lst ((List.range (i + 1)).map f)))) hx (sD b) fun H' s' => ⟨_, s' _ _ e, ?_, ?_, ?_⟩)
  · refine ⟨h.1, ?_⟩
    dsimp only [tYes]
    rw [if_pos rfl]
    exact h.2
  · rw [List.length_map, List.length_range, sizeLine_eq]
    omega
  · exact b.trans ((KK.same_butK s').trans upd_but)
  · rw [upd_same, List.range_succ, List.map_append]
    rfl
section
variable {P : Program} {w : World} {K : PySem.W.Frag} {mg : Str → Option Value} {base : Heap}
theorem scPlain : FnScope ["thing"] ["thing"] (defScope (top 16)) := ⟨rfl, rfl, rfl, by decide +kernel, rfl, by decide +kernel, by decide +kernel⟩
theorem okPlain {f : Addr} {fd : FuncData} (c0 : SaysK more fa fn K) (F : FnT K 16 "is_plain_worth" f fd) (T : Tx K mg) : FnG P w K mg base CX0 2 f fd ["thing"] (spLook K plainOk) := by
  obtain ⟨tN, mN⟩ := T.mgI ("MOST_NUMBER", 1000000000) (by simp [intL])
  obtain ⟨fdT, FT⟩ : ∃ fd, FnT K 15 "is_text" (He.ga K "is_text") fd := law_at c0 2 rfl
  obtain ⟨fdW, FW⟩ : ∃ fd, FnT K 13 "is_whole" (He.ga K "is_whole") fd := law_at c0 0 rfl
  have GT := okText (P := P) (w := w) (mg := mg) (base := base) FT T
  have GW := okWhole (P := P) (w := w) (mg := mg) (base := base) FW T
  have BT : Binds K fdT ["thing"] [] := FT.bindsN fun _ _ _ _ _ _ us hl => match us, hl with | [_], _ => rfl
  have BW : Binds K fdW ["thing", "low", "high"] [] := FW.bindsN fun _ _ _ _ _ _ us hl => match us, hl with | [_, _, _], _ => rfl
  refine fn_ofG F scPlain (fun vs H Q E h => ?_) (fun cdv A outer s H vs Q E hr hg h => ?_)
  · obtain ⟨v, d, rfl, _⟩ := h.ex
    rfl
  · obtain ⟨v, d, rfl, hd, sm, q⟩ := h.ex
    refine ⟨_, PSs.nox (pss_one (ps_ret (pe_or (pe_cmp (pc_isN (pv 0))) (pe_or (pe_callG GT hr hg (by rfl) (T.mgF "is_text" (by decide +kernel)) FT.kp BT .nil pass0 (pa_cons (pv 0) pa_nil))
      (pe_one (pe_callG GW hr hg (by rfl) (T.mgF "is_whole" (by decide +kernel)) FW.kp BW .nil pass0 (pa_cons (pv 0) (pa_cons (pe_un un_neg (pe_glob (v := .int 1000000000) (by rfl) mN ⟨_, rfl⟩)) (pa_cons (pe_glob (v := .int 1000000000) (by rfl) mN ⟨_, rfl⟩) pa_nil))))))))), ?_⟩
    refine ⟨_, rfl, _, rfl, ?_⟩
    rw [dq_non hd]
    unfold plainOk at q
    cases e1 : isN d
    · refine iteE rfl ⟨_, rfl, ⟨⟨v, d, rfl, hd, sm, fun H1 s1 => ⟨_, rfl, ?_⟩⟩⟩⟩
      rw [e1, Bool.false_or] at q
      cases e2 : txtOk d
      · refine iteE rfl ⟨_, rfl, _, rfl, ⟨⟨v, d, _, _, rfl, hd.same s1, ?_⟩⟩⟩
        rw [e2, Bool.false_or] at q
        exact q H1 s1
      · rw [e2, Bool.true_or] at q
        exact iteC rfl (q H1 s1)
    · rw [e1, Bool.true_or] at q
      exact iteC rfl (q H same_refl)
end
end K01

set_option Elab.async false
set_option linter.all false
set_option maxRecDepth 100000
set_option maxHeartbeats 8000000
/-! k01, e: a worth within so many rows; is_worth -/
namespace K01
open PySem PySem.Spec L2 KK
open PyProof.Rows hiding St

def isS (z : Str) : PyData → Bool
  | .str w => decide (w = z)
  | _ => false
def rowIn (p : PyData → Bool) : PyData → Bool
  | .tuple ps => decide (ps.length ≤ 30) && ps.all p
  | _ => false
theorem thing_pair (a b : PyData) : thingOk (.tuple [a, b]) = (isS "thing" a && numOk 0 999 b) := by
  cases a <;> rfl
theorem row_pair (p : PyData → Bool) (a b : PyData) : rowOk p (.tuple [a, b]) = (isS "row" a && rowIn p b) := by
  cases a <;> first | rfl | (cases b <;> simp [rowOk, isS, rowIn])
theorem thing_row {a : PyData} (h : isS "thing" a = true) : isS "row" a = false := by
  cases a with
  | str w =>
    have e : w = "thing" := of_decide_eq_true h
    subst e
    decide +kernel
  | _ => rfl
theorem isS_eq {K : PySem.W.Frag} {H : Hp} {v : V} {a : PyData} (z : Str) (h : Dq K H v a) (s : scalD a = true) : scal v (.str z) = true ∧ decide (v = .str z) = isS z a := by
  cases h with
  | str x => exact ⟨rfl, by rw [isS, decide_eq_decide]; exact ⟨V.str.inj, fun e => by rw [e]⟩⟩
  | non => exact ⟨rfl, decide_eq_false nofun⟩
  | bl b => exact ⟨rfl, decide_eq_false nofun⟩
  | int i => exact ⟨rfl, decide_eq_false nofun⟩
  | _ => cases s
theorem pair_of {K : PySem.W.Frag} {H : Hp} {xs : List V} {ds : List PyData} (al : DqAll K H xs ds) (l : xs.length = 2) : ∃ va vb a b, xs = [va, vb] ∧ ds = [a, b] ∧ Dq K H va a ∧ Dq K H vb b := by
  cases al with
  | nil => cases l
  | cons h1 r =>
    cases r with
    | nil => cases l
    | cons h2 r =>
      cases r with
      | nil => exact ⟨_, _, _, _, rfl, rfl, h1, h2⟩
      | cons h3 r => simp at l
theorem plain_pair (a b : PyData) : plainOk (.tuple [a, b]) = false := rfl
def atB (p : PyData → Bool) (ps : List PyData) (i : Nat) : Bool := match ps[i]? with
  | some d => p d
  | none => false
theorem all_atB (p : PyData → Bool) (ps : List PyData) : ((List.range ps.length).map (atB p ps)).all id = ps.all p := by
  have e : (List.range ps.length).map (atB p ps) = ps.map p := by
    refine List.ext_getElem? fun i => ?_
    rw [List.getElem?_map, List.getElem?_map]
    by_cases h : i < ps.length
    · rw [List.getElem?_range h, List.getElem?_eq_getElem h]
      simp [atB, List.getElem?_eq_getElem h]
    · rw [List.getElem?_eq_none (by simpa using h), List.getElem?_eq_none (by omega)]
      rfl
  rw [e, List.all_map]
  rfl
section
variable {P : Program} {w : World} {K : PySem.W.Frag} {mg : Str → Option Value} {base : Heap}
abbrev NW : List Str := ["thing", "levels", "word", "held", "part"]
theorem scWithin : FnScope NW ["thing", "levels"] (defScope (top 18)) := ⟨rfl, rfl, rfl, by decide +kernel, rfl, by decide +kernel, by decide +kernel⟩
theorem okWithin0 {f : Addr} {fd : FuncData} (c0 : SaysK more fa fn K) (hm : mg "_is_worth_within" = some (.ref f)) (F : FnT K 18 "_is_worth_within" f fd) (T : Tx K mg) : FnG P w K mg base CX0 (3) f fd ["thing", "levels"] (spWithin K (0)) := by
  obtain ⟨tM, mM⟩ := T.mgI ("MOST_THING", 999) (by simp [intL])
  obtain ⟨tQ, mQ⟩ := T.mgI ("MOST_PARTS", 30) (by simp [intL])
  obtain ⟨fdP, FP⟩ : ∃ fd, FnT K 16 "is_plain_worth" (He.ga K "is_plain_worth") fd := law_at c0 3 rfl
  obtain ⟨fdW, FW⟩ : ∃ fd, FnT K 13 "is_whole" (He.ga K "is_whole") fd := law_at c0 0 rfl
  have GP := okPlain (P := P) (w := w) (mg := mg) (base := base) c0 FP T
  have GW := okWhole (P := P) (w := w) (mg := mg) (base := base) FW T
  have BP : Binds K fdP ["thing"] [] := FP.bindsN fun _ _ _ _ _ _ us hl => match us, hl with | [_], _ => rfl
  have BW : Binds K fdW ["thing", "low", "high"] [] := FW.bindsN fun _ _ _ _ _ _ us hl => match us, hl with | [_, _, _], _ => rfl
  refine fn_ofG F scWithin (fun vs H Q E h => ?_) (fun cdv A outer s H vs Q E hr hg h => ?_)
  · obtain ⟨v, d, rfl, _⟩ := h.ex
    rfl
  · obtain ⟨v, d, rfl, hd, sm, q⟩ := h.ex
    have hr2 := hr.mono (show 2 ≤ 2 by omega)
    have hr1 := hr.mono (show 1 ≤ 2 by omega)
    refine ⟨_, PSs.nox (pss_cons (ps_if (pt_val (pe_callG GP hr2 hg (by rfl) (T.mgF "is_plain_worth" (by decide +kernel)) FP.kp BP .nil pass0 (pa_cons (pv 0) pa_nil))) (pss_one (ps_ret pe_bl)) pss_nil)
      (pss_cons (ps_if (PW.pt (pw_or (pt_not (pt_val (pe_callB (call_isd (K := K) rfl) (by rfl) (T.fre "isinstance" (by simp [frees])) boot_isinstance (pa_cons (pv 0) (pa_cons (pe_bltn (v := .ty "tuple") (by rfl) (T.fre "tuple" (by simp [frees])) (by decide +kernel) rfl) pa_nil))))) (pw_or1 (pt_cmpR op_ne (pe_callB call_len_seq (by rfl) (T.fre "len" (by simp [frees])) PySem.boot_len (pa_cons (pv 0) pa_nil)) pe_int (nomark _))))) (pss_one (ps_ret pe_bl)) pss_nil)
      (pss_cons (ps_asg (pv 0) (pg_tup rfl (pgs_cons (pg_name (i := 2) scWithin.nd rfl (Or.inl rfl)) (pgs_cons (pg_name (i := 3) scWithin.nd rfl (Or.inl rfl)) pgs_nil))))
      (pss_cons (ps_if (pt_cmpR op_eq (pv 2) pe_str (nomark _)) (pss_one (ps_ret (pe_callG GW hr1 hg (by rfl) (T.mgF "is_whole" (by decide +kernel)) FW.kp BW .nil pass0 (pa_cons (pv 3) (pa_cons pe_int (pa_cons (pe_glob (v := .int 999) (by rfl) mM ⟨_, rfl⟩) pa_nil)))))) pss_nil)
      (pss_cons (ps_if (PW.pt (pw_or (pt_cmpR op_ne (pv 2) pe_str (nomark _)) (pw_or (pt_cmpR op_eq (pv 1) pe_int (nomark _)) (pw_or (pt_not (pt_val (pe_callB (call_isd (K := K) rfl) (by rfl) (T.fre "isinstance" (by simp [frees])) boot_isinstance (pa_cons (pv 3) (pa_cons (pe_bltn (v := .ty "tuple") (by rfl) (T.fre "tuple" (by simp [frees])) (by decide +kernel) rfl) pa_nil))))) (pw_or1 (pt_cmpR op_gt (pe_callB call_len_seq (by rfl) (T.fre "len" (by simp [frees])) PySem.boot_len (pa_cons (pv 3) pa_nil)) (pe_glob (v := .int 30) (by rfl) mQ ⟨_, rfl⟩) (nomark _))))))) (pss_one (ps_ret pe_bl)) pss_nil)
      (pss_one ps_never)))))), ?_⟩
    refine ⟨_, rfl, ⟨⟨v, d, rfl, hd, sm, fun H1 s1 => ⟨_, rfl, ?_⟩⟩⟩⟩
    have hd1 := hd.same s1
    have qq := q H1 s1
    cases e0 : plainOk d
    rotate_left
    · rw [worth_plain e0] at qq
      exact iteC rfl qq
    refine iteE rfl ⟨_, rfl, ⟨⟨v, d, "tuple", rfl, .tuple, hd1, _, rfl, ?_⟩⟩⟩
    have odd : (∀ a b, d ≠ .tuple [a, b]) → Q (.bl false) H1 := fun t => by
      rw [worth_odd e0 t] at qq
      exact qq
    cases hd1 with
    | non => exact iteC (show (!isiT "NoneType" "tuple") = true by decide +kernel) (iteC rfl (odd nofun))
    | bl b => exact iteC (show (!isiT "bool" "tuple") = true by decide +kernel) (iteC rfl (odd nofun))
    | int i => exact iteC (show (!isiT "int" "tuple") = true by decide +kernel) (iteC rfl (odd nofun))
    | str x => exact iteC (show (!isiT "str" "tuple") = true by decide +kernel) (iteC rfl (odd nofun))
    | lst h a => exact iteC (show (!isiT "list" "tuple") = true by decide +kernel) (iteC rfl (odd nofun))
    | dic h a => exact iteC (show (!isiT "dict" "tuple") = true by decide +kernel) (iteC rfl (odd nofun))
    | @tup p xs ds S al =>
    refine iteE (show (!isiT "tuple" "tuple") = false by decide +kernel) ⟨_, rfl, p, xs, rfl, .inr S, rfl, _, rfl, ?_⟩
    by_cases l2 : xs.length = 2
    rotate_left
    · refine iteC (by rw [Bool.not_eq_true', decide_eq_false_iff_not]; intro z; have := V.int.inj z; omega) (odd fun a b z => ?_)
      have e := al.length
      cases z
      exact l2 e
    refine iteE (by rw [l2]; decide +kernel) ?_
    obtain ⟨va, vb, a, b, rfl, rfl, ha, hb⟩ := pair_of al l2
    refine ⟨_, rfl, p, _, rfl, S, rfl, _, _, rfl, _, _, rfl, rfl, ?_⟩
    simp only [smD, smHs, wordOk, Bool.and_eq_true] at sm
    obtain ⟨_, sc, sa, sb, _⟩ := sm
    obtain ⟨i1, i2⟩ := isS_eq "thing" ha sc
    obtain ⟨j1, j2⟩ := isS_eq "row" ha sc
    refine ⟨_, rfl, i1, _, rfl, ?_⟩
    rw [i2]
    cases et : isS "thing" a
    rotate_left
    · refine iteC rfl ⟨_, rfl, ⟨⟨vb, b, 0, 999, rfl, hb, ?_⟩⟩⟩
      rw [worthOk, plain_pair, thing_pair, et, Bool.false_or, Bool.true_and] at qq
      exact qq
    refine iteE rfl ⟨_, rfl, j1, _, rfl, ?_⟩
    rw [j2]
    cases er : isS "row" a
    · rw [worthOk, plain_pair, thing_pair, et, Bool.false_or, Bool.false_and] at qq
      exact iteC rfl (iteC rfl qq)
    rw [worthOk, plain_pair, thing_pair, et, Bool.false_or, Bool.false_and] at qq
    exact iteE rfl ⟨_, rfl, rfl, _, rfl, iteC (by decide +kernel) (iteC rfl qq)⟩
theorem okWithinS {f : Addr} {fd : FuncData} (c0 : SaysK more fa fn K) (hm : mg "_is_worth_within" = some (.ref f)) (F : FnT K 18 "_is_worth_within" f fd) (T : Tx K mg) {n : Nat} {fdS : FuncData} (GS : FnG P w K mg base CX0 (3 + n) f fdS ["thing", "levels"] (spWithin K n)) (BS : Binds K fdS ["thing", "levels"] []) : FnG P w K mg base CX0 (3 + n + 1) f fd ["thing", "levels"] (spWithin K (n + 1)) := by
  obtain ⟨tM, mM⟩ := T.mgI ("MOST_THING", 999) (by simp [intL])
  obtain ⟨tQ, mQ⟩ := T.mgI ("MOST_PARTS", 30) (by simp [intL])
  obtain ⟨fdP, FP⟩ : ∃ fd, FnT K 16 "is_plain_worth" (He.ga K "is_plain_worth") fd := law_at c0 3 rfl
  obtain ⟨fdW, FW⟩ : ∃ fd, FnT K 13 "is_whole" (He.ga K "is_whole") fd := law_at c0 0 rfl
  have GP := okPlain (P := P) (w := w) (mg := mg) (base := base) c0 FP T
  have GW := okWhole (P := P) (w := w) (mg := mg) (base := base) FW T
  have BP : Binds K fdP ["thing"] [] := FP.bindsN fun _ _ _ _ _ _ us hl => match us, hl with | [_], _ => rfl
  have BW : Binds K fdW ["thing", "low", "high"] [] := FW.bindsN fun _ _ _ _ _ _ us hl => match us, hl with | [_, _, _], _ => rfl
  refine fn_ofG (k := 3 + n) F scWithin (fun vs H Q E h => ?_) (fun cdv A outer s H vs Q E hr hg h => ?_)
  · obtain ⟨v, d, rfl, _⟩ := h.ex
    rfl
  · obtain ⟨v, d, rfl, hd, sm, q⟩ := h.ex
    have hr2 := hr.mono (show 2 ≤ 3 + n by omega)
    have hr1 := hr.mono (show 1 ≤ 3 + n by omega)
    refine ⟨_, PSs.nox (pss_cons (ps_if (pt_val (pe_callG GP hr2 hg (by rfl) (T.mgF "is_plain_worth" (by decide +kernel)) FP.kp BP .nil pass0 (pa_cons (pv 0) pa_nil))) (pss_one (ps_ret pe_bl)) pss_nil)
      (pss_cons (ps_if (PW.pt (pw_or (pt_not (pt_val (pe_callB (call_isd (K := K) rfl) (by rfl) (T.fre "isinstance" (by simp [frees])) boot_isinstance (pa_cons (pv 0) (pa_cons (pe_bltn (v := .ty "tuple") (by rfl) (T.fre "tuple" (by simp [frees])) (by decide +kernel) rfl) pa_nil))))) (pw_or1 (pt_cmpR op_ne (pe_callB call_len_seq (by rfl) (T.fre "len" (by simp [frees])) PySem.boot_len (pa_cons (pv 0) pa_nil)) pe_int (nomark _))))) (pss_one (ps_ret pe_bl)) pss_nil)
      (pss_cons (ps_asg (pv 0) (pg_tup rfl (pgs_cons (pg_name (i := 2) scWithin.nd rfl (Or.inl rfl)) (pgs_cons (pg_name (i := 3) scWithin.nd rfl (Or.inl rfl)) pgs_nil))))
      (pss_cons (ps_if (pt_cmpR op_eq (pv 2) pe_str (nomark _)) (pss_one (ps_ret (pe_callG GW hr1 hg (by rfl) (T.mgF "is_whole" (by decide +kernel)) FW.kp BW .nil pass0 (pa_cons (pv 3) (pa_cons pe_int (pa_cons (pe_glob (v := .int 999) (by rfl) mM ⟨_, rfl⟩) pa_nil)))))) pss_nil)
      (pss_cons (ps_if (PW.pt (pw_or (pt_cmpR op_ne (pv 2) pe_str (nomark _)) (pw_or (pt_cmpR op_eq (pv 1) pe_int (nomark _)) (pw_or (pt_not (pt_val (pe_callB (call_isd (K := K) rfl) (by rfl) (T.fre "isinstance" (by simp [frees])) boot_isinstance (pa_cons (pv 3) (pa_cons (pe_bltn (v := .ty "tuple") (by rfl) (T.fre "tuple" (by simp [frees])) (by decide +kernel) rfl) pa_nil))))) (pw_or1 (pt_cmpR op_gt (pe_callB call_len_seq (by rfl) (T.fre "len" (by simp [frees])) PySem.boot_len (pa_cons (pv 3) pa_nil)) (pe_glob (v := .int 30) (by rfl) mQ ⟨_, rfl⟩) (nomark _))))))) (pss_one (ps_ret pe_bl)) pss_nil)
      (pss_one (ps_ret (pe_callB (cr_all rfl) (by rfl) (T.fre "all" (by simp [frees])) (by decide +kernel) (pa_cons (pe_lc (own := [("part", 4)]) (g := gName 4) (tt := tYes) rfl scWithin.nd (pi_tup (pv 3)) (blkOk_by (own := [("part", 4)]) (N := NW) (sc := defScope (top 18)) (by decide +kernel))
        (fun _ _ _ _ _ => pg_name (i := 4) scWithin.nd rfl (Or.inl rfl)) (fun _ _ _ _ _ => pts_nil)
        (fun _ _ _ _ _ => pe_callG GS hr hg (by rfl) hm F.kp BS .nil pass0 (pa_cons (pv 4) (pa_cons (pe_op op_sub (pv 1) pe_int) pa_nil)))) pa_nil))))))))), ?_⟩
    refine ⟨_, rfl, ⟨⟨v, d, rfl, hd, sm, fun H1 s1 => ⟨_, rfl, ?_⟩⟩⟩⟩
    have hd1 := hd.same s1
    have qq := q H1 s1
    cases e0 : plainOk d
    rotate_left
    · rw [worth_plain e0] at qq
      exact iteC rfl qq
    refine iteE rfl ⟨_, rfl, ⟨⟨v, d, "tuple", rfl, .tuple, hd1, _, rfl, ?_⟩⟩⟩
    have odd : (∀ a b, d ≠ .tuple [a, b]) → Q (.bl false) H1 := fun t => by
      rw [worth_odd e0 t] at qq
      exact qq
    cases hd1 with
    | non => exact iteC (show (!isiT "NoneType" "tuple") = true by decide +kernel) (iteC rfl (odd nofun))
    | bl b => exact iteC (show (!isiT "bool" "tuple") = true by decide +kernel) (iteC rfl (odd nofun))
    | int i => exact iteC (show (!isiT "int" "tuple") = true by decide +kernel) (iteC rfl (odd nofun))
    | str x => exact iteC (show (!isiT "str" "tuple") = true by decide +kernel) (iteC rfl (odd nofun))
    | lst h a => exact iteC (show (!isiT "list" "tuple") = true by decide +kernel) (iteC rfl (odd nofun))
    | dic h a => exact iteC (show (!isiT "dict" "tuple") = true by decide +kernel) (iteC rfl (odd nofun))
    | @tup p xs ds S al =>
    refine iteE (show (!isiT "tuple" "tuple") = false by decide +kernel) ⟨_, rfl, p, xs, rfl, .inr S, rfl, _, rfl, ?_⟩
    by_cases l2 : xs.length = 2
    rotate_left
    · refine iteC (by rw [Bool.not_eq_true', decide_eq_false_iff_not]; intro z; have := V.int.inj z; omega) (odd fun a b z => ?_)
      have e := al.length
      cases z
      exact l2 e
    refine iteE (by rw [l2]; decide +kernel) ?_
    obtain ⟨va, vb, a, b, rfl, rfl, ha, hb⟩ := pair_of al l2
    refine ⟨_, rfl, p, _, rfl, S, rfl, _, _, rfl, _, _, rfl, rfl, ?_⟩
    simp only [smD, smHs, wordOk, Bool.and_eq_true] at sm
    obtain ⟨_, sc, sa, sb, _⟩ := sm
    obtain ⟨i1, i2⟩ := isS_eq "thing" ha sc
    obtain ⟨j1, j2⟩ := isS_eq "row" ha sc
    refine ⟨_, rfl, i1, _, rfl, ?_⟩
    rw [i2]
    cases et : isS "thing" a
    rotate_left
    · refine iteC rfl ⟨_, rfl, ⟨⟨vb, b, 0, 999, rfl, hb, ?_⟩⟩⟩
      rw [worthOk, plain_pair, thing_pair, row_pair, et, thing_row et, Bool.false_or, Bool.true_and, Bool.false_and, Bool.or_false] at qq
      exact qq
    refine iteE rfl ⟨_, rfl, j1, _, rfl, ?_⟩
    rw [j2]
    cases er : isS "row" a
    · rw [worthOk, plain_pair, thing_pair, row_pair, et, er, Bool.false_or, Bool.false_and, Bool.false_and, Bool.or_false] at qq
      exact iteC rfl (iteC rfl qq)
    rw [worthOk, plain_pair, thing_pair, row_pair, et, er, Bool.false_or, Bool.false_and, Bool.true_and, Bool.false_or] at qq
    have qA : ∀ H', Same H1 H' → Q (.bl (rowIn (worthOk n) b)) H' := fun H' s' => by
      have z := q H' (s1.trans s')
      rw [worthOk, plain_pair, thing_pair, row_pair, et, er, Bool.false_or, Bool.false_and, Bool.true_and, Bool.false_or] at z
      exact z
    refine iteE rfl ⟨_, rfl, rfl, _, rfl, iteE ?_ ?_⟩
    · rw [decide_eq_false_iff_not]
      intro z
      have := V.int.inj z
      omega
    refine ⟨_, rfl, ⟨⟨vb, b, "tuple", rfl, .tuple, hb, _, rfl, ?_⟩⟩⟩
    cases hb with
    | non => exact iteC (show (!isiT "NoneType" "tuple") = true by decide +kernel) (iteC rfl qq)
    | bl b => exact iteC (show (!isiT "bool" "tuple") = true by decide +kernel) (iteC rfl qq)
    | int i => exact iteC (show (!isiT "int" "tuple") = true by decide +kernel) (iteC rfl qq)
    | str x => exact iteC (show (!isiT "str" "tuple") = true by decide +kernel) (iteC rfl qq)
    | lst h a => exact iteC (show (!isiT "list" "tuple") = true by decide +kernel) (iteC rfl qq)
    | dic h a => exact iteC (show (!isiT "dict" "tuple") = true by decide +kernel) (iteC rfl qq)
    | @tup p2 ys ps S2 al2 =>
    have ll := al2.length
    simp only [smH, Bool.and_eq_true, decide_eq_true_eq] at sb
    obtain ⟨sl, sp⟩ := sb
    refine iteE (show (!isiT "tuple" "tuple") = false by decide +kernel) ⟨_, rfl, p2, ys, rfl, .inr S2, _, _, rfl, rfl, _, rfl, ite2 (fun h => ?_) (fun h => ?_)⟩
    · have hh := of_decide_eq_true h
      rw [rowIn, decide_eq_false (by omega), Bool.false_and] at qq
      exact qq
    · have hh : ¬ ((ys.length : Int) > 30) := fun z => h (decide_eq_true z)
      refine ⟨_, rfl, p2, rfl, ⟨_, S2⟩, fun D nD => lc_mapTup (fun i => .bl (atB (worthOk n) ps i)) S2 nD (by omega) (fun i x H2 Z hx s2 z => ⟨rfl, ?_⟩) (fun H2 s2 e2 => ?_) gName_mono⟩
      · obtain ⟨dx, ex, hx2⟩ := al2.at hx
        refine ⟨_, rfl, _, rfl, _, _, rfl, rfl, ⟨⟨x, dx, ?_, hx2.same s2, smAll_at sp ex, fun H3 s3 => ?_⟩⟩⟩
        · show [x, V.int (((n + 1 : Nat) : Int) - 1)] = [x, V.int (n : Int)]
          rw [show (((n + 1 : Nat) : Int) - 1) = (n : Int) by omega]
        · have zz := z H3 s3
          unfold atB at zz
          rw [ex] at zz
          exact zz
      · refine ⟨D, (List.range ys.length).map (atB (worthOk n) ps), rfl, SqL.of (by rw [e2, List.map_map]; rfl), ?_⟩
        have zz := qA H2 s2
        rw [rowIn, decide_eq_true (by omega), Bool.true_and, ← all_atB, ← ll] at zz
        exact zz
theorem okWithin {f : Addr} {fd : FuncData} (c0 : SaysK more fa fn K) (hm : mg "_is_worth_within" = some (.ref f)) (F : FnT K 18 "_is_worth_within" f fd) (T : Tx K mg) : ∀ n, FnG P w K mg base CX0 (3 + n) f fd ["thing", "levels"] (spWithin K n)
  | 0 => okWithin0 c0 hm F T
  | n + 1 => by
    have B : Binds K fd ["thing", "levels"] [] := F.bindsN fun _ _ _ _ _ _ us hl => match us, hl with | [_, _], _ => rfl
    have z := okWithinS (n := n) c0 hm F T (okWithin c0 hm F T n) B
    exact z.mono (by omega)
theorem scWorth : FnScope ["thing"] ["thing"] (defScope (top 17)) := ⟨rfl, rfl, rfl, by decide +kernel, rfl, by decide +kernel, by decide +kernel⟩
theorem okWorth {f : Addr} {fd : FuncData} (c0 : SaysK more fa fn K) (F : FnT K 17 "is_worth" f fd) (T : Tx K mg) : FnG P w K mg base CX0 8 f fd ["thing"] (spLook K (worthOk 4)) := by
  obtain ⟨tM, mM⟩ := T.mgI ("MOST_WITHIN", 4) (by simp [intL])
  obtain ⟨fdS, FS⟩ : ∃ fd, FnT K 18 "_is_worth_within" (He.ga K "_is_worth_within") fd := law_at c0 5 rfl
  have hm := T.mgF "_is_worth_within" (by decide +kernel)
  have GS := okWithin (P := P) (w := w) (mg := mg) (base := base) c0 hm FS T 4
  have BS : Binds K fdS ["thing", "levels"] [] := FS.bindsN fun _ _ _ _ _ _ us hl => match us, hl with | [_, _], _ => rfl
  refine fn_ofG F scWorth (fun vs H Q E h => ?_) (fun cdv A outer s H vs Q E hr hg h => ?_)
  · obtain ⟨v, d, rfl, _⟩ := h.ex
    rfl
  · obtain ⟨v, d, rfl, hd, sm, q⟩ := h.ex
    refine ⟨_, PSs.nox (pss_one (ps_ret (pe_callG GS hr hg (by rfl) hm FS.kp BS .nil pass0 (pa_cons (pv 0) (pa_cons (pe_glob (v := .int 4) (by rfl) mM ⟨_, rfl⟩) pa_nil))))), ?_⟩
    exact ⟨_, rfl, ⟨⟨v, d, rfl, hd, sm, q⟩⟩⟩
end
end K01

set_option Elab.async false
set_option linter.all false
set_option maxRecDepth 100000
set_option maxHeartbeats 8000000
/-! k01, f: the law's own looks -/
namespace K01
open PySem PySem.Spec L2 KK
open PyProof.Rows hiding St

/-- all that may stand in a text, in order -/
def signsS : Str := ⟨(((List.range 95).map (· + 32)).filter signOk).toArray⟩
theorem sign_in : ∀ c, c < 128 → (!(!(Builtin.Str.occurrences signsS ⟨#[c]⟩ 0 signsS.length 1).isEmpty)) = !signOk c := by decide +kernel
structure SignsP (vs : List V) (H : Hp) (Q : VK) : Prop where
  nil : vs = []
  q : Q (.str signsS) H
def spSigns : Sp := fun vs H Q _ => SignsP vs H Q
section
variable {P : Program} {w : World} {K : PySem.W.Frag} {mg : Str → Option Value} {base : Heap}
theorem scSigns : FnScope ["_law_signs_here"] [] (defScope (top 25)) := ⟨rfl, rfl, rfl, by decide +kernel, rfl, by decide +kernel, by decide +kernel⟩
theorem okSigns {f : Addr} {fd : FuncData} (F : FnT K 25 "_law_signs" f fd) : FnG P w K mg base CX0 1 f fd [] spSigns := by
  refine fn_ofG F scSigns (fun vs H Q E h => ?_) (fun cdv A outer s H vs Q E hr hg h => ?_)
  · rw [h.nil]
    rfl
  · obtain ⟨rfl, q⟩ := h
    refine ⟨_, PSs.nox (pss_cons (ps_set (i := 0) scSigns.nd rfl (Or.inl rfl) pe_str) (pss_one (ps_ret (pe_op op_add_str (pv 0) pe_str)))), ?_⟩
    refine ⟨_, rfl, _, _, rfl, rfl, ?_, ?_⟩
    · rw [sizeLine_eq]
      decide +kernel
    · refine cast (congrArg (fun z : Str => Q (V.str z) H) (?_ : signsS = _)) q
      decide +kernel
theorem scLText : FnScope ["_law_thing", "_law_sign"] ["_law_thing"] (defScope (top 30)) := ⟨rfl, rfl, rfl, by decide +kernel, rfl, by decide +kernel, by decide +kernel⟩
theorem okLText {f : Addr} {fd : FuncData} (c0 : SaysK more fa fn K) (F : FnT K 30 "_law_is_text" f fd) (T : Tx K mg) : FnG P w K mg base CX0 2 f fd ["_law_thing"] (spLook K txtOk) := by
  obtain ⟨fdS, FS⟩ : ∃ fd, FnT K 25 "_law_signs" (He.ga K "_law_signs") fd := law_at c0 11 rfl
  have GS := okSigns (P := P) (w := w) (mg := mg) (base := base) FS
  have BS : Binds K fdS [] [] := FS.bindsN fun _ _ _ _ _ _ us hl => match us, hl with | [], _ => rfl
  refine fn_ofG F scLText (fun vs H Q E h => ?_) (fun cdv A outer s H vs Q E hr hg h => ?_)
  · obtain ⟨v, d, rfl, _⟩ := h.ex
    rfl
  · obtain ⟨v, d, rfl, hd, sm, q⟩ := h.ex
    have hu := hr.units
    refine ⟨_, PSs.nox (pss_cons (ps_if (PW.pt (pw_or (pt_not (pt_val (pe_callB (call_isd (K := K) rfl) (by rfl) (T.fre "isinstance" (by simp [frees])) boot_isinstance (pa_cons (pv 0) (pa_cons (pe_bltn (v := .ty "str") (by rfl) (T.fre "str" (by simp [frees])) (by decide +kernel) rfl) pa_nil)))))
        (pw_or1 (pt_cmpR op_gt (pe_callB call_len_str (by rfl) (T.fre "len" (by simp [frees])) PySem.boot_len (pa_cons (pv 0) pa_nil)) pe_int (nomark _))))) (pss_one (ps_ret pe_bl)) pss_nil)
      (pss_one (ps_ret (pe_cmpR (op_eqNil (K := K) rfl hu) (pe_lc (own := [("_law_sign", 1)]) (g := gName 1) rfl scLText.nd (pi_str (pv 0)) (blkOk_by (own := [("_law_sign", 1)]) (N := ["_law_thing", "_law_sign"]) (sc := defScope (top 30)) (by decide +kernel))
        (fun _ _ _ _ _ => pg_name (i := 1) scLText.nd rfl (Or.inl rfl)) (fun _ _ _ _ _ => pts_one (pt_cmpR op_notIn_str (pv 1) (pe_call0G GS hr hg (by rfl) (T.mgF "_law_signs" (by decide +kernel)) FS.kp BS .nil pass0) (by with_unfolding_all rfl)))
        (fun _ _ _ _ _ => pv 1)) (pe_lst pa_nil) (nomark _))))), ?_⟩
    refine ⟨_, rfl, ⟨⟨v, d, "str", rfl, .str, hd, _, rfl, ?_⟩⟩⟩
    cases hd with
    | str x =>
      simp only [smD, Bool.and_eq_true, decide_eq_true_eq] at sm
      obtain ⟨hl, hc⟩ := sm
      refine iteE (show (!isiT "str" "str") = false by decide +kernel) ⟨_, rfl, x, rfl, by rw [sizeLine_eq]; omega, _, _, rfl, rfl, _, rfl, ite2 (fun h => ?_) (fun h => ?_)⟩
      · have e : txtOk (.str x) = false := by
          have := of_decide_eq_true h
          rw [txtOk, decide_eq_false (by omega), Bool.false_and]
        have z := q H same_refl
        rw [e] at z
        exact z
      · refine ⟨_, rfl, x, rfl, fun D nD => lc_noneStr (fun c => !signOk c) nD (by show x.cps.toList.length ≤ 1000; rw [Array.length_toList]; exact hl) (fun c H1 Z N cm s1 z => ⟨rfl, ?_⟩) (fun H1 acc s1 e1 ea => ?_)⟩
        · have c128 : c < 128 := of_decide_eq_true (List.all_eq_true.mp hc c cm)
          refine ⟨_, rfl, ⟨rfl, _, _, rfl, rfl, _, rfl, ?_⟩⟩
          have zz := z H1 same_refl
          rw [sign_in c c128]
          cases e : signOk c
          · rw [e] at zz
            exact iteC rfl ⟨_, rfl, zz⟩
          · rw [e] at zz
            exact iteE rfl zz
        · refine ⟨Nat.zero_le _, fun p0 n0 => ?_⟩
          refine ⟨D, p0, acc, rfl, rfl, SqL.of (laidK n0 _ _ e1), SqL.of upd_same, ?_⟩
          have e : txtOk (.str x) = acc.isEmpty := by
            have : ¬ ((x.length : Int) > 60) := fun w => h (decide_eq_true w)
            rw [txtOk, decide_eq_true (by omega), Bool.true_and, ea]
            simp only [Bool.not_not]
          have z := q (upd H1 p0 (.lst [])) (s1.trans (laidK n0))
          rw [e] at z
          exact z
    | int i => exact iteC (show (!isiT "int" "str") = true by decide +kernel) (iteC rfl (q H same_refl))
    | bl b => exact iteC (show (!isiT "bool" "str") = true by decide +kernel) (iteC rfl (q H same_refl))
    | non => exact iteC (show (!isiT "NoneType" "str") = true by decide +kernel) (iteC rfl (q H same_refl))
    | lst h a => exact iteC (show (!isiT "list" "str") = true by decide +kernel) (iteC rfl (q H same_refl))
    | tup h a => exact iteC (show (!isiT "tuple" "str") = true by decide +kernel) (iteC rfl (q H same_refl))
    | dic h a => exact iteC (show (!isiT "dict" "str") = true by decide +kernel) (iteC rfl (q H same_refl))
theorem scLNum : FnScope ["_law_thing", "_law_low", "_law_high"] ["_law_thing", "_law_low", "_law_high"] (defScope (top 31)) := ⟨rfl, rfl, rfl, by decide +kernel, rfl, by decide +kernel, by decide +kernel⟩
theorem okLNum {f : Addr} {fd : FuncData} (F : FnT K 31 "_law_is_number" f fd) (T : Tx K mg) : FnG P w K mg base CX0 1 f fd ["_law_thing", "_law_low", "_law_high"] (spWhole K) := by
  refine fn_ofG F scLNum (fun vs H Q E h => ?_) (fun cdv A outer s H vs Q E hr hg h => ?_)
  · obtain ⟨v, d, lo, hi, rfl, _⟩ := h.ex
    rfl
  · obtain ⟨v, d, lo, hi, rfl, hd, q⟩ := h.ex
    refine ⟨_, PSs.nox (pss_one (ps_ret (pe_and (pe_callB (call_isd (K := K) rfl) (by rfl) (T.fre "isinstance" (by simp [frees])) boot_isinstance (pa_cons (pv 0) (pa_cons (pe_bltn (v := .ty "int") (by rfl) (T.fre "int" (by simp [frees])) (by decide +kernel) rfl) pa_nil)))
      (pe_and (pe_not (pe_callB (call_isd (K := K) rfl) (by rfl) (T.fre "isinstance" (by simp [frees])) boot_isinstance (pa_cons (pv 0) (pa_cons (pe_bltn (v := .ty "bool") (by rfl) (T.fre "bool" (by simp [frees])) (by decide +kernel) rfl) pa_nil))))
      (pe_and (pe_cmpR op_le (pv 1) (pv 0) (nomark _)) (pe_one (pe_cmpR op_le (pv 0) (pv 2) (nomark _)))))))), ?_⟩
    refine ⟨_, rfl, ⟨⟨v, d, "int", rfl, .int, hd, _, rfl, ?_⟩⟩⟩
    cases hd with
    | int i =>
      refine iteC (show isiT "int" "int" = true by decide +kernel) ⟨_, rfl, ⟨⟨_, _, "bool", rfl, .bool, .int i, _, rfl, _, rfl, iteC (show (!isiT "int" "bool") = true by decide +kernel) ?_⟩⟩⟩
      refine ⟨_, rfl, _, rfl, _, _, rfl, rfl, _, rfl, ite2 (fun h => ?_) (fun h => ?_)⟩
      · refine ⟨_, rfl, _, rfl, _, _, rfl, rfl, ?_⟩
        rw [numOk, h, Bool.true_and] at q
        exact q
      · have e : decide (lo ≤ i) = false := by
          cases z : decide (lo ≤ i)
          · rfl
          · exact absurd z h
        rw [numOk, e, Bool.false_and] at q
        exact q
    | bl b => exact iteC (show isiT "bool" "int" = true by decide +kernel) ⟨_, rfl, ⟨⟨_, _, "bool", rfl, .bool, .bl b, _, rfl, _, rfl, iteE (show (!isiT "bool" "bool") = false by decide +kernel) q⟩⟩⟩
    | non => exact iteE (by decide +kernel) q
    | str x => exact iteE (show isiT "str" "int" = false by decide +kernel) q
    | lst h a => exact iteE (show isiT "list" "int" = false by decide +kernel) q
    | tup h a => exact iteE (show isiT "tuple" "int" = false by decide +kernel) q
    | dic h a => exact iteE (show isiT "dict" "int" = false by decide +kernel) q
end
end K01

set_option Elab.async false
set_option linter.all false
set_option maxRecDepth 100000
set_option maxHeartbeats 8000000
/-! k01, g: the law's own look at worths -/
namespace K01
open PySem PySem.Spec L2 KK
open PyProof.Rows hiding St

section
variable {P : Program} {w : World} {K : PySem.W.Frag} {mg : Str → Option Value} {base : Heap}
abbrev NL : List Str := ["_law_thing", "_law_deep_here", "_law_part"]
theorem scLWorth : FnScope NL ["_law_thing", "_law_deep_here"] (defScope (top 32)) := ⟨rfl, rfl, rfl, by decide +kernel, rfl, by decide +kernel, by decide +kernel⟩
theorem okLWorth0 {f : Addr} {fd : FuncData} (c0 : SaysK more fa fn K) (hm : mg "_law_is_worth" = some (.ref f)) (F : FnT K 32 "_law_is_worth" f fd) (T : Tx K mg) : FnG P w K mg base CX0 (3) f fd ["_law_thing", "_law_deep_here"] (spWithin K (0)) := by
  obtain ⟨fdN, FN⟩ : ∃ fd, FnT K 31 "_law_is_number" (He.ga K "_law_is_number") fd := law_at c0 17 rfl
  obtain ⟨fdX, FX⟩ : ∃ fd, FnT K 30 "_law_is_text" (He.ga K "_law_is_text") fd := law_at c0 16 rfl
  have GN := okLNum (P := P) (w := w) (mg := mg) (base := base) FN T
  have GX := okLText (P := P) (w := w) (mg := mg) (base := base) c0 FX T
  have BN : Binds K fdN ["_law_thing", "_law_low", "_law_high"] [] := FN.bindsN fun _ _ _ _ _ _ us hl => match us, hl with | [_, _, _], _ => rfl
  have BX : Binds K fdX ["_law_thing"] [] := FX.bindsN fun _ _ _ _ _ _ us hl => match us, hl with | [_], _ => rfl
  refine fn_ofG F scLWorth (fun vs H Q E h => ?_) (fun cdv A outer s H vs Q E hr hg h => ?_)
  · obtain ⟨v, d, rfl, _⟩ := h.ex
    rfl
  · obtain ⟨v, d, rfl, hd, sm, q⟩ := h.ex
    have hu := hr.units
    have hr2 := hr.mono (show 2 ≤ 2 by omega)
    have hr1 := hr.mono (show 1 ≤ 2 by omega)
    refine ⟨_, PSs.nox (pss_cons (ps_if (PW.pt (pw_or (pt_cmp (pc_isN (pv 0))) (pw_or (pt_val (pe_callG GN hr1 hg (by rfl) (T.mgF "_law_is_number" (by decide +kernel)) FN.kp BN .nil pass0 (pa_cons (pv 0) (pa_cons (pe_op op_sub pe_int (pe_op op_pow pe_int pe_int)) (pa_cons (pe_op op_pow pe_int pe_int) pa_nil))))) (pw_or1 (pt_val (pe_callG GX hr2 hg (by rfl) (T.mgF "_law_is_text" (by decide +kernel)) FX.kp BX .nil pass0 (pa_cons (pv 0) pa_nil))))))) (pss_one (ps_ret pe_bl)) pss_nil)
      (pss_cons (ps_if (PW.pt (pw_or (pt_not (pt_val (pe_callB (call_isd (K := K) rfl) (by rfl) (T.fre "isinstance" (by simp [frees])) boot_isinstance (pa_cons (pv 0) (pa_cons (pe_bltn (v := .ty "tuple") (by rfl) (T.fre "tuple" (by simp [frees])) (by decide +kernel) rfl) pa_nil))))) (pw_or1 (pt_cmpR op_ne (pe_callB call_len_seq (by rfl) (T.fre "len" (by simp [frees])) PySem.boot_len (pa_cons (pv 0) pa_nil)) pe_int (nomark _))))) (pss_one (ps_ret pe_bl)) pss_nil)
      (pss_cons (ps_if (pt_cmpR op_eq (pe_ix ix_tup (pv 0) pe_int (fun _ _ => rfl)) pe_str (nomark _)) (pss_one (ps_ret (pe_callG GN hr1 hg (by rfl) (T.mgF "_law_is_number" (by decide +kernel)) FN.kp BN .nil pass0 (pa_cons (pe_ix ix_tup (pv 0) pe_int (fun _ _ => rfl)) (pa_cons pe_int (pa_cons pe_int pa_nil)))))) pss_nil)
      (pss_cons (ps_if (PW.pt (pw_or (pt_cmpR op_ne (pe_ix ix_tup (pv 0) pe_int (fun _ _ => rfl)) pe_str (nomark _)) (pw_or (pt_not (pt_val (pe_callB (call_isd (K := K) rfl) (by rfl) (T.fre "isinstance" (by simp [frees])) boot_isinstance (pa_cons (pe_ix ix_tup (pv 0) pe_int (fun _ _ => rfl)) (pa_cons (pe_bltn (v := .ty "tuple") (by rfl) (T.fre "tuple" (by simp [frees])) (by decide +kernel) rfl) pa_nil))))) (pw_or (pt_cmpR op_gt (pe_callB call_len_seq (by rfl) (T.fre "len" (by simp [frees])) PySem.boot_len (pa_cons (pe_ix ix_tup (pv 0) pe_int (fun _ _ => rfl)) pa_nil)) pe_int (nomark _)) (pw_or1 (pt_cmpR op_eq (pv 1) pe_int (nomark _))))))) (pss_one (ps_ret pe_bl)) pss_nil)
      (pss_one ps_never))))), ?_⟩
    refine ⟨_, rfl, _, rfl, ?_⟩
    rw [dq_non hd]
    cases e1 : isN d
    rotate_left
    · have z := q H same_refl
      rw [worth_plain (by rw [plainOk, e1, Bool.true_or])] at z
      exact iteC rfl (iteC rfl z)
    refine iteE rfl ⟨_, rfl, _, _, rfl, rfl, ⟨by decide, by decide, by decide⟩, _, _, rfl, rfl, _, _, rfl, rfl, ⟨by decide, by decide, by decide⟩, ⟨⟨v, d, -1000000000, 1000000000, by first | rfl | simp, hd, _, rfl, ?_⟩⟩⟩
    cases e2 : numOk (-1000000000) 1000000000 d
    rotate_left
    · have z := q H same_refl
      rw [worth_plain (by rw [plainOk, e2, Bool.or_true, Bool.or_true])] at z
      exact iteC rfl (iteC rfl z)
    refine iteE rfl ⟨_, rfl, ⟨⟨v, d, rfl, hd, sm, fun H1 s1 => ⟨_, rfl, ?_⟩⟩⟩⟩
    have hd1 := hd.same s1
    have qq := q H1 s1
    cases e3 : txtOk d
    rotate_left
    · rw [worth_plain (by rw [plainOk, e3, Bool.true_or, Bool.or_true])] at qq
      exact iteC rfl qq
    have e0 : plainOk d = false := by rw [plainOk, e1, e2, e3]; rfl
    refine iteE rfl ⟨_, rfl, ⟨⟨v, d, "tuple", rfl, .tuple, hd1, _, rfl, ?_⟩⟩⟩
    have odd : (∀ a b, d ≠ .tuple [a, b]) → Q (.bl false) H1 := fun t => by
      rw [worth_odd e0 t] at qq
      exact qq
    cases hd1 with
    | non => exact iteC (show (!isiT "NoneType" "tuple") = true by decide +kernel) (iteC rfl (odd nofun))
    | bl b => exact iteC (show (!isiT "bool" "tuple") = true by decide +kernel) (iteC rfl (odd nofun))
    | int i => exact iteC (show (!isiT "int" "tuple") = true by decide +kernel) (iteC rfl (odd nofun))
    | str x => exact iteC (show (!isiT "str" "tuple") = true by decide +kernel) (iteC rfl (odd nofun))
    | lst h a => exact iteC (show (!isiT "list" "tuple") = true by decide +kernel) (iteC rfl (odd nofun))
    | dic h a => exact iteC (show (!isiT "dict" "tuple") = true by decide +kernel) (iteC rfl (odd nofun))
    | @tup p xs ds S al =>
    refine iteE (show (!isiT "tuple" "tuple") = false by decide +kernel) ⟨_, rfl, p, xs, rfl, .inr S, rfl, _, rfl, ?_⟩
    by_cases l2 : xs.length = 2
    rotate_left
    · refine iteC (by rw [Bool.not_eq_true', decide_eq_false_iff_not]; intro z; have := V.int.inj z; omega) (odd fun a b z => ?_)
      have e := al.length
      cases z
      exact l2 e
    refine iteE (by rw [l2]; decide +kernel) ?_
    obtain ⟨va, vb, a, b, rfl, rfl, ha, hb⟩ := pair_of al l2
    simp only [smD, smHs, wordOk, Bool.and_eq_true] at sm
    obtain ⟨_, sc, sa, sb, _⟩ := sm
    obtain ⟨i1, i2⟩ := isS_eq "thing" ha sc
    obtain ⟨j1, j2⟩ := isS_eq "row" ha sc
    refine ⟨_, rfl, p, _, _, va, rfl, rfl, S, rfl, i1, _, rfl, ?_⟩
    rw [i2]
    cases et : isS "thing" a
    rotate_left
    · refine iteC rfl ⟨_, rfl, p, _, _, vb, rfl, rfl, S, rfl, ⟨⟨vb, b, 0, 999, rfl, hb, ?_⟩⟩⟩
      rw [worthOk, plain_pair, thing_pair, et, Bool.false_or, Bool.true_and] at qq
      exact qq
    refine iteE rfl ⟨_, rfl, p, _, _, va, rfl, rfl, S, rfl, j1, _, rfl, ?_⟩
    rw [j2]
    cases er : isS "row" a
    · rw [worthOk, plain_pair, thing_pair, et, Bool.false_or, Bool.false_and] at qq
      exact iteC rfl (iteC rfl qq)
    rw [worthOk, plain_pair, thing_pair, et, Bool.false_or, Bool.false_and] at qq
    refine iteE rfl ⟨_, rfl, p, _, _, vb, rfl, rfl, S, rfl, ⟨⟨vb, b, "tuple", rfl, .tuple, hb, _, rfl, ?_⟩⟩⟩
    cases hb with
    | non => exact iteC (show (!isiT "NoneType" "tuple") = true by decide +kernel) (iteC rfl qq)
    | bl b => exact iteC (show (!isiT "bool" "tuple") = true by decide +kernel) (iteC rfl qq)
    | int i => exact iteC (show (!isiT "int" "tuple") = true by decide +kernel) (iteC rfl qq)
    | str x => exact iteC (show (!isiT "str" "tuple") = true by decide +kernel) (iteC rfl qq)
    | lst h a => exact iteC (show (!isiT "list" "tuple") = true by decide +kernel) (iteC rfl qq)
    | dic h a => exact iteC (show (!isiT "dict" "tuple") = true by decide +kernel) (iteC rfl qq)
    | @tup p2 ys ps S2 al2 =>
    have ll := al2.length
    simp only [smH, Bool.and_eq_true, decide_eq_true_eq] at sb
    obtain ⟨sl, sp⟩ := sb
    refine iteE (show (!isiT "tuple" "tuple") = false by decide +kernel) ⟨_, rfl, p, _, _, .ref p2, rfl, rfl, S, rfl, p2, ys, rfl, .inr S2, _, _, rfl, rfl, _, rfl, ?_⟩
    by_cases h30 : (ys.length : Int) > 30
    · exact iteC (decide_eq_true h30) (iteC rfl qq)
    exact iteE (decide_eq_false h30) ⟨_, rfl, rfl, _, rfl, iteC (by decide +kernel) qq⟩
theorem okLWorthS {f : Addr} {fd : FuncData} (c0 : SaysK more fa fn K) (hm : mg "_law_is_worth" = some (.ref f)) (F : FnT K 32 "_law_is_worth" f fd) (T : Tx K mg) {n : Nat} {fdS : FuncData} (GS : FnG P w K mg base CX0 (3 + n) f fdS ["_law_thing", "_law_deep_here"] (spWithin K n)) (BS : Binds K fdS ["_law_thing", "_law_deep_here"] []) : FnG P w K mg base CX0 (3 + n + 1) f fd ["_law_thing", "_law_deep_here"] (spWithin K (n + 1)) := by
  obtain ⟨fdN, FN⟩ : ∃ fd, FnT K 31 "_law_is_number" (He.ga K "_law_is_number") fd := law_at c0 17 rfl
  obtain ⟨fdX, FX⟩ : ∃ fd, FnT K 30 "_law_is_text" (He.ga K "_law_is_text") fd := law_at c0 16 rfl
  have GN := okLNum (P := P) (w := w) (mg := mg) (base := base) FN T
  have GX := okLText (P := P) (w := w) (mg := mg) (base := base) c0 FX T
  have BN : Binds K fdN ["_law_thing", "_law_low", "_law_high"] [] := FN.bindsN fun _ _ _ _ _ _ us hl => match us, hl with | [_, _, _], _ => rfl
  have BX : Binds K fdX ["_law_thing"] [] := FX.bindsN fun _ _ _ _ _ _ us hl => match us, hl with | [_], _ => rfl
  refine fn_ofG (k := 3 + n) F scLWorth (fun vs H Q E h => ?_) (fun cdv A outer s H vs Q E hr hg h => ?_)
  · obtain ⟨v, d, rfl, _⟩ := h.ex
    rfl
  · obtain ⟨v, d, rfl, hd, sm, q⟩ := h.ex
    have hu := hr.units
    have hr2 := hr.mono (show 2 ≤ 3 + n by omega)
    have hr1 := hr.mono (show 1 ≤ 3 + n by omega)
    refine ⟨_, PSs.nox (pss_cons (ps_if (PW.pt (pw_or (pt_cmp (pc_isN (pv 0))) (pw_or (pt_val (pe_callG GN hr1 hg (by rfl) (T.mgF "_law_is_number" (by decide +kernel)) FN.kp BN .nil pass0 (pa_cons (pv 0) (pa_cons (pe_op op_sub pe_int (pe_op op_pow pe_int pe_int)) (pa_cons (pe_op op_pow pe_int pe_int) pa_nil))))) (pw_or1 (pt_val (pe_callG GX hr2 hg (by rfl) (T.mgF "_law_is_text" (by decide +kernel)) FX.kp BX .nil pass0 (pa_cons (pv 0) pa_nil))))))) (pss_one (ps_ret pe_bl)) pss_nil)
      (pss_cons (ps_if (PW.pt (pw_or (pt_not (pt_val (pe_callB (call_isd (K := K) rfl) (by rfl) (T.fre "isinstance" (by simp [frees])) boot_isinstance (pa_cons (pv 0) (pa_cons (pe_bltn (v := .ty "tuple") (by rfl) (T.fre "tuple" (by simp [frees])) (by decide +kernel) rfl) pa_nil))))) (pw_or1 (pt_cmpR op_ne (pe_callB call_len_seq (by rfl) (T.fre "len" (by simp [frees])) PySem.boot_len (pa_cons (pv 0) pa_nil)) pe_int (nomark _))))) (pss_one (ps_ret pe_bl)) pss_nil)
      (pss_cons (ps_if (pt_cmpR op_eq (pe_ix ix_tup (pv 0) pe_int (fun _ _ => rfl)) pe_str (nomark _)) (pss_one (ps_ret (pe_callG GN hr1 hg (by rfl) (T.mgF "_law_is_number" (by decide +kernel)) FN.kp BN .nil pass0 (pa_cons (pe_ix ix_tup (pv 0) pe_int (fun _ _ => rfl)) (pa_cons pe_int (pa_cons pe_int pa_nil)))))) pss_nil)
      (pss_cons (ps_if (PW.pt (pw_or (pt_cmpR op_ne (pe_ix ix_tup (pv 0) pe_int (fun _ _ => rfl)) pe_str (nomark _)) (pw_or (pt_not (pt_val (pe_callB (call_isd (K := K) rfl) (by rfl) (T.fre "isinstance" (by simp [frees])) boot_isinstance (pa_cons (pe_ix ix_tup (pv 0) pe_int (fun _ _ => rfl)) (pa_cons (pe_bltn (v := .ty "tuple") (by rfl) (T.fre "tuple" (by simp [frees])) (by decide +kernel) rfl) pa_nil))))) (pw_or (pt_cmpR op_gt (pe_callB call_len_seq (by rfl) (T.fre "len" (by simp [frees])) PySem.boot_len (pa_cons (pe_ix ix_tup (pv 0) pe_int (fun _ _ => rfl)) pa_nil)) pe_int (nomark _)) (pw_or1 (pt_cmpR op_eq (pv 1) pe_int (nomark _))))))) (pss_one (ps_ret pe_bl)) pss_nil)
      (pss_one (ps_ret (pe_cmpR (op_eqNil (K := K) rfl hu) (pe_lc (own := [("_law_part", 2)]) (g := gName 2) rfl scLWorth.nd (pi_tup (pe_ix ix_tup (pv 0) pe_int (fun _ _ => rfl))) (blkOk_by (own := [("_law_part", 2)]) (N := NL) (sc := defScope (top 32)) (by decide +kernel))
        (fun _ _ _ _ _ => pg_name (i := 2) scLWorth.nd rfl (Or.inl rfl)) (fun _ _ _ _ _ => pts_one (pt_not (pt_val (pe_callG GS hr hg (by rfl) hm F.kp BS .nil pass0 (pa_cons (pv 2) (pa_cons (pe_op op_sub (pv 1) pe_int) pa_nil))))))
        (fun _ _ _ _ _ => pv 2)) (pe_lst pa_nil) (nomark _)))))))), ?_⟩
    refine ⟨_, rfl, _, rfl, ?_⟩
    rw [dq_non hd]
    cases e1 : isN d
    rotate_left
    · have z := q H same_refl
      rw [worth_plain (by rw [plainOk, e1, Bool.true_or])] at z
      exact iteC rfl (iteC rfl z)
    refine iteE rfl ⟨_, rfl, _, _, rfl, rfl, ⟨by decide, by decide, by decide⟩, _, _, rfl, rfl, _, _, rfl, rfl, ⟨by decide, by decide, by decide⟩, ⟨⟨v, d, -1000000000, 1000000000, by first | rfl | simp, hd, _, rfl, ?_⟩⟩⟩
    cases e2 : numOk (-1000000000) 1000000000 d
    rotate_left
    · have z := q H same_refl
      rw [worth_plain (by rw [plainOk, e2, Bool.or_true, Bool.or_true])] at z
      exact iteC rfl (iteC rfl z)
    refine iteE rfl ⟨_, rfl, ⟨⟨v, d, rfl, hd, sm, fun H1 s1 => ⟨_, rfl, ?_⟩⟩⟩⟩
    have hd1 := hd.same s1
    have qq := q H1 s1
    cases e3 : txtOk d
    rotate_left
    · rw [worth_plain (by rw [plainOk, e3, Bool.true_or, Bool.or_true])] at qq
      exact iteC rfl qq
    have e0 : plainOk d = false := by rw [plainOk, e1, e2, e3]; rfl
    refine iteE rfl ⟨_, rfl, ⟨⟨v, d, "tuple", rfl, .tuple, hd1, _, rfl, ?_⟩⟩⟩
    have odd : (∀ a b, d ≠ .tuple [a, b]) → Q (.bl false) H1 := fun t => by
      rw [worth_odd e0 t] at qq
      exact qq
    cases hd1 with
    | non => exact iteC (show (!isiT "NoneType" "tuple") = true by decide +kernel) (iteC rfl (odd nofun))
    | bl b => exact iteC (show (!isiT "bool" "tuple") = true by decide +kernel) (iteC rfl (odd nofun))
    | int i => exact iteC (show (!isiT "int" "tuple") = true by decide +kernel) (iteC rfl (odd nofun))
    | str x => exact iteC (show (!isiT "str" "tuple") = true by decide +kernel) (iteC rfl (odd nofun))
    | lst h a => exact iteC (show (!isiT "list" "tuple") = true by decide +kernel) (iteC rfl (odd nofun))
    | dic h a => exact iteC (show (!isiT "dict" "tuple") = true by decide +kernel) (iteC rfl (odd nofun))
    | @tup p xs ds S al =>
    refine iteE (show (!isiT "tuple" "tuple") = false by decide +kernel) ⟨_, rfl, p, xs, rfl, .inr S, rfl, _, rfl, ?_⟩
    by_cases l2 : xs.length = 2
    rotate_left
    · refine iteC (by rw [Bool.not_eq_true', decide_eq_false_iff_not]; intro z; have := V.int.inj z; omega) (odd fun a b z => ?_)
      have e := al.length
      cases z
      exact l2 e
    refine iteE (by rw [l2]; decide +kernel) ?_
    obtain ⟨va, vb, a, b, rfl, rfl, ha, hb⟩ := pair_of al l2
    simp only [smD, smHs, wordOk, Bool.and_eq_true] at sm
    obtain ⟨_, sc, sa, sb, _⟩ := sm
    obtain ⟨i1, i2⟩ := isS_eq "thing" ha sc
    obtain ⟨j1, j2⟩ := isS_eq "row" ha sc
    refine ⟨_, rfl, p, _, _, va, rfl, rfl, S, rfl, i1, _, rfl, ?_⟩
    rw [i2]
    cases et : isS "thing" a
    rotate_left
    · refine iteC rfl ⟨_, rfl, p, _, _, vb, rfl, rfl, S, rfl, ⟨⟨vb, b, 0, 999, rfl, hb, ?_⟩⟩⟩
      rw [worthOk, plain_pair, thing_pair, row_pair, et, thing_row et, Bool.false_or, Bool.true_and, Bool.false_and, Bool.or_false] at qq
      exact qq
    refine iteE rfl ⟨_, rfl, p, _, _, va, rfl, rfl, S, rfl, j1, _, rfl, ?_⟩
    rw [j2]
    cases er : isS "row" a
    · rw [worthOk, plain_pair, thing_pair, row_pair, et, er, Bool.false_or, Bool.false_and, Bool.false_and, Bool.or_false] at qq
      exact iteC rfl (iteC rfl qq)
    rw [worthOk, plain_pair, thing_pair, row_pair, et, er, Bool.false_or, Bool.false_and, Bool.true_and, Bool.false_or] at qq
    have qA : ∀ H', Same H1 H' → Q (.bl (rowIn (worthOk n) b)) H' := fun H' s' => by
      have z := q H' (s1.trans s')
      rw [worthOk, plain_pair, thing_pair, row_pair, et, er, Bool.false_or, Bool.false_and, Bool.true_and, Bool.false_or] at z
      exact z
    refine iteE rfl ⟨_, rfl, p, _, _, vb, rfl, rfl, S, rfl, ⟨⟨vb, b, "tuple", rfl, .tuple, hb, _, rfl, ?_⟩⟩⟩
    cases hb with
    | non => exact iteC (show (!isiT "NoneType" "tuple") = true by decide +kernel) (iteC rfl qq)
    | bl b => exact iteC (show (!isiT "bool" "tuple") = true by decide +kernel) (iteC rfl qq)
    | int i => exact iteC (show (!isiT "int" "tuple") = true by decide +kernel) (iteC rfl qq)
    | str x => exact iteC (show (!isiT "str" "tuple") = true by decide +kernel) (iteC rfl qq)
    | lst h a => exact iteC (show (!isiT "list" "tuple") = true by decide +kernel) (iteC rfl qq)
    | dic h a => exact iteC (show (!isiT "dict" "tuple") = true by decide +kernel) (iteC rfl qq)
    | @tup p2 ys ps S2 al2 =>
    have ll := al2.length
    simp only [smH, Bool.and_eq_true, decide_eq_true_eq] at sb
    obtain ⟨sl, sp⟩ := sb
    refine iteE (show (!isiT "tuple" "tuple") = false by decide +kernel) ⟨_, rfl, p, _, _, .ref p2, rfl, rfl, S, rfl, p2, ys, rfl, .inr S2, _, _, rfl, rfl, _, rfl, ?_⟩
    by_cases h30 : (ys.length : Int) > 30
    · rw [rowIn, decide_eq_false (by omega), Bool.false_and] at qq
      exact iteC (decide_eq_true h30) (iteC rfl qq)
    refine iteE (decide_eq_false h30) ⟨_, rfl, rfl, _, rfl, iteE ?_ ?_⟩
    · rw [decide_eq_false_iff_not]
      intro z
      have := V.int.inj z
      omega
    · refine ⟨_, rfl, p, _, _, .ref p2, rfl, rfl, S, rfl, p2, rfl, ⟨_, S2⟩, fun D nD => lc_noneTup (fun i => !atB (worthOk n) ps i) S2 nD (by omega) (fun i x H2 Z N hx s2 z => ⟨rfl, ?_⟩) (fun H2 acc s2 e2 ea => ?_)⟩
      · obtain ⟨dx, ex, hx2⟩ := al2.at hx
        refine ⟨_, rfl, _, rfl, _, _, rfl, rfl, ⟨⟨x, dx, ?_, hx2.same s2, smAll_at sp ex, fun H3 s3 => ⟨_, rfl, ?_⟩⟩⟩⟩
        · show [x, V.int (((n + 1 : Nat) : Int) - 1)] = [x, V.int (n : Int)]
          rw [show (((n + 1 : Nat) : Int) - 1) = (n : Int) by omega]
        · have zz := z H3 s3
          rw [show atB (worthOk n) ps i = worthOk n dx from by unfold atB; rw [ex]] at zz
          cases e : worthOk n dx
          · rw [e] at zz
            exact iteC rfl ⟨_, rfl, zz⟩
          · rw [e] at zz
            exact iteE rfl zz
      · refine ⟨Nat.zero_le _, fun p0 n0 => ?_⟩
        refine ⟨D, p0, acc, rfl, rfl, SqL.of (laidK n0 _ _ e2), SqL.of upd_same, ?_⟩
        have zz := qA (upd H2 p0 (.lst [])) (s2.trans (laidK n0))
        rw [rowIn, decide_eq_true (by omega), Bool.true_and, ← all_atB, ← ll, List.all_map] at zz
        rw [ea]
        simp only [Bool.not_not]
        exact zz
theorem okLWorth {f : Addr} {fd : FuncData} (c0 : SaysK more fa fn K) (hm : mg "_law_is_worth" = some (.ref f)) (F : FnT K 32 "_law_is_worth" f fd) (T : Tx K mg) : ∀ n, FnG P w K mg base CX0 (3 + n) f fd ["_law_thing", "_law_deep_here"] (spWithin K n)
  | 0 => okLWorth0 c0 hm F T
  | n + 1 => by
    have B : Binds K fd ["_law_thing", "_law_deep_here"] [] := F.bindsN fun _ _ _ _ _ _ us hl => match us, hl with | [_, _], _ => rfl
    have z := okLWorthS (n := n) c0 hm F T (okLWorth c0 hm F T n) B
    exact z.mono (by omega)
end
end K01

set_option Elab.async false
set_option linter.all false
set_option maxRecDepth 100000
set_option maxHeartbeats 4000000
/-! k01, h: the cell, the box, the draws -/
namespace K01
open PySem PySem.Spec L2 KK
open PyProof.Rows hiding St

/-- a box with c draws behind it -/
def BoxAt (H : Hp) (b : Addr) (c : Int) : Prop := ∃ x y : Int, H b = some (.lst [.int x, .int y, .int c]) ∧ 0 ≤ x ∧ 0 ≤ y ∧ y < 2147483648
def spCell (K : PySem.W.Frag) : Sp := fun vs H Q _ => ∃ (a : Addr) (ns : List Int) (k : Int), vs = [.ref a, .int k] ∧ SqL K H a (ns.map V.int) ∧ 0 ≤ k ∧ k < 1000 ∧ ∀ z : Int, Q (.int z) H
def spBox : Sp := fun vs H Q _ => ∃ z : Int, vs = [.int z] ∧ ∀ (p : Addr) (x y : Int), H p = none → 0 ≤ x → 0 ≤ y → y < 2147483648 → Q (.ref p) (upd H p (.lst [.int x, .int y, .int 0]))
def spTake : Sp := fun vs H Q _ => ∃ (b : Addr) (n c : Int), vs = [.ref b, .int n] ∧ BoxAt H b c ∧ 0 ≤ c ∧ c < 1000000 ∧ 0 < n ∧ n.natAbs < 2 ^ 200 ∧
  ∀ (r x y c' : Int), 0 ≤ r → r < n → 0 ≤ x → 0 ≤ y → y < 2147483648 → 0 ≤ c' → c' ≤ c + 1 → Q (.int r) (upd H b (.lst [.int x, .int y, .int c']))
section
variable {P : Program} {w : World} {K : PySem.W.Frag} {mg : Str → Option Value} {base : Heap}
theorem scCell : FnScope ["_law_script", "_law_k"] ["_law_script", "_law_k"] (defScope (top 22)) := ⟨rfl, rfl, rfl, by decide +kernel, rfl, by decide +kernel, by decide +kernel⟩
theorem at_int {ns : List Int} {k : Int} (h0 : 0 ≤ k) (h : k < ((ns.map V.int).length : Nat)) : ∃ z : Int, atI (ns.map V.int) k = some (.int z) := by
  rw [List.length_map] at h
  have hk : k.toNat < ns.length := by omega
  refine ⟨ns[k.toNat], ?_⟩
  have e : (ns.map V.int)[k.toNat]? = some (.int ns[k.toNat]) := by rw [List.getElem?_map, List.getElem?_eq_getElem hk]; rfl
  have := atI_nat e
  rwa [show ((k.toNat : Nat) : Int) = k by omega] at this
theorem okCell {f : Addr} {fd : FuncData} (F : FnT K 22 "_law_cell" f fd) (T : Tx K mg) : FnG P w K mg base CX0 1 f fd ["_law_script", "_law_k"] (spCell K) := by
  refine fn_ofG F scCell (fun vs H Q E h => ?_) (fun cdv A outer s H vs Q E hr hg h => ?_)
  · obtain ⟨a, ns, k, rfl, _⟩ := h
    rfl
  · obtain ⟨a, ns, k, rfl, hS, k0, k1, q⟩ := h
    refine ⟨_, PSs.nox (pss_cons (ps_if (pt_cmpR op_lt (pv 1) (pe_callB call_len_seq (by rfl) (T.fre "len" (by simp [frees])) PySem.boot_len (pa_cons (pv 0) pa_nil)) (nomark _)) (pss_one (ps_ret (pe_ix ix_list (pv 0) (pv 1) (fun _ _ => rfl)))) pss_nil)
      (pss_one (ps_ret (pe_op op_add (pe_op op_mul pe_int (pv 1)) pe_int)))), ?_⟩
    refine ⟨_, rfl, _, rfl, a, _, rfl, .inl hS, ?_⟩
    refine ⟨_, _, rfl, rfl, _, rfl, ite2 (fun hc => ?_) (fun _ => ?_)⟩
    · obtain ⟨z, hz⟩ := at_int k0 (of_decide_eq_true hc)
      exact ⟨_, rfl, _, rfl, a, _, _, _, rfl, rfl, hS, hz, q z⟩
    · exact ⟨_, rfl, _, _, rfl, rfl, .inr (by constructor <;> omega), _, _, rfl, rfl, q _⟩
theorem scBox : FnScope ["_law_cell_here"] ["_law_cell_here"] (defScope (top 23)) := ⟨rfl, rfl, rfl, by decide +kernel, rfl, by decide +kernel, by decide +kernel⟩
theorem okBox {f : Addr} {fd : FuncData} (F : FnT K 23 "_law_box" f fd) (T : Tx K mg) : FnG P w K mg base CX0 1 f fd ["_law_cell_here"] spBox := by
  refine fn_ofG F scBox (fun vs H Q E h => ?_) (fun cdv A outer s H vs Q E hr hg h => ?_)
  · obtain ⟨z, rfl, _⟩ := h
    rfl
  · obtain ⟨z, rfl, q⟩ := h
    refine ⟨_, PSs.nox (pss_one (ps_ret (pe_lst (pa_cons (pe_callB (call_max2 rfl) (by rfl) (T.fre "max" (by simp [frees])) (by decide +kernel) (pa_cons pe_int (pa_cons (pe_op op_sub (pv 0) (pe_op op_pow pe_int pe_int)) pa_nil)))
      (pa_cons (pe_op op_mod (pv 0) pe_int) (pa_cons pe_int pa_nil)))))), ?_⟩
    refine ⟨_, rfl, _, _, rfl, rfl, ⟨by decide, by decide, by decide⟩, _, _, rfl, rfl, _, _, rfl, ?_⟩
    refine ⟨_, rfl, _, _, rfl, rfl, (by show (0 : Int) < 2147483629; decide), by show 3 ≤ sizeLine; decide, fun p hp => q p _ _ hp ?_ ?_ ?_⟩
    · split <;> omega
    · exact Int.emod_nonneg _ (by decide)
    · have := Int.emod_lt_of_pos z (show (0 : Int) < 2147483629 by decide)
      omega
theorem scTake : FnScope ["_law_box_here", "_law_many", "_law_digit", "_law_number"] ["_law_box_here", "_law_many"] (defScope (top 24)) := ⟨rfl, rfl, rfl, by decide +kernel, rfl, by decide +kernel, by decide +kernel⟩
theorem okTake {f : Addr} {fd : FuncData} (F : FnT K 24 "_law_take" f fd) (T : Tx K mg) : FnG P w K mg base CX0 1 f fd ["_law_box_here", "_law_many"] spTake := by
  refine fn_ofG F scTake (fun vs H Q E h => ?_) (fun cdv A outer s H vs Q E hr hg h => ?_)
  · obtain ⟨b, n, c, rfl, _⟩ := h
    rfl
  · obtain ⟨b, n, c, rfl, ⟨x, y, hb, hx, hy, hy2⟩, hc, hc2, hn, hn2, q⟩ := h
    have ix : ∀ {X : Cx} {p1 p2 : Pos} {i : Int} {j0 : Nat} {c0 : Pos}, True := fun {_ _ _ _ _ _} => trivial
    refine ⟨_, PSs.nox (pss_cons (ps_if (pt_cmpR op_gt (pe_ix ix_list (pv 0) pe_int (fun _ _ => rfl)) pe_int (nomark _))
        (pss_cons (ps_set (i := 2) scTake.nd rfl (Or.inl rfl) (pe_op op_mod (pe_ix ix_list (pv 0) pe_int (fun _ _ => rfl)) (pv 1)))
        (pss_cons (ps_asg (pe_op op_fdivW (pe_ix ix_list (pv 0) pe_int (fun _ _ => rfl)) (pv 1)) (pg_sub (pv 0) pe_int set_list))
        (pss_one (ps_ret (pv 2))))) pss_nil)
      (pss_cons (ps_asg (pe_op op_add (pe_ix ix_list (pv 0) pe_int (fun _ _ => rfl)) pe_int) (pg_sub (pv 0) pe_int set_list))
      (pss_cons (ps_set (i := 3) scTake.nd rfl (Or.inl rfl) (pe_op op_mod (pe_op op_pow (pe_op op_add (pe_op op_add (pe_ix ix_list (pv 0) pe_int (fun _ _ => rfl)) (pe_op op_mul pe_int (pe_ix ix_list (pv 0) pe_int (fun _ _ => rfl)))) pe_int) pe_int) pe_int))
      (pss_cons (ps_set (i := 3) scTake.nd rfl (Or.inl rfl) (pe_op op_mod (pe_op op_pow (pe_op op_add (pe_op op_fdiv (pv 3) pe_int) (pe_op op_mul (pe_op op_mul pe_int (pe_ix ix_list (pv 0) pe_int (fun _ _ => rfl))) (pe_ix ix_list (pv 0) pe_int (fun _ _ => rfl)))) pe_int) pe_int))
      (pss_one (ps_ret (pe_op op_mod (pe_op op_fdiv (pv 3) pe_int) (pv 1)))))))), ?_⟩
    have S := SqL.of (K := K) hb
    refine ⟨_, rfl, b, _, _, _, rfl, rfl, S, rfl, _, _, rfl, rfl, _, rfl, ite2 (fun hx0 => ?_) (fun _ => ?_)⟩
    · refine ⟨_, rfl, b, _, _, _, rfl, rfl, S, rfl, _, rfl, _, _, rfl, rfl, hn, ?_⟩
      refine ⟨_, rfl, b, _, _, _, rfl, rfl, S, rfl, _, rfl, _, _, rfl, rfl, wide_div hn hn2 (by decide) (by decide), ?_⟩
      refine ⟨_, rfl, b, _, _, 0, rfl, rfl, hb, rfl, _, rfl, ?_⟩
      exact q _ _ _ _ (Int.emod_nonneg _ (by omega)) (Int.emod_lt_of_pos _ hn) (Int.ediv_nonneg hx (by omega)) hy hy2 hc (by omega)
    · refine ⟨_, rfl, b, _, _, _, rfl, rfl, S, rfl, _, _, rfl, rfl, _, rfl, b, _, _, 2, rfl, rfl, hb, rfl, ?_⟩
      have S1 : SqL K (upd H b (.lst [.int x, .int y, .int (c + 1)])) b [.int x, .int y, .int (c + 1)] := SqL.of upd_same
      refine ⟨_, rfl, b, _, _, _, rfl, rfl, S1, rfl, _, rfl, b, _, _, _, rfl, rfl, S1, rfl, _, _, rfl, rfl, .inr (by constructor <;> omega), _, _, rfl, rfl, _, _, rfl, rfl, _, _, rfl, rfl, ⟨by decide, by decide, ?_⟩, _, _, rfl, rfl, (by show (0 : Int) < 2147483647; decide), ?_⟩
      · show (y + 7919 * (c + 1) + 31).natAbs < 2 ^ 64
        omega
      · have m0 : 0 ≤ (y + 7919 * (c + 1) + 31) ^ (5 : Int).toNat % 2147483647 := Int.emod_nonneg _ (by decide)
        have m1 : (y + 7919 * (c + 1) + 31) ^ (5 : Int).toNat % 2147483647 < 2147483647 := Int.emod_lt_of_pos _ (by decide)
        have cc : 0 ≤ (c + 1) * (c + 1) ∧ (c + 1) * (c + 1) ≤ 1000000 * 1000000 := ⟨Int.mul_nonneg (by omega) (by omega), Int.mul_le_mul (by omega) (by omega) (by omega) (by decide)⟩
        refine ⟨_, rfl, _, _, rfl, rfl, ⟨by decide, by decide⟩, _, rfl, b, _, _, _, rfl, rfl, S1, rfl, _, _, rfl, rfl, .inr (by constructor <;> omega), _, rfl, b, _, _, _, rfl, rfl, S1, rfl, _, _, rfl, rfl, .inr (by constructor <;> omega), _, _, rfl, rfl, _, _, rfl, rfl, ⟨by decide, by decide, ?_⟩, _, _, rfl, rfl, (by show (0 : Int) < 2147483587; decide), ?_⟩
        · show ((y + 7919 * (c + 1) + 31) ^ (5 : Int).toNat % 2147483647 / 8 + 104729 * (c + 1) * (c + 1)).natAbs < 2 ^ 64
          rw [Int.mul_assoc]
          generalize (y + 7919 * (c + 1) + 31) ^ (5 : Int).toNat % 2147483647 = m at m0 m1 ⊢
          generalize (c + 1) * (c + 1) = cq at cc ⊢
          omega
        · refine ⟨_, rfl, _, _, rfl, rfl, ⟨by decide, by decide⟩, _, rfl, _, _, rfl, rfl, hn, ?_⟩
          exact q _ _ _ _ (Int.emod_nonneg _ (by omega)) (Int.emod_lt_of_pos _ hn) hx hy hy2 (by omega) (by omega)
end
end K01

set_option Elab.async false
set_option linter.all false
set_option maxRecDepth 100000
set_option maxHeartbeats 8000000
/-! k01, i: names -/
namespace K01
open PySem PySem.Spec L2 KK
open PyProof.Rows hiding St

def lowOk (c : Nat) : Bool := decide (97 ≤ c) && decide (c ≤ 122)
def notN3 : List V := [.str "me", .str "here", .str "none"]
def nameOk : PyData → Bool
  | .str x => (decide (1 ≤ x.length) && decide (x.length ≤ 8)) && (!inV (.str x) notN3 && x.cps.toList.all lowOk)
  | _ => false
def lettersS : Str := ⟨((List.range 26).map (· + 97)).toArray⟩
theorem low_in : ∀ c, c < 128 → (!(!(Builtin.Str.occurrences lettersS ⟨#[c]⟩ 0 lettersS.length 1).isEmpty)) = !lowOk c := by decide +kernel
theorem letters_eq : ("abcdefghijklmnopqrstuvwxyz" : Str) = lettersS := by decide +kernel
section
variable {P : Program} {w : World} {K : PySem.W.Frag} {mg : Str → Option Value} {base : Heap}
theorem scName : FnScope ["thing", "sign"] ["thing"] (defScope (top 14)) := ⟨rfl, rfl, rfl, by decide +kernel, rfl, by decide +kernel, by decide +kernel⟩
theorem okName {f : Addr} {fd : FuncData} (F : FnT K 14 "is_name" f fd) (T : Tx K mg) : FnG P w K mg base CX0 1 f fd ["thing"] (spLook K nameOk) := by
  obtain ⟨tT, mT⟩ := T.mgI ("MOST_NAME", 8) (by simp [intL])
  refine fn_ofG F scName (fun vs H Q E h => ?_) (fun cdv A outer s H vs Q E hr hg h => ?_)
  · obtain ⟨v, d, rfl, _⟩ := h.ex
    rfl
  · obtain ⟨v, d, rfl, hd, sm, q⟩ := h.ex
    refine ⟨_, PSs.nox (pss_cons (ps_if (PW.pt (pw_or (pt_not (pt_val (pe_callB (call_isd (K := K) rfl) (by rfl) (T.fre "isinstance" (by simp [frees])) boot_isinstance (pa_cons (pv 0) (pa_cons (pe_bltn (v := .ty "str") (by rfl) (T.fre "str" (by simp [frees])) (by decide +kernel) rfl) pa_nil))))) (pw_or1 (pt_not (pt_chain op_le op_le pe_int (pe_callB call_len_str (by rfl) (T.fre "len" (by simp [frees])) PySem.boot_len (pa_cons (pv 0) pa_nil)) (pe_glob (v := .int 8) (by rfl) mT ⟨_, rfl⟩)))))) (pss_one (ps_ret pe_bl)) pss_nil)
      (pss_one (ps_ret (pe_and (pe_cmpR op_notIn_seq (pv 0) (pe_glob (v := .ref (He.ga K "NOT_NAMES")) (by rfl) T.mgN rfl) (by with_unfolding_all rfl)) (pe_one (pe_callB (cr_all rfl) (by rfl) (T.fre "all" (by simp [frees])) (by decide +kernel) (pa_cons (pe_lc (own := [("sign", 1)]) (g := gName 1) (tt := tYes) rfl scName.nd (pi_str (pv 0)) (blkOk_by (own := [("sign", 1)]) (N := ["thing", "sign"]) (sc := defScope (top 14)) (by decide +kernel))
        (fun _ _ _ _ _ => pg_name (i := 1) scName.nd rfl (Or.inl rfl)) (fun _ _ _ _ _ => pts_nil)
        (fun _ _ _ _ _ => pe_chain op_le_str op_le_str pe_str (pv 1) pe_str)) pa_nil))))))), ?_⟩
    refine ⟨_, rfl, ⟨⟨v, d, "str", rfl, .str, hd, _, rfl, ?_⟩⟩⟩
    cases hd with
    | str x =>
      simp only [smD, Bool.and_eq_true, decide_eq_true_eq] at sm
      obtain ⟨hl, hc⟩ := sm
      refine iteE (show (!isiT "str" "str") = false by decide +kernel) ⟨_, rfl, x, rfl, by rw [sizeLine_eq]; omega, _, _, rfl, rfl, _, rfl, ?_⟩
      by_cases h1 : (1 : Int) ≤ x.length
      rotate_left
      · have z := q H same_refl
        rw [nameOk, decide_eq_false (by omega), Bool.false_and, Bool.false_and] at z
        exact iteE (decide_eq_false h1) ⟨_, rfl, iteC rfl z⟩
      refine iteC (decide_eq_true h1) ⟨_, _, rfl, rfl, _, rfl, ?_⟩
      by_cases h8 : (x.length : Int) ≤ 8
      rotate_left
      · have z := q H same_refl
        rw [nameOk, decide_eq_true (show 1 ≤ x.length by omega), decide_eq_false (show ¬ x.length ≤ 8 by omega), Bool.and_false, Bool.false_and] at z
        exact iteC (by rw [decide_eq_false h8]; rfl) z
      refine iteE (by rw [decide_eq_true h8]; rfl) ?_
      refine ⟨_, rfl, He.ga K "NOT_NAMES", _, rfl, .inr (T.nn H), rfl, by decide +kernel, _, rfl, ?_⟩
      have qn : ∀ H', Same H H' → Q (.bl (!inV (.str x) notN3 && x.cps.toList.all lowOk)) H' := fun H' s' => by
        have z := q H' s'
        rw [nameOk, decide_eq_true (show 1 ≤ x.length by omega), decide_eq_true (show x.length ≤ 8 by omega), Bool.true_and, Bool.true_and] at z
        exact z
      have e3 : inV (.str x) [.str "me", .str "here", .str "none"] = inV (.str x) notN3 := rfl
      rw [if_pos rfl, e3]
      cases ei : inV (.str x) notN3
      rotate_left
      · have z := qn H same_refl
        rw [ei, Bool.not_true, Bool.false_and] at z
        exact iteE rfl z
      refine iteC rfl ⟨_, rfl, x, rfl, fun D nD => lc_mapStr (fun c => .bl (lowOk c)) nD (by show x.cps.toList.length ≤ 1000; rw [Array.length_toList]; exact hl) (fun c H1 Z z => ⟨rfl, ?_⟩) (fun H1 s1 e1 => ?_) gName_mono⟩
      · refine ⟨_, rfl, _, _, rfl, rfl, _, rfl, ?_⟩
        have l1 : (!decide ((⟨#[c]⟩ : Str).cps.toList < (Str.ofString "a").cps.toList)) = decide (97 ≤ c) := by
          show (!decide ([c] < [97])) = _
          rw [lt_one, ← decide_not, decide_eq_decide]
          omega
        have l2 : (!decide ((Str.ofString "z").cps.toList < (⟨#[c]⟩ : Str).cps.toList)) = decide (c ≤ 122) := by
          show (!decide ([122] < [c])) = _
          rw [lt_one, ← decide_not, decide_eq_decide]
          omega
        rw [l1]
        by_cases c1 : 97 ≤ c
        · refine iteC (decide_eq_true c1) ⟨_, _, rfl, rfl, ?_⟩
          rw [l2]
          rw [lowOk, decide_eq_true c1, Bool.true_and] at z
          exact z
        · refine iteE (decide_eq_false c1) ?_
          rw [lowOk, decide_eq_false c1, Bool.false_and] at z
          exact z
      · refine ⟨D, x.cps.toList.map lowOk, rfl, SqL.of (by rw [e1, List.map_map]; rfl), ?_⟩
        have z := qn H1 s1
        rw [ei, Bool.not_false, Bool.true_and] at z
        rw [List.all_map]
        exact z
    | int i => exact iteC (show (!isiT "int" "str") = true by decide +kernel) (iteC rfl (q H same_refl))
    | bl b => exact iteC (show (!isiT "bool" "str") = true by decide +kernel) (iteC rfl (q H same_refl))
    | non => exact iteC (show (!isiT "NoneType" "str") = true by decide +kernel) (iteC rfl (q H same_refl))
    | lst h a => exact iteC (show (!isiT "list" "str") = true by decide +kernel) (iteC rfl (q H same_refl))
    | tup h a => exact iteC (show (!isiT "tuple" "str") = true by decide +kernel) (iteC rfl (q H same_refl))
    | dic h a => exact iteC (show (!isiT "dict" "str") = true by decide +kernel) (iteC rfl (q H same_refl))
theorem scLName : FnScope ["_law_thing", "_law_sign"] ["_law_thing"] (defScope (top 35)) := ⟨rfl, rfl, rfl, by decide +kernel, rfl, by decide +kernel, by decide +kernel⟩
theorem okLName {f : Addr} {fd : FuncData} (F : FnT K 35 "_law_is_name" f fd) (T : Tx K mg) : FnG P w K mg base CX0 2 f fd ["_law_thing"] (spLook K nameOk) := by
  refine fn_ofG F scLName (fun vs H Q E h => ?_) (fun cdv A outer s H vs Q E hr hg h => ?_)
  · obtain ⟨v, d, rfl, _⟩ := h.ex
    rfl
  · obtain ⟨v, d, rfl, hd, sm, q⟩ := h.ex
    have hu := hr.units
    refine ⟨_, PSs.nox (pss_cons (ps_if (PW.pt (pw_or (pt_not (pt_val (pe_callB (call_isd (K := K) rfl) (by rfl) (T.fre "isinstance" (by simp [frees])) boot_isinstance (pa_cons (pv 0) (pa_cons (pe_bltn (v := .ty "str") (by rfl) (T.fre "str" (by simp [frees])) (by decide +kernel) rfl) pa_nil))))) (pw_or (pt_cmpR op_lt (pe_callB call_len_str (by rfl) (T.fre "len" (by simp [frees])) PySem.boot_len (pa_cons (pv 0) pa_nil)) pe_int (nomark _)) (pw_or (pt_cmpR op_gt (pe_callB call_len_str (by rfl) (T.fre "len" (by simp [frees])) PySem.boot_len (pa_cons (pv 0) pa_nil)) pe_int (nomark _)) (pw_or1 (pt_cmpR op_in_seq (pv 0) (pe_lst (pa_cons pe_str (pa_cons pe_str (pa_cons pe_str pa_nil)))) (by with_unfolding_all rfl))))))) (pss_one (ps_ret pe_bl)) pss_nil)
      (pss_one (ps_ret (pe_cmpR (op_eqNil (K := K) rfl hu) (pe_lc (own := [("_law_sign", 1)]) (g := gName 1) rfl scLName.nd (pi_str (pv 0)) (blkOk_by (own := [("_law_sign", 1)]) (N := ["_law_thing", "_law_sign"]) (sc := defScope (top 35)) (by decide +kernel))
        (fun _ _ _ _ _ => pg_name (i := 1) scLName.nd rfl (Or.inl rfl)) (fun _ _ _ _ _ => pts_one (pt_cmpR op_notIn_str (pv 1) pe_str (by with_unfolding_all rfl)))
        (fun _ _ _ _ _ => pv 1)) (pe_lst pa_nil) (nomark _))))), ?_⟩
    refine ⟨_, rfl, ⟨⟨v, d, "str", rfl, .str, hd, _, rfl, ?_⟩⟩⟩
    cases hd with
    | str x =>
      simp only [smD, Bool.and_eq_true, decide_eq_true_eq] at sm
      obtain ⟨hl, hc⟩ := sm
      have sz : x.length ≤ sizeLine := by rw [sizeLine_eq]; omega
      refine iteE (show (!isiT "str" "str") = false by decide +kernel) ⟨_, rfl, x, rfl, sz, _, _, rfl, rfl, _, rfl, ?_⟩
      by_cases h1 : (x.length : Int) < 1
      · have z := q H same_refl
        rw [nameOk, decide_eq_false (show ¬ 1 ≤ x.length by omega), Bool.false_and, Bool.false_and] at z
        exact iteC (decide_eq_true h1) (iteC rfl z)
      refine iteE (decide_eq_false h1) ⟨_, rfl, x, rfl, sz, _, _, rfl, rfl, _, rfl, ?_⟩
      by_cases h8 : (x.length : Int) > 8
      · have z := q H same_refl
        rw [nameOk, decide_eq_true (show 1 ≤ x.length by omega), decide_eq_false (show ¬ x.length ≤ 8 by omega), Bool.and_false, Bool.false_and] at z
        exact iteC (decide_eq_true h8) (iteC rfl z)
      refine iteE (decide_eq_false h8) ⟨_, rfl, ?_⟩
      have qn : ∀ H', Same H H' → Q (.bl (!inV (.str x) notN3 && x.cps.toList.all lowOk)) H' := fun H' s' => by
        have z := q H' s'
        rw [nameOk, decide_eq_true (show 1 ≤ x.length by omega), decide_eq_true (show x.length ≤ 8 by omega), Bool.true_and, Bool.true_and] at z
        exact z
      refine ⟨by rw [sizeLine_eq]; decide, fun p1 n1 => ?_⟩
      generalize g1 : upd _ p1 _ = H0
      obtain ⟨s0, e0⟩ := newlyK g1 n1
      refine ⟨p1, _, rfl, .inl (SqL.of e0), rfl, by decide +kernel, _, rfl, ?_⟩
      have e3 : inV (.str x) [.str "me", .str "here", .str "none"] = inV (.str x) notN3 := rfl
      rw [if_neg (by decide), e3]
      cases ei : inV (.str x) notN3
      rotate_left
      · have z := qn H0 s0
        rw [ei, Bool.not_true, Bool.false_and] at z
        exact iteC rfl z
      refine iteE rfl ⟨_, rfl, x, rfl, fun D nD => lc_noneStr (fun c => !lowOk c) nD (by show x.cps.toList.length ≤ 1000; rw [Array.length_toList]; exact hl) (fun c H1 Z N cm s1 z => ⟨rfl, ?_⟩) (fun H1 acc s1 e1 ea => ?_)⟩
      · have c128 : c < 128 := of_decide_eq_true (List.all_eq_true.mp hc c cm)
        refine ⟨_, rfl, _, _, rfl, rfl, _, rfl, ?_⟩
        have zz := z H1 same_refl
        rw [letters_eq, low_in c c128]
        cases e : lowOk c
        · rw [e] at zz
          exact iteC rfl ⟨_, rfl, zz⟩
        · rw [e] at zz
          exact iteE rfl zz
      · refine ⟨Nat.zero_le _, fun p0 n0 => ?_⟩
        refine ⟨D, p0, acc, rfl, rfl, SqL.of (laidK n0 _ _ e1), SqL.of upd_same, ?_⟩
        have z := qn (upd H1 p0 (.lst [])) (s0.trans (s1.trans (laidK n0)))
        rw [ei, Bool.not_false, Bool.true_and] at z
        rw [ea]
        simp only [Bool.not_not]
        exact z
    | int i => exact iteC (show (!isiT "int" "str") = true by decide +kernel) (iteC rfl (q H same_refl))
    | bl b => exact iteC (show (!isiT "bool" "str") = true by decide +kernel) (iteC rfl (q H same_refl))
    | non => exact iteC (show (!isiT "NoneType" "str") = true by decide +kernel) (iteC rfl (q H same_refl))
    | lst h a => exact iteC (show (!isiT "list" "str") = true by decide +kernel) (iteC rfl (q H same_refl))
    | tup h a => exact iteC (show (!isiT "tuple" "str") = true by decide +kernel) (iteC rfl (q H same_refl))
    | dic h a => exact iteC (show (!isiT "dict" "str") = true by decide +kernel) (iteC rfl (q H same_refl))
end
end K01

set_option Elab.async false
set_option linter.all false
set_option maxRecDepth 100000
set_option maxHeartbeats 8000000
/-! k01, j: texts drawn -/
namespace K01
open PySem PySem.Spec L2 KK
open PyProof.Rows hiding St

theorem BoxAt.same {H H' : Hp} {b : Addr} {c : Int} (h : BoxAt H b c) (s : Same H H') : BoxAt H' b c := by
  obtain ⟨x, y, e, r⟩ := h
  exact ⟨x, y, s _ _ e, r⟩
theorem BoxAt.there {H : Hp} {b : Addr} {c : Int} (h : BoxAt H b c) : ∃ o, H b = some o := by
  obtain ⟨x, y, e, _⟩ := h
  exact ⟨_, e⟩
theorem take_end {H : Hp} {b : Addr} {c : Int} {Q : VK} {n : Int} {E : XK} (hb : BoxAt H b c) (c0 : 0 ≤ c) (c1 : c < 1000000) (n0 : 0 < n) (n1 : n.natAbs < 2 ^ 200)
    (q : ∀ (r c' : Int) (H' : Hp), 0 ≤ r → r < n → BoxAt H' b c' → 0 ≤ c' → c' ≤ c + 1 → But H H' (.ref b) → Q (.int r) H') : spTake [.ref b, .int n] H Q E :=
  ⟨b, n, c, rfl, hb, c0, c1, n0, n1, fun r x y c' r0 r1 x0 y0 y1 k0 k1 => q r c' _ r0 r1 ⟨x, y, upd_same, x0, y0, y1⟩ k0 k1 upd_but⟩
theorem z100 {n : Nat} (h : n ≤ 1000) : n ≤ sizeLine := by rw [sizeLine_eq]; omega
theorem atI_at {α : Type} {xs : List α} {i : Int} (h0 : 0 ≤ i) (h : i < (xs.length : Int)) : ∃ v, atI xs i = some v ∧ v ∈ xs := by
  obtain ⟨j, rfl⟩ : ∃ j : Nat, i = (j : Int) := ⟨i.toNat, by omega⟩
  have hj : j < xs.length := by omega
  exact ⟨xs[j], atI_nat (List.getElem?_eq_getElem hj), List.getElem_mem hj⟩
theorem join_cps : ∀ cs : List Nat, (Str.join (Str.ofString "") (cs.map fun c => (⟨#[c]⟩ : Str))).cps.toList = cs
  | [] => rfl
  | [c] => rfl
  | c :: d :: r => by
    have ih := join_cps (d :: r)
    show (#[c] ++ (Str.ofString "").cps ++ (Str.join (Str.ofString "") ((d :: r).map fun c => (⟨#[c]⟩ : Str))).cps).toList = _
    rw [Array.toList_append, Array.toList_append, ih]
    rfl
theorem join_signs (cs : List Nat) : Txt.join (Str.ofString "") (cs.map fun c => (⟨#[c]⟩ : Str)) = ⟨cs.toArray⟩ := by
  show (Builtin.Str.glued (Str.ofString "") _) = _
  rw [StrLaws.glued_eq_join]
  have e := join_cps cs
  cases h : Str.join (Str.ofString "") (cs.map fun c => (⟨#[c]⟩ : Str)) with
  | mk a =>
    rw [h] at e
    have e2 : a.toList = cs := e
    rw [← e2]
theorem sum_ones : ∀ cs : List Nat, ((cs.map fun z => (⟨#[z]⟩ : Str)).map (·.length)).sum = cs.length
  | [] => rfl
  | z :: r => by
    have ih := sum_ones r
    rw [List.map_cons, List.map_cons, List.sum_cons, ih, List.length_cons]
    show 1 + r.length = _
    omega
theorem signs_len : signsS.length = 93 := by decide +kernel
theorem signs_ok : ∀ c ∈ signsS.cps.toList, signOk c = true := by decide +kernel
structure TextP (vs : List V) (H : Hp) (Q : VK) : Prop where
  ex : ∃ (b : Addr) (c : Int), vs = [.ref b] ∧ BoxAt H b c ∧ 0 ≤ c ∧ c < 900000 ∧ ∀ (x : Str) (H' : Hp) (c' : Int), (∀ z ∈ x.cps.toList, signOk z = true) → x.length ≤ 60 → BoxAt H' b c' → 0 ≤ c' → c' ≤ c + 70 → But H H' (.ref b) → Q (.str x) H'
def spText : Sp := fun vs H Q _ => TextP vs H Q
section
variable {P : Program} {w : World} {K : PySem.W.Frag} {mg : Str → Option Value} {base : Heap}
abbrev NTx : List Str := ["_law_box_here", "_law_signs_here", "_law_many", "_law_k"]
theorem scDText : FnScope NTx ["_law_box_here"] (defScope (top 26)) := ⟨rfl, rfl, rfl, by decide +kernel, rfl, by decide +kernel, by decide +kernel⟩
theorem okDText {f : Addr} {fd : FuncData} (c0 : SaysK more fa fn K) (F : FnT K 26 "_law_text" f fd) (T : Tx K mg) : FnG P w K mg base CX0 2 f fd ["_law_box_here"] spText := by
  obtain ⟨fdS, FS⟩ : ∃ fd, FnT K 25 "_law_signs" (He.ga K "_law_signs") fd := law_at c0 11 rfl
  obtain ⟨fdT, FT⟩ : ∃ fd, FnT K 24 "_law_take" (He.ga K "_law_take") fd := law_at c0 10 rfl
  have GS := okSigns (P := P) (w := w) (mg := mg) (base := base) FS
  have GT := okTake (P := P) (w := w) (mg := mg) (base := base) FT T
  have BS : Binds K fdS [] [] := FS.bindsN fun _ _ _ _ _ _ us hl => match us, hl with | [], _ => rfl
  have BT : Binds K fdT ["_law_box_here", "_law_many"] [] := FT.bindsN fun _ _ _ _ _ _ us hl => match us, hl with | [_, _], _ => rfl
  refine fn_ofG F scDText (fun vs H Q E h => ?_) (fun cdv A outer s H vs Q E hr hg h => ?_)
  · obtain ⟨b, c, rfl, _⟩ := h.ex
    rfl
  · obtain ⟨b, c, rfl, hb, k0, k1, q⟩ := h.ex
    refine ⟨_, PSs.nox (pss_cons (ps_set (i := 1) scDText.nd rfl (Or.inr rfl) (pe_call0G GS hr hg (by rfl) (T.mgF "_law_signs" (by decide +kernel)) FS.kp BS .nil pass0))
      (pss_cons (ps_set (i := 2) scDText.nd rfl (Or.inl rfl) (pe_ix ix_list (pe_lst (pa_cons pe_int (pa_cons pe_int (pa_cons pe_int (pa_cons (pe_callG GT hr hg (by rfl) (T.mgF "_law_take" (by decide +kernel)) FT.kp BT .nil pass0 (pa_cons (pv 0) (pa_cons pe_int pa_nil)))
        (pa_cons (pe_callG GT hr hg (by rfl) (T.mgF "_law_take" (by decide +kernel)) FT.kp BT .nil pass0 (pa_cons (pv 0) (pa_cons pe_int pa_nil))) pa_nil))))))
        (pe_callG GT hr hg (by rfl) (T.mgF "_law_take" (by decide +kernel)) FT.kp BT .nil pass0 (pa_cons (pv 0) (pa_cons pe_int pa_nil))) (fun _ _ => rfl)))
      (pss_one (ps_ret (pe_join pe_str (pe_lc (own := [("_law_k", 3)]) (g := gName 3) (tt := tYes) rfl scDText.nd (pi_range1 (by rfl) (T.fre "range" (by simp [frees])) (pa_cons (pv 2) pa_nil)) (blkOk_by (own := [("_law_k", 3)]) (N := NTx) (sc := defScope (top 26)) (by decide +kernel))
        (fun _ _ _ _ _ => pg_name (i := 3) scDText.nd rfl (Or.inl rfl)) (fun _ _ _ _ _ => pts_nil)
        (fun _ _ _ _ _ => pe_ix ix_str (pv 1) (pe_callG GT hr hg (by rfl) (T.mgF "_law_take" (by decide +kernel)) FT.kp BT .nil pass0 (pa_cons (pv 0) (pa_cons (pe_callB call_len_str (by rfl) (T.fre "len" (by simp [frees])) PySem.boot_len (pa_cons (pv 1) pa_nil)) pa_nil))) (fun _ _ => rfl)))))))), ?_⟩
    refine ⟨rfl, ?_⟩
    refine ⟨_, rfl, ?_⟩
    dsimp only [tCons, tC, tNil, tCall]
    refine take_end (n := 61) hb k0 (by omega) (by decide) (by decide) fun r1 x1 H1 r10 r11 hb1 a1 a1' u1 => ?_
    refine ⟨_, rfl, ?_⟩
    dsimp only [tCons, tC, tNil, tCall]
    refine take_end (n := 9) hb1 a1 (by omega) (by decide) (by decide) fun r2 x2 H2 r20 r21 hb2 a2 a2' u2 => ?_
    refine ⟨z100 (by show 5 ≤ 1000; decide), fun p3 n3 => ?_⟩
    generalize g3 : upd _ p3 _ = H3
    obtain ⟨s3, e3⟩ := newlyK g3 n3
    have hb3 := hb2.same s3
    refine ⟨_, rfl, ?_⟩
    dsimp only [tCons, tC, tNil, tCall]
    refine take_end (n := 5) hb3 a2 (by omega) (by decide) (by decide) fun r4 x4 H4 r40 r41 hb4 a4 a4' u4 => ?_
    obtain ⟨ob2, eb2⟩ := hb2.there
    have n3b : p3 ≠ b := fun z => by
      rw [z, eb2] at n3
      cases n3
    have e4 : H4 p3 = some (.lst [.int 0, .int 1, .int 60, .int r1, .int r2]) := u4 _ _ e3 fun z => n3b (V.ref.inj z).symm
    obtain ⟨m, hm, m0, m60⟩ : ∃ m : Int, atI [V.int 0, V.int 1, V.int 60, V.int r1, V.int r2] r4 = some (.int m) ∧ 0 ≤ m ∧ m ≤ 60 := by
      obtain ⟨v, hv, mv⟩ := atI_at (xs := [V.int 0, V.int 1, V.int 60, V.int r1, V.int r2]) r40 (by show r4 < 5; exact r41)
      simp only [List.mem_cons, List.not_mem_nil, or_false] at mv
      rcases mv with rfl | rfl | rfl | rfl | rfl
      · exact ⟨_, hv, by decide, by decide⟩
      · exact ⟨_, hv, by decide, by decide⟩
      · exact ⟨_, hv, by decide, by decide⟩
      · exact ⟨_, hv, r10, by omega⟩
      · exact ⟨_, hv, r20, by omega⟩
    refine ⟨p3, _, r4, .int m, rfl, rfl, SqL.of e4, hm, ?_⟩
    have uu : But H H4 (.ref b) := (u1.trans u2).trans ((same_butK s3).trans u4)
    refine ⟨⟨_, rfl⟩, _, rfl, m, rfl, by omega, by omega, fun D nD => lc_range (n := m.toNat) (fun i H' => ∃ (ci : Int) (cs : List Nat), BoxAt H' b ci ∧ 0 ≤ ci ∧ ci ≤ c + 3 + i ∧ (∀ p o, H4 p = some o → p ≠ b → H' p = some o) ∧ H' D = some (.lst (cs.map fun z => .str ⟨#[z]⟩)) ∧ cs.length = i ∧ ∀ z ∈ cs, signOk z = true) ?_ (fun i H' hi p => ?_) (fun H' p => ?_)⟩
    · exact ⟨x4, [], hb4.same (laidK nD), a4, by omega, fun p o e _ => laidK nD _ _ e, upd_same, rfl, nofun⟩
    · obtain ⟨ci, cs, hbi, ci0, ci1, ki, eD, lc, ok⟩ := p
      have hi60 : i < 60 := by omega
      have Db : D ≠ b := fun z => by
        obtain ⟨o, e⟩ := hb4.there
        rw [← z, nD] at e
        cases e
      refine ⟨rfl, ?_⟩
      dsimp only [tYes]
      rw [if_pos rfl]
      refine ⟨_, rfl, _, rfl, _, rfl, signsS, rfl, by rw [signs_len]; exact z100 (by decide), ?_⟩
      dsimp only [tCons, tC, tNil, tCall]
      rw [signs_len]
      refine take_end (n := 93) hbi ci0 (by omega) (by decide) (by decide) fun r x H5 r0 r1 hb5 a5 a5' u5 => ?_
      obtain ⟨z, hz, mz⟩ := atI_at (xs := signsS.cps.toList) r0 (by have e := signs_len; rw [Array.length_toList]; show r < ((signsS.length : Nat) : Int); rw [e]; exact r1)
      refine ⟨signsS, r, z, rfl, rfl, by rw [signs_len]; exact z100 (by decide), hz, ?_⟩
      have eD5 : H5 D = some (.lst (cs.map fun z => .str ⟨#[z]⟩)) := u5 _ _ eD fun w => Db (V.ref.inj w).symm
      refine ⟨_, eD5, by rw [List.length_map, lc, sizeLine_eq]; omega, x, cs ++ [z], ?_, a5, by omega, fun p o e nb => ?_, ?_, by rw [List.length_append, lc]; rfl, fun y hy => ?_⟩
      · obtain ⟨xx, yy, e, rr⟩ := hb5
        exact ⟨xx, yy, by rw [upd_ne Db.symm]; exact e, rr⟩
      · have nD2 : p ≠ D := fun w => by
          rw [w, nD] at e
          cases e
        rw [upd_ne nD2]
        exact u5 _ _ (ki p o e nb) fun w => nb (V.ref.inj w).symm
      · rw [upd_same, List.map_append]
        rfl
      · rcases List.mem_append.mp hy with hy | hy
        · exact ok y hy
        · rw [List.mem_singleton.mp hy]
          exact signs_ok z mz
    · obtain ⟨ci, cs, hbi, ci0, ci1, ki, eD, lc, ok⟩ := p
      have l60 : cs.length ≤ 60 := by omega
      refine ⟨_, D, cs.map fun z => ⟨#[z]⟩, rfl, rfl, .inl (SqL.of (by rw [eD, List.map_map]; rfl)), ?_, ?_⟩
      · have e0 : (Str.ofString "").length = 0 := by decide
        rw [e0, sum_ones]
        omega
      · rw [join_signs]
        refine q _ H' ci (fun z hz => ok z (by simpa using hz)) (by show cs.toArray.size ≤ 60; rw [List.size_toArray]; exact l60) hbi ci0 (by omega) fun p o e nb => ki p o (uu p o e nb) fun w => nb (by rw [w])
end
end K01

set_option Elab.async false
set_option linter.all false
set_option maxRecDepth 100000
set_option maxHeartbeats 8000000
/-! k01, k: worths drawn -/
namespace K01
open PySem PySem.Spec L2 KK
open PyProof.Rows hiding St

/-- good data: where it stands, how long its repr may be, how deep -/
structure Gd (D : Addr → Prop) (H : Hp) (v : V) (d : PyData) (B k : Nat) : Prop where
  ex : ∃ S t, Dz H v d S ∧ Imm H v t ∧ (∀ p ∈ S, D p) ∧ smD d = true ∧ d.showable = true ∧ W d ≤ B ∧ d.depth ≤ k
theorem W_int {i : Int} {k : Nat} (hk : 0 < k) (h : i.natAbs < 10 ^ k) : W (.int i) ≤ k + 1 := by
  have := int_text_length_le10 hk h
  simp only [W]
  rw [PySem.ofString_length]
  exact this
theorem show_int {i : Int} (h : i.natAbs < 10 ^ 12) : (PyData.int i).showable = true := by
  simp only [PyData.showable, decide_eq_true_eq]
  by_cases z : i.natAbs = 0
  · rw [z]; decide
  · rw [Nat.log2_lt z]
    exact Nat.lt_trans h (by decide +kernel)
theorem gd_non {D : Addr → Prop} {H : Hp} {B k : Nat} (hB : 620 ≤ B) : Gd D H .non .none B k := ⟨⟨[], _, .non, .non, nofun, rfl, rfl, by simp only [W]; omega, by simp only [PyData.depth]; omega⟩⟩
theorem gd_int {D : Addr → Prop} {H : Hp} {B k : Nat} {i : Int} (hB : 620 ≤ B) (h : i.natAbs < 10 ^ 12) : Gd D H (.int i) (.int i) B k :=
  ⟨⟨[], _, .int i, .int i, nofun, rfl, show_int h, by have := W_int (k := 12) (by decide) h; omega, by simp only [PyData.depth]; omega⟩⟩
theorem sign_128 {c : Nat} (h : signOk c = true) : c < 128 := by
  simp only [signOk, Bool.and_eq_true, decide_eq_true_eq] at h
  omega
theorem gd_str {D : Addr → Prop} {H : Hp} {B k : Nat} {x : Str} (hB : 620 ≤ B) (ok : ∀ z ∈ x.cps.toList, signOk z = true) (l : x.length ≤ 60) : Gd D H (.str x) (.str x) B k := by
  refine ⟨⟨[], _, .str x, .str x, nofun, ?_, rfl, ?_, by simp only [PyData.depth]; omega⟩⟩
  · simp only [smD, Bool.and_eq_true, decide_eq_true_eq]
    exact ⟨by omega, List.all_eq_true.mpr fun z hz => decide_eq_true (sign_128 (ok z hz))⟩
  · have := StrLaws.reprText_len x fun z hz => Nat.lt_trans (sign_128 (ok z hz)) (by decide +kernel)
    simp only [W]
    omega
theorem Gd.keep {D : Addr → Prop} {H H' : Hp} {v : V} {d : PyData} {B k : Nat} (g : Gd D H v d B k) (h : ∀ p u, D p → H p = some u → H' p = some u) : Gd D H' v d B k := by
  obtain ⟨S, t, z, i, sd, sm, sh, wd, dp⟩ := g.ex
  refine ⟨⟨S, t, z.keep fun p m o e => h p o (sd p m) e, ?_, sd, sm, sh, wd, dp⟩⟩
  cases i with
  | non => exact .non
  | bl b => exact .bl b
  | int i => exact .int i
  | str x => exact .str x
  | tup e =>
    refine .tup (h _ _ ?_ e)
    cases z with
    | tup _ _ _ => exact sd _ (List.mem_cons_self ..)
    | lst e2 _ _ => rw [e] at e2; cases e2
    | dic e2 _ _ => rw [e] at e2; cases e2
theorem Gd.wide {D D' : Addr → Prop} {H : Hp} {v : V} {d : PyData} {B k : Nat} (g : Gd D H v d B k) (h : ∀ p, D p → D' p) : Gd D' H v d B k := by
  obtain ⟨S, t, z, i, sd, r⟩ := g.ex
  exact ⟨⟨S, t, z, i, fun p m => h p (sd p m), r⟩⟩
theorem Gd.more {D : Addr → Prop} {H : Hp} {v : V} {d : PyData} {B k B' k' : Nat} (g : Gd D H v d B k) (hB : B ≤ B') (hk : k ≤ k') : Gd D H v d B' k' := by
  obtain ⟨S, t, z, i, sd, sm, sh, wd, dp⟩ := g.ex
  exact ⟨⟨S, t, z, i, sd, sm, sh, by omega, by omega⟩⟩
/-- several of them -/
structure GdAll (D : Addr → Prop) (H : Hp) (vs : List V) (ds : List PyData) (B k : Nat) : Prop where
  ex : ∃ S, DzAll H vs ds S ∧ (∀ p ∈ S, D p) ∧ smAll ds = true ∧ PyData.showableAll ds = true ∧ WAll ds ≤ vs.length * (B + 2) ∧ PyData.depthAll ds ≤ k
theorem gdAll_nil {D : Addr → Prop} {H : Hp} {B k : Nat} : GdAll D H [] [] B k := ⟨⟨[], .nil, nofun, rfl, rfl, by simp only [WAll]; omega, by simp only [PyData.depthAll]; omega⟩⟩
theorem smAll_append : ∀ xs ys : List PyData, smAll (xs ++ ys) = (smAll xs && smAll ys)
  | [], ys => by simp only [List.nil_append, smAll, Bool.true_and]
  | x :: xs, ys => by simp only [List.cons_append, smAll, smAll_append xs ys, Bool.and_assoc]
theorem GdAll.snoc {D : Addr → Prop} {H : Hp} {vs : List V} {ds : List PyData} {v : V} {d : PyData} {B k : Nat} (g : GdAll D H vs ds B k) (h : Gd D H v d B k) : GdAll D H (vs ++ [v]) (ds ++ [d]) B k := by
  obtain ⟨S, z, sd, sm, sh, wd, dp⟩ := g.ex
  obtain ⟨S', t, z', i, sd', sm', sh', wd', dp'⟩ := h.ex
  refine ⟨⟨S ++ S', DzAll.snoc z' z, fun p m => ?_, ?_, ?_, ?_, ?_⟩⟩
  · rcases List.mem_append.mp m with m | m
    · exact sd p m
    · exact sd' p m
  · rw [smAll_append, sm]
    simp only [smAll, sm', Bool.and_true]
  · rw [showableAll_append, sh]
    simp only [PyData.showableAll, sh', Bool.and_true]
  · rw [WAll_append, List.length_append]
    simp only [WAll, List.length_cons, List.length_nil]
    have : (vs.length + (0 + 1)) * (B + 2) = vs.length * (B + 2) + (B + 2) := by rw [Nat.zero_add, Nat.succ_mul]
    omega
  · rw [depthAll_append]
    simp only [PyData.depthAll]
    omega
theorem GdAll.keep {D : Addr → Prop} {H H' : Hp} {vs : List V} {ds : List PyData} {B k : Nat} (g : GdAll D H vs ds B k) (h : ∀ p u, D p → H p = some u → H' p = some u) : GdAll D H' vs ds B k := by
  obtain ⟨S, z, sd, r⟩ := g.ex
  exact ⟨⟨S, z.keep fun p m o e => h p o (sd p m) e, sd, r⟩⟩
/-- ("thing", a number) -/
theorem gd_thing {D : Addr → Prop} {H : Hp} {B k : Nat} {p : Addr} {i : Int} (hB : 620 ≤ B) (hk : 1 ≤ k) (h : i.natAbs < 10 ^ 12) (e : H p = some (.tup [.str "thing", .int i])) (dp : D p) : Gd D H (.ref p) (.tuple [.str "thing", .int i]) B k := by
  refine ⟨⟨[p], "tuple", .tup (S := []) e (.cons (S := []) (S' := []) (.str _) (.cons (S := []) (S' := []) (.int i) .nil)) (by simp), .tup e, fun q m => by rw [List.mem_singleton.mp m]; exact dp, ?_, ?_, ?_, ?_⟩⟩
  · simp only [smD, smHs, smH, wordOk, scalD, Bool.and_true, Bool.true_and, decide_eq_true_eq]
    show 2 ≤ 1000
    decide
  · simp only [PyData.showable, PyData.showableAll, Bool.and_true, Bool.true_and]
    exact show_int h
  · have := W_int (k := 12) (by decide) h
    have e2 : W (.str "thing") ≤ 10 := by simp only [W]; decide +kernel
    have e3 : W (.tuple [.str "thing", .int i]) = 3 + (W (.str "thing") + 2 + (W (.int i) + 2 + 0)) := by simp only [W, WAll]
    omega
  · simp only [PyData.depth, PyData.depthAll]
    omega
/-- ("row", a tuple of them), both just laid -/
theorem gd_rowN {H H1 H2 H3 : Hp} {D : Addr} {vs : List V} {ds : List PyData} {B k B' : Nat} {p p2 : Addr} (g : GdAll (fun q => H q = none ∧ q ≠ D) H1 vs ds B k) (l : vs.length ≤ 1000) (hB : vs.length * (B + 2) + 30 ≤ B') (n2 : H1 p2 = none) (e2 : H2 p2 = some (.tup vs)) (s2 : Same H1 H2)
    (n : H2 p = none) (e : H3 p = some (.tup [.str "row", .ref p2])) (s3 : Same H2 H3) (d2 : H p2 = none) (dp : H p = none) : Gd (fun q => H q = none) H3 (.ref p) (.tuple [.str "row", .tuple ds]) B' (k + 2) := by
  obtain ⟨S, z, sd, sm, sh, wd, dd⟩ := g.ex
  have lz := dzAll_len z
  have f2 : p2 ∉ S := fun m => by
    obtain ⟨o, eo⟩ := z.there p2 m
    rw [n2] at eo
    cases eo
  have f1 : p ∉ p2 :: S := fun m => by
    rcases List.mem_cons.mp m with m | m
    · rw [m, e2] at n
      cases n
    · obtain ⟨o, eo⟩ := z.there p m
      rw [s2 _ _ eo] at n
      cases n
  have z3 := (z.keep fun a _ o q => s3 _ _ (s2 _ _ q))
  refine ⟨⟨p :: ([] ++ ((p2 :: S) ++ [])), "tuple", .tup e (.cons (.str _) (.cons (.tup (s3 _ _ e2) z3 f2) .nil)) (by simpa using f1), .tup e, fun q m => ?_, ?_, ?_, ?_, ?_⟩⟩
  · rcases List.mem_cons.mp m with m | m
    · rw [m]; exact dp
    · rw [List.nil_append, List.append_nil] at m
      rcases List.mem_cons.mp m with m | m
      · rw [m]; exact d2
      · exact (sd q m).1
  · simp only [smD, smHs, smH, wordOk, scalD, sm, Bool.and_true, Bool.true_and, Bool.and_eq_true, decide_eq_true_eq]
    exact ⟨by show 2 ≤ 1000; decide, by omega⟩
  · simp only [PyData.showable, PyData.showableAll, Bool.and_true, Bool.true_and]
    exact sh
  · have e3 : W (.str "row") ≤ 8 := by simp only [W]; decide +kernel
    have e4 : W (.tuple [.str "row", .tuple ds]) = 3 + (W (.str "row") + 2 + (3 + WAll ds + 2 + 0)) := by simp only [W, WAll]
    omega
  · simp only [PyData.depth, PyData.depthAll]
    omega
end K01

set_option Elab.async false
set_option linter.all false
set_option maxRecDepth 100000
set_option maxHeartbeats 8000000
/-! k01, l: worths drawn, the def -/
namespace K01
open PySem PySem.Spec L2 KK
open PyProof.Rows hiding St

def cnt (n : Nat) : Nat := if n = 4 then 30 else 2
def BB : Nat → Nat
  | 0 => 620
  | n + 1 => 40 + cnt (n + 1) * (BB n + 2)
def CC : Nat → Nat
  | 0 => 90
  | n + 1 => 100 + cnt (n + 1) * CC n
theorem bb_ge : ∀ n, 620 ≤ BB n
  | 0 => Nat.le_refl _
  | n + 1 => by
    have := bb_ge n
    have c2 : 2 ≤ cnt (n + 1) := by unfold cnt; split <;> omega
    have := Nat.mul_le_mul c2 (show 622 ≤ BB n + 2 by omega)
    unfold BB
    omega
theorem cc_ge : ∀ n, 90 ≤ CC n
  | 0 => Nat.le_refl _
  | n + 1 => by
    unfold CC
    omega
theorem cnt_le (n : Nat) : cnt n ≤ 30 := by unfold cnt; split <;> omega
abbrev New (H : Hp) : Addr → Prop := fun p => H p = none
theorem new_old {H H1 : Hp} {b : Addr} {o : HO} (k : But H H1 (.ref b)) (e : H1 b = some o) {p : Addr} (dp : H1 p = none) : H p = none := by
  cases q : H p with
  | none => rfl
  | some u =>
    have z := k p u q fun z => by
      cases z
      rw [dp] at e
      cases e
    rw [dp] at z
    cases z
theorem plain_int {i : Int} (h : -1000000000 ≤ i) (h2 : i ≤ 1000000000) : plainOk (.int i) = true := by
  rw [plainOk, numOk, decide_eq_true h, decide_eq_true h2]
  rfl
theorem plain_str {x : Str} (ok : ∀ z ∈ x.cps.toList, signOk z = true) (l : x.length ≤ 60) : plainOk (.str x) = true := by
  rw [plainOk, txtOk, decide_eq_true l, List.all_eq_true.mpr ok]
  rfl
theorem worth_thing {n : Nat} {i : Int} (h : 0 ≤ i) (h2 : i ≤ 999) : worthOk n (.tuple [.str "thing", .int i]) = true := by
  have e : thingOk (.tuple [.str "thing", .int i]) = true := by
    rw [thingOk, numOk, decide_eq_true h, decide_eq_true h2]
    rfl
  cases n with
  | zero => rw [worthOk, e, Bool.or_true]
  | succ n => rw [worthOk, e, Bool.true_or, Bool.or_true]
theorem worth_row {n : Nat} {ds : List PyData} (l : ds.length ≤ 30) (w : ds.all (worthOk n) = true) : worthOk (n + 1) (.tuple [.str "row", .tuple ds]) = true := by
  have e : rowOk (worthOk n) (.tuple [.str "row", .tuple ds]) = true := by
    rw [rowOk, w, decide_eq_true l]
    rfl
  rw [worthOk, e, Bool.or_true, Bool.or_true]
structure DWorthP (n : Nat) (vs : List V) (H : Hp) (Q : VK) : Prop where
  ex : ∃ (b : Addr) (c : Int), vs = [.ref b, .int (n : Int)] ∧ BoxAt H b c ∧ 0 ≤ c ∧ c + CC n < 800000 ∧ ∀ (v : V) (d : PyData) (H' : Hp) (c' : Int), Gd (New H) H' v d (BB n) (2 * n + 1) → worthOk n d = true → BoxAt H' b c' → 0 ≤ c' → c' ≤ c + CC n → But H H' (.ref b) → Q v H'
def spDWorth (n : Nat) : Sp := fun vs H Q _ => DWorthP n vs H Q
section
variable {P : Program} {w : World} {K : PySem.W.Frag} {mg : Str → Option Value} {base : Heap}
abbrev NDw : List Str := ["_law_box_here", "_law_deep_here", "_law_way", "_law_most", "_law_many", "_law_k"]
theorem scDWorth : FnScope NDw ["_law_box_here", "_law_deep_here"] (defScope (top 27)) := ⟨rfl, rfl, rfl, by decide +kernel, rfl, by decide +kernel, by decide +kernel⟩
theorem okDWorth0 {f : Addr} {fd : FuncData} (c0 : SaysK more fa fn K) (hm : mg "_law_worth" = some (.ref f)) (F : FnT K 27 "_law_worth" f fd) (T : Tx K mg) : FnG P w K mg base CX0 (3) f fd ["_law_box_here", "_law_deep_here"] (spDWorth 0) := by
  obtain ⟨fdT, FT⟩ : ∃ fd, FnT K 24 "_law_take" (He.ga K "_law_take") fd := law_at c0 10 rfl
  obtain ⟨fdX, FX⟩ : ∃ fd, FnT K 26 "_law_text" (He.ga K "_law_text") fd := law_at c0 12 rfl
  have GT := okTake (P := P) (w := w) (mg := mg) (base := base) FT T
  have GX := okDText (P := P) (w := w) (mg := mg) (base := base) c0 FX T
  have BT : Binds K fdT ["_law_box_here", "_law_many"] [] := FT.bindsN fun _ _ _ _ _ _ us hl => match us, hl with | [_, _], _ => rfl
  have BX : Binds K fdX ["_law_box_here"] [] := FX.bindsN fun _ _ _ _ _ _ us hl => match us, hl with | [_], _ => rfl
  refine fn_ofG F scDWorth (fun vs H Q E h => ?_) (fun cdv A outer s H vs Q E hr hg h => ?_)
  · obtain ⟨b, c, rfl, _⟩ := h.ex
    rfl
  · obtain ⟨b, c, rfl, hb, k0, k1, q⟩ := h.ex
    have hr2 := hr.mono (show 2 ≤ 2 by omega)
    have hr1 := hr.mono (show 1 ≤ 2 by omega)
    have bg := bb_ge 0
    have cg := cc_ge 0
    refine ⟨_, PSs.nox (pss_cons (ps_set (i := 2) scDWorth.nd rfl (Or.inl rfl) (pe_callG GT hr1 hg (by rfl) (T.mgF "_law_take" (by decide +kernel)) FT.kp BT .nil pass0 (pa_cons (pv 0) (pa_cons pe_int pa_nil))))
      (pss_cons (ps_if (pt_cmpR op_eq (pv 2) pe_int (nomark _)) (pss_one (ps_ret pe_non)) pss_nil)
      (pss_cons (ps_if (pt_cmpR op_lt (pv 2) pe_int (nomark _)) (pss_cons (ps_set (i := 3) scDWorth.nd rfl (Or.inl rfl) (pe_op op_pow pe_int pe_int))
        (pss_one (ps_ret (pe_ix ix_list (pe_lst (pa_cons pe_int (pa_cons pe_int (pa_cons (pe_un un_neg pe_int) (pa_cons (pv 3) (pa_cons (pe_op op_sub pe_int (pv 3)) (pa_cons (pe_op op_sub (pe_callG GT hr1 hg (by rfl) (T.mgF "_law_take" (by decide +kernel)) FT.kp BT .nil pass0 (pa_cons (pv 0) (pa_cons (pe_op op_add (pe_op op_mul pe_int (pv 3)) pe_int) pa_nil))) (pv 3)) (pa_cons pe_int pa_nil)))))))) (pe_callG GT hr1 hg (by rfl) (T.mgF "_law_take" (by decide +kernel)) FT.kp BT .nil pass0 (pa_cons (pv 0) (pa_cons pe_int pa_nil))) (fun _ _ => rfl))))) pss_nil)
      (pss_cons (ps_if (pt_cmpR op_lt (pv 2) pe_int (nomark _)) (pss_one (ps_ret (pe_callG GX hr2 hg (by rfl) (T.mgF "_law_text" (by decide +kernel)) FX.kp BX .nil pass0 (pa_cons (pv 0) pa_nil)))) pss_nil)
      (pss_cons (ps_if (PW.pt (pw_or (pt_cmpR op_eq (pv 2) pe_int (nomark _)) (pw_or1 (pt_cmpR op_eq (pv 1) pe_int (nomark _))))) (pss_one (ps_ret (pe_tup (pa_cons pe_str (pa_cons (pe_ix ix_list (pe_lst (pa_cons pe_int (pa_cons pe_int (pa_cons (pe_callG GT hr1 hg (by rfl) (T.mgF "_law_take" (by decide +kernel)) FT.kp BT .nil pass0 (pa_cons (pv 0) (pa_cons pe_int pa_nil))) pa_nil)))) (pe_callG GT hr1 hg (by rfl) (T.mgF "_law_take" (by decide +kernel)) FT.kp BT .nil pass0 (pa_cons (pv 0) (pa_cons pe_int pa_nil))) (fun _ _ => rfl)) pa_nil))))) pss_nil)
      (pss_cons ps_never
      (pss_one ps_never))))))), ?_⟩
    refine ⟨_, rfl, ?_⟩
    dsimp only [tCons, tC, tNil, tCall]
    refine take_end (n := 9) hb k0 (by omega) (by decide) (by decide) fun r x1 H1 r0 r9 hb1 a1 a1' u1 => ?_
    have dI : ∀ i j : Int, decide (V.int i = V.int j) = decide (i = j) := fun i j => by rw [decide_eq_decide]; exact ⟨V.int.inj, fun e => by rw [e]⟩
    refine ⟨_, rfl, rfl, _, rfl, ?_⟩
    rw [dI]
    by_cases w0 : r = 0
    · exact iteC (decide_eq_true w0) (q .non .none H1 x1 (gd_non bg) (worth_plain rfl) hb1 a1 (by omega) u1)
    refine iteE (decide_eq_false w0) ⟨_, rfl, _, _, rfl, rfl, _, rfl, ?_⟩
    by_cases w3 : r < 3
    · refine iteC (decide_eq_true w3) ⟨_, _, rfl, rfl, ⟨by decide, by decide, by decide⟩, ?_⟩
      have e9 : (10 : Int) ^ (9 : Int).toNat = 1000000000 := by decide +kernel
      refine ⟨_, rfl, _, rfl, _, rfl, _, _, rfl, rfl, _, rfl, _, rfl, _, _, rfl, rfl, .inl (by constructor <;> decide), _, _, rfl, rfl, ?_⟩
      dsimp only [tCons, tC, tNil, tCall]
      refine take_end (n := 2000000001) hb1 a1 (by omega) (by decide) (by decide) fun r2 x2 H2 r20 r21 hb2 a2 a2' u2 => ?_
      refine ⟨_, rfl, _, _, rfl, rfl, z100 (by show 7 ≤ 1000; decide), fun p3 n3 => ?_⟩
      generalize g3 : upd _ p3 _ = H3
      obtain ⟨s3, e3⟩ := newlyK g3 n3
      have hb3 := hb2.same s3
      refine ⟨_, rfl, ?_⟩
      dsimp only [tCons, tC, tNil, tCall]
      refine take_end (n := 7) hb3 a2 (by omega) (by decide) (by decide) fun r4 x4 H4 r40 r41 hb4 a4 a4' u4 => ?_
      obtain ⟨ob2, eb2⟩ := hb2.there
      have n3b : p3 ≠ b := fun z => by
        rw [z, eb2] at n3
        cases n3
      have e4 := u4 _ _ e3 fun z => n3b (V.ref.inj z).symm
      obtain ⟨v, hv, mv⟩ := atI_at (xs := [V.int 0, V.int 1, V.int (-1), V.int (10 ^ (9 : Int).toNat), V.int (0 - 10 ^ (9 : Int).toNat), V.int (r2 - 10 ^ (9 : Int).toNat), V.int 10]) r40 (by show r4 < 7; exact r41)
      refine ⟨p3, _, r4, v, rfl, rfl, SqL.of e4, hv, ?_⟩
      have uu : But H H4 (.ref b) := (u1.trans u2).trans ((same_butK s3).trans u4)
      simp only [List.mem_cons, List.not_mem_nil, or_false] at mv
      rcases mv with rfl | rfl | rfl | rfl | rfl | rfl | rfl
      all_goals exact q _ _ H4 x4 (gd_int bg (by first | decide +kernel | omega)) (worth_plain (plain_int (by first | decide +kernel | omega) (by first | decide +kernel | omega))) hb4 a4 (by omega) uu
    refine iteE (decide_eq_false w3) ⟨_, rfl, _, _, rfl, rfl, _, rfl, ?_⟩
    by_cases w5 : r < 5
    · refine iteC (decide_eq_true w5) ⟨_, rfl, ⟨⟨b, x1, rfl, hb1, a1, by omega, fun x H2 x2 ok l60 hb2 a2 a2' u2 => ?_⟩⟩⟩
      exact q _ _ H2 x2 (gd_str bg ok l60) (worth_plain (plain_str ok l60)) hb2 a2 (by omega) (u1.trans u2)
    refine iteE (decide_eq_false w5) ⟨_, rfl, rfl, _, rfl, ?_⟩
    rw [dI]
    by_cases w6 : r = 5
    · refine iteC (decide_eq_true w6) (iteC rfl ?_)
      refine ⟨_, rfl, ?_⟩
      dsimp only [tCons, tC, tNil, tCall]
      refine take_end (n := 1000) hb1 a1 (by omega) (by decide) (by decide) fun r2 x2 H2 r20 r21 hb2 a2 a2' u2 => ?_
      refine ⟨z100 (by show 3 ≤ 1000; decide), fun p3 n3 => ?_⟩
      generalize g3 : upd _ p3 _ = H3
      obtain ⟨s3, e3⟩ := newlyK g3 n3
      have hb3 := hb2.same s3
      refine ⟨_, rfl, ?_⟩
      dsimp only [tCons, tC, tNil, tCall]
      refine take_end (n := 3) hb3 a2 (by omega) (by decide) (by decide) fun r4 x4 H4 r40 r41 hb4 a4 a4' u4 => ?_
      obtain ⟨ob2, eb2⟩ := hb2.there
      have n3b : p3 ≠ b := fun z => by
        rw [z, eb2] at n3
        cases n3
      have e4 := u4 _ _ e3 fun z => n3b (V.ref.inj z).symm
      obtain ⟨v, hv, mv⟩ := atI_at (xs := [V.int 0, V.int 999, V.int r2]) r40 (by show r4 < 3; exact r41)
      refine ⟨p3, _, r4, v, rfl, rfl, SqL.of e4, hv, ?_⟩
      have uu : But H H4 (.ref b) := (u1.trans u2).trans ((same_butK s3).trans u4)
      obtain ⟨i, rfl, hi, i0, i9⟩ : ∃ i : Int, v = .int i ∧ i.natAbs < 10 ^ 12 ∧ 0 ≤ i ∧ i ≤ 999 := by
        simp only [List.mem_cons, List.not_mem_nil, or_false] at mv
        rcases mv with rfl | rfl | rfl
        all_goals exact ⟨_, rfl, by first | decide +kernel | omega, by first | decide +kernel | omega, by first | decide +kernel | omega⟩
      refine ⟨z100 (by show 2 ≤ 1000; decide), fun p5 n5 => ?_⟩
      generalize g5 : upd _ p5 _ = H5
      obtain ⟨s5, e5⟩ := newlyK g5 n5
      obtain ⟨ob4, eb4⟩ := hb4.there
      exact q _ _ H5 x4 (gd_thing bg (by omega) hi e5 (new_old uu eb4 n5)) (worth_thing i0 i9) (hb4.same s5) a4 (by omega) (uu.trans (same_butK s5))
    refine iteE (decide_eq_false w6) ?_
    refine ⟨_, rfl, rfl, _, rfl, ?_⟩
    refine iteC (by decide +kernel) ?_
    refine ⟨_, rfl, ?_⟩
    dsimp only [tCons, tC, tNil, tCall]
    refine take_end (n := 1000) hb1 a1 (by omega) (by decide) (by decide) fun r2 x2 H2 r20 r21 hb2 a2 a2' u2 => ?_
    refine ⟨z100 (by show 3 ≤ 1000; decide), fun p3 n3 => ?_⟩
    generalize g3 : upd _ p3 _ = H3
    obtain ⟨s3, e3⟩ := newlyK g3 n3
    have hb3 := hb2.same s3
    refine ⟨_, rfl, ?_⟩
    dsimp only [tCons, tC, tNil, tCall]
    refine take_end (n := 3) hb3 a2 (by omega) (by decide) (by decide) fun r4 x4 H4 r40 r41 hb4 a4 a4' u4 => ?_
    obtain ⟨ob2, eb2⟩ := hb2.there
    have n3b : p3 ≠ b := fun z => by
      rw [z, eb2] at n3
      cases n3
    have e4 := u4 _ _ e3 fun z => n3b (V.ref.inj z).symm
    obtain ⟨v, hv, mv⟩ := atI_at (xs := [V.int 0, V.int 999, V.int r2]) r40 (by show r4 < 3; exact r41)
    refine ⟨p3, _, r4, v, rfl, rfl, SqL.of e4, hv, ?_⟩
    have uu : But H H4 (.ref b) := (u1.trans u2).trans ((same_butK s3).trans u4)
    obtain ⟨i, rfl, hi, i0, i9⟩ : ∃ i : Int, v = .int i ∧ i.natAbs < 10 ^ 12 ∧ 0 ≤ i ∧ i ≤ 999 := by
      simp only [List.mem_cons, List.not_mem_nil, or_false] at mv
      rcases mv with rfl | rfl | rfl
      all_goals exact ⟨_, rfl, by first | decide +kernel | omega, by first | decide +kernel | omega, by first | decide +kernel | omega⟩
    refine ⟨z100 (by show 2 ≤ 1000; decide), fun p5 n5 => ?_⟩
    generalize g5 : upd _ p5 _ = H5
    obtain ⟨s5, e5⟩ := newlyK g5 n5
    obtain ⟨ob4, eb4⟩ := hb4.there
    exact q _ _ H5 x4 (gd_thing bg (by omega) hi e5 (new_old uu eb4 n5)) (worth_thing i0 i9) (hb4.same s5) a4 (by omega) (uu.trans (same_butK s5))

theorem okDWorthS {f : Addr} {fd : FuncData} (c0 : SaysK more fa fn K) (hm : mg "_law_worth" = some (.ref f)) (F : FnT K 27 "_law_worth" f fd) (T : Tx K mg) {n : Nat} {fdS : FuncData} (GS : FnG P w K mg base CX0 (3 + n) f fdS ["_law_box_here", "_law_deep_here"] (spDWorth n)) (BS : Binds K fdS ["_law_box_here", "_law_deep_here"] []) : FnG P w K mg base CX0 (3 + n + 1) f fd ["_law_box_here", "_law_deep_here"] (spDWorth (n + 1)) := by
  obtain ⟨fdT, FT⟩ : ∃ fd, FnT K 24 "_law_take" (He.ga K "_law_take") fd := law_at c0 10 rfl
  obtain ⟨fdX, FX⟩ : ∃ fd, FnT K 26 "_law_text" (He.ga K "_law_text") fd := law_at c0 12 rfl
  have GT := okTake (P := P) (w := w) (mg := mg) (base := base) FT T
  have GX := okDText (P := P) (w := w) (mg := mg) (base := base) c0 FX T
  have BT : Binds K fdT ["_law_box_here", "_law_many"] [] := FT.bindsN fun _ _ _ _ _ _ us hl => match us, hl with | [_, _], _ => rfl
  have BX : Binds K fdX ["_law_box_here"] [] := FX.bindsN fun _ _ _ _ _ _ us hl => match us, hl with | [_], _ => rfl
  refine fn_ofG (k := 3 + n) F scDWorth (fun vs H Q E h => ?_) (fun cdv A outer s H vs Q E hr hg h => ?_)
  · obtain ⟨b, c, rfl, _⟩ := h.ex
    rfl
  · obtain ⟨b, c, rfl, hb, k0, k1, q⟩ := h.ex
    have hr2 := hr.mono (show 2 ≤ 3 + n by omega)
    have hr1 := hr.mono (show 1 ≤ 3 + n by omega)
    have bg := bb_ge (n + 1)
    have cg := cc_ge (n + 1)
    refine ⟨_, PSs.nox (pss_cons (ps_set (i := 2) scDWorth.nd rfl (Or.inl rfl) (pe_callG GT hr1 hg (by rfl) (T.mgF "_law_take" (by decide +kernel)) FT.kp BT .nil pass0 (pa_cons (pv 0) (pa_cons pe_int pa_nil))))
      (pss_cons (ps_if (pt_cmpR op_eq (pv 2) pe_int (nomark _)) (pss_one (ps_ret pe_non)) pss_nil)
      (pss_cons (ps_if (pt_cmpR op_lt (pv 2) pe_int (nomark _)) (pss_cons (ps_set (i := 3) scDWorth.nd rfl (Or.inl rfl) (pe_op op_pow pe_int pe_int))
        (pss_one (ps_ret (pe_ix ix_list (pe_lst (pa_cons pe_int (pa_cons pe_int (pa_cons (pe_un un_neg pe_int) (pa_cons (pv 3) (pa_cons (pe_op op_sub pe_int (pv 3)) (pa_cons (pe_op op_sub (pe_callG GT hr1 hg (by rfl) (T.mgF "_law_take" (by decide +kernel)) FT.kp BT .nil pass0 (pa_cons (pv 0) (pa_cons (pe_op op_add (pe_op op_mul pe_int (pv 3)) pe_int) pa_nil))) (pv 3)) (pa_cons pe_int pa_nil)))))))) (pe_callG GT hr1 hg (by rfl) (T.mgF "_law_take" (by decide +kernel)) FT.kp BT .nil pass0 (pa_cons (pv 0) (pa_cons pe_int pa_nil))) (fun _ _ => rfl))))) pss_nil)
      (pss_cons (ps_if (pt_cmpR op_lt (pv 2) pe_int (nomark _)) (pss_one (ps_ret (pe_callG GX hr2 hg (by rfl) (T.mgF "_law_text" (by decide +kernel)) FX.kp BX .nil pass0 (pa_cons (pv 0) pa_nil)))) pss_nil)
      (pss_cons (ps_if (PW.pt (pw_or (pt_cmpR op_eq (pv 2) pe_int (nomark _)) (pw_or1 (pt_cmpR op_eq (pv 1) pe_int (nomark _))))) (pss_one (ps_ret (pe_tup (pa_cons pe_str (pa_cons (pe_ix ix_list (pe_lst (pa_cons pe_int (pa_cons pe_int (pa_cons (pe_callG GT hr1 hg (by rfl) (T.mgF "_law_take" (by decide +kernel)) FT.kp BT .nil pass0 (pa_cons (pv 0) (pa_cons pe_int pa_nil))) pa_nil)))) (pe_callG GT hr1 hg (by rfl) (T.mgF "_law_take" (by decide +kernel)) FT.kp BT .nil pass0 (pa_cons (pv 0) (pa_cons pe_int pa_nil))) (fun _ _ => rfl)) pa_nil))))) pss_nil)
      (pss_cons (ps_set (i := 4) scDWorth.nd rfl (Or.inl rfl) (pe_ix ix_list (pe_lst (pa_cons pe_int (pa_cons pe_int (pa_cons pe_int (pa_cons (pe_ix ix_list (pe_lst (pa_cons pe_int (pa_cons pe_int pa_nil))) (pe_callTy call_int1 (by rfl) (T.fre "int" (by simp [frees])) (by decide +kernel) (pa_cons (pe_cmpR op_eq (pv 1) pe_int (nomark _)) pa_nil)) (fun _ _ => rfl)) (pa_cons pe_int pa_nil)))))) (pe_callG GT hr1 hg (by rfl) (T.mgF "_law_take" (by decide +kernel)) FT.kp BT .nil pass0 (pa_cons (pv 0) (pa_cons pe_int pa_nil))) (fun _ _ => rfl)))
      (pss_one (ps_ret (pe_tup (pa_cons pe_str (pa_cons (pe_callTy call_tuple_of (by rfl) (T.fre "tuple" (by simp [frees])) (by decide +kernel) (pa_cons (pe_lc (own := [("_law_k", 5)]) (g := gName 5) (tt := tYes) rfl scDWorth.nd (pi_range1 (by rfl) (T.fre "range" (by simp [frees])) (pa_cons (pv 4) pa_nil)) (blkOk_by (own := [("_law_k", 5)]) (N := NDw) (sc := defScope (top 27)) (by decide +kernel))
        (fun _ _ _ _ _ => pg_name (i := 5) scDWorth.nd rfl (Or.inl rfl)) (fun _ _ _ _ _ => pts_nil)
        (fun _ _ _ _ _ => pe_callG GS hr hg (by rfl) hm F.kp BS .nil pass0 (pa_cons (pv 0) (pa_cons (pe_op op_sub (pv 1) pe_int) pa_nil)))) pa_nil)) pa_nil))))))))))), ?_⟩
    refine ⟨_, rfl, ?_⟩
    dsimp only [tCons, tC, tNil, tCall]
    refine take_end (n := 9) hb k0 (by omega) (by decide) (by decide) fun r x1 H1 r0 r9 hb1 a1 a1' u1 => ?_
    have dI : ∀ i j : Int, decide (V.int i = V.int j) = decide (i = j) := fun i j => by rw [decide_eq_decide]; exact ⟨V.int.inj, fun e => by rw [e]⟩
    refine ⟨_, rfl, rfl, _, rfl, ?_⟩
    rw [dI]
    by_cases w0 : r = 0
    · exact iteC (decide_eq_true w0) (q .non .none H1 x1 (gd_non bg) (worth_plain rfl) hb1 a1 (by omega) u1)
    refine iteE (decide_eq_false w0) ⟨_, rfl, _, _, rfl, rfl, _, rfl, ?_⟩
    by_cases w3 : r < 3
    · refine iteC (decide_eq_true w3) ⟨_, _, rfl, rfl, ⟨by decide, by decide, by decide⟩, ?_⟩
      have e9 : (10 : Int) ^ (9 : Int).toNat = 1000000000 := by decide +kernel
      refine ⟨_, rfl, _, rfl, _, rfl, _, _, rfl, rfl, _, rfl, _, rfl, _, _, rfl, rfl, .inl (by constructor <;> decide), _, _, rfl, rfl, ?_⟩
      dsimp only [tCons, tC, tNil, tCall]
      refine take_end (n := 2000000001) hb1 a1 (by omega) (by decide) (by decide) fun r2 x2 H2 r20 r21 hb2 a2 a2' u2 => ?_
      refine ⟨_, rfl, _, _, rfl, rfl, z100 (by show 7 ≤ 1000; decide), fun p3 n3 => ?_⟩
      generalize g3 : upd _ p3 _ = H3
      obtain ⟨s3, e3⟩ := newlyK g3 n3
      have hb3 := hb2.same s3
      refine ⟨_, rfl, ?_⟩
      dsimp only [tCons, tC, tNil, tCall]
      refine take_end (n := 7) hb3 a2 (by omega) (by decide) (by decide) fun r4 x4 H4 r40 r41 hb4 a4 a4' u4 => ?_
      obtain ⟨ob2, eb2⟩ := hb2.there
      have n3b : p3 ≠ b := fun z => by
        rw [z, eb2] at n3
        cases n3
      have e4 := u4 _ _ e3 fun z => n3b (V.ref.inj z).symm
      obtain ⟨v, hv, mv⟩ := atI_at (xs := [V.int 0, V.int 1, V.int (-1), V.int (10 ^ (9 : Int).toNat), V.int (0 - 10 ^ (9 : Int).toNat), V.int (r2 - 10 ^ (9 : Int).toNat), V.int 10]) r40 (by show r4 < 7; exact r41)
      refine ⟨p3, _, r4, v, rfl, rfl, SqL.of e4, hv, ?_⟩
      have uu : But H H4 (.ref b) := (u1.trans u2).trans ((same_butK s3).trans u4)
      simp only [List.mem_cons, List.not_mem_nil, or_false] at mv
      rcases mv with rfl | rfl | rfl | rfl | rfl | rfl | rfl
      all_goals exact q _ _ H4 x4 (gd_int bg (by first | decide +kernel | omega)) (worth_plain (plain_int (by first | decide +kernel | omega) (by first | decide +kernel | omega))) hb4 a4 (by omega) uu
    refine iteE (decide_eq_false w3) ⟨_, rfl, _, _, rfl, rfl, _, rfl, ?_⟩
    by_cases w5 : r < 5
    · refine iteC (decide_eq_true w5) ⟨_, rfl, ⟨⟨b, x1, rfl, hb1, a1, by omega, fun x H2 x2 ok l60 hb2 a2 a2' u2 => ?_⟩⟩⟩
      exact q _ _ H2 x2 (gd_str bg ok l60) (worth_plain (plain_str ok l60)) hb2 a2 (by omega) (u1.trans u2)
    refine iteE (decide_eq_false w5) ⟨_, rfl, rfl, _, rfl, ?_⟩
    rw [dI]
    by_cases w6 : r = 5
    · refine iteC (decide_eq_true w6) (iteC rfl ?_)
      refine ⟨_, rfl, ?_⟩
      dsimp only [tCons, tC, tNil, tCall]
      refine take_end (n := 1000) hb1 a1 (by omega) (by decide) (by decide) fun r2 x2 H2 r20 r21 hb2 a2 a2' u2 => ?_
      refine ⟨z100 (by show 3 ≤ 1000; decide), fun p3 n3 => ?_⟩
      generalize g3 : upd _ p3 _ = H3
      obtain ⟨s3, e3⟩ := newlyK g3 n3
      have hb3 := hb2.same s3
      refine ⟨_, rfl, ?_⟩
      dsimp only [tCons, tC, tNil, tCall]
      refine take_end (n := 3) hb3 a2 (by omega) (by decide) (by decide) fun r4 x4 H4 r40 r41 hb4 a4 a4' u4 => ?_
      obtain ⟨ob2, eb2⟩ := hb2.there
      have n3b : p3 ≠ b := fun z => by
        rw [z, eb2] at n3
        cases n3
      have e4 := u4 _ _ e3 fun z => n3b (V.ref.inj z).symm
      obtain ⟨v, hv, mv⟩ := atI_at (xs := [V.int 0, V.int 999, V.int r2]) r40 (by show r4 < 3; exact r41)
      refine ⟨p3, _, r4, v, rfl, rfl, SqL.of e4, hv, ?_⟩
      have uu : But H H4 (.ref b) := (u1.trans u2).trans ((same_butK s3).trans u4)
      obtain ⟨i, rfl, hi, i0, i9⟩ : ∃ i : Int, v = .int i ∧ i.natAbs < 10 ^ 12 ∧ 0 ≤ i ∧ i ≤ 999 := by
        simp only [List.mem_cons, List.not_mem_nil, or_false] at mv
        rcases mv with rfl | rfl | rfl
        all_goals exact ⟨_, rfl, by first | decide +kernel | omega, by first | decide +kernel | omega, by first | decide +kernel | omega⟩
      refine ⟨z100 (by show 2 ≤ 1000; decide), fun p5 n5 => ?_⟩
      generalize g5 : upd _ p5 _ = H5
      obtain ⟨s5, e5⟩ := newlyK g5 n5
      obtain ⟨ob4, eb4⟩ := hb4.there
      exact q _ _ H5 x4 (gd_thing bg (by omega) hi e5 (new_old uu eb4 n5)) (worth_thing i0 i9) (hb4.same s5) a4 (by omega) (uu.trans (same_butK s5))
    refine iteE (decide_eq_false w6) ?_
    refine ⟨_, rfl, rfl, _, rfl, ?_⟩
    refine iteE (by rw [decide_eq_false_iff_not]; intro z; have := V.int.inj z; omega) ?_
    -- how many parts
    refine ⟨z100 (by show 2 ≤ 1000; decide), fun p2 n2 => ?_⟩
    generalize g2 : upd _ p2 _ = H2
    obtain ⟨s2, e2⟩ := newlyK g2 n2
    have hb2 := hb1.same s2
    refine ⟨_, rfl, rfl, .inr ⟨_, rfl, ?_⟩⟩
    have hc : atI [V.int 2, V.int 30] (if decide (V.int ((n + 1 : Nat) : Int) = V.int 4) = true then 1 else 0) = some (.int ((cnt (n + 1) : Nat) : Int)) := by
      rw [dI]
      unfold cnt
      by_cases h4 : n + 1 = 4
      · rw [if_pos (decide_eq_true (by omega)), if_pos h4]
        rfl
      · rw [if_neg (by rw [decide_eq_true_eq]; omega), if_neg h4]
        rfl
    refine ⟨p2, _, _, _, rfl, rfl, SqL.of e2, hc, ?_⟩
    refine ⟨z100 (by show 5 ≤ 1000; decide), fun p3 n3 => ?_⟩
    generalize g3 : upd _ p3 _ = H3
    obtain ⟨s3, e3⟩ := newlyK g3 n3
    have hb3 := hb2.same s3
    refine ⟨_, rfl, ?_⟩
    dsimp only [tCons, tC, tNil, tCall]
    refine take_end (n := 5) hb3 a1 (by omega) (by decide) (by decide) fun r4 x4 H4 r40 r41 hb4 a4 a4' u4 => ?_
    obtain ⟨ob2, eb2⟩ := hb2.there
    have n3b : p3 ≠ b := fun z => by
      rw [z, eb2] at n3
      cases n3
    have e4 := u4 _ _ e3 fun z => n3b (V.ref.inj z).symm
    have c30 := cnt_le (n + 1)
    have c2 : 2 ≤ cnt (n + 1) := by unfold cnt; split <;> omega
    obtain ⟨v, hv, mv⟩ := atI_at (xs := [V.int 0, V.int 1, V.int 2, V.int ((cnt (n + 1) : Nat) : Int), V.int 1]) r40 (by show r4 < 5; exact r41)
    refine ⟨p3, _, r4, v, rfl, rfl, SqL.of e4, hv, ?_⟩
    have uu : But H H4 (.ref b) := u1.trans ((same_butK s2).trans ((same_butK s3).trans u4))
    obtain ⟨m, rfl, mc⟩ : ∃ m : Nat, v = .int (m : Int) ∧ m ≤ cnt (n + 1) := by
      simp only [List.mem_cons, List.not_mem_nil, or_false] at mv
      rcases mv with rfl | rfl | rfl | rfl | rfl
      · exact ⟨0, rfl, by omega⟩
      · exact ⟨1, rfl, by omega⟩
      · exact ⟨2, rfl, by omega⟩
      · exact ⟨_, rfl, Nat.le_refl _⟩
      · exact ⟨1, rfl, by omega⟩
    obtain ⟨ob4, eb4⟩ := hb4.there
    have eCC : CC (n + 1) = 100 + cnt (n + 1) * CC n := rfl
    have eBB : BB (n + 1) = 40 + cnt (n + 1) * (BB n + 2) := rfl
    have mul_le : ∀ i, i ≤ m → i * CC n ≤ cnt (n + 1) * CC n := fun i hi => Nat.mul_le_mul_right _ (by omega)
    refine ⟨_, rfl, (m : Int), rfl, by omega, by omega, fun D nD => lc_range (n := (m : Int).toNat) (fun i H' => ∃ (ci : Int) (vs : List V) (ds : List PyData), BoxAt H' b ci ∧ 0 ≤ ci ∧ ci ≤ c + 10 + ((i * CC n : Nat) : Int) ∧ (∀ p o, H4 p = some o → p ≠ b → H' p = some o) ∧ H' D = some (.lst vs) ∧ vs.length = i ∧ GdAll (fun p => H p = none ∧ p ≠ D) H' vs ds (BB n) (2 * n + 1) ∧ ds.all (worthOk n) = true) ?_ (fun i H' hi p => ?_) (fun H' p => ?_)⟩
    · exact ⟨x4, [], [], hb4.same (laidK nD), a4, by omega, fun p o e _ => laidK nD _ _ e, upd_same, rfl, gdAll_nil, rfl⟩
    · obtain ⟨ci, vs, ds, hbi, ci0, ci1, ki, eD, lv, ga, wo⟩ := p
      have im : i ≤ m := by omega
      have ml := mul_le i im
      have ml2 := mul_le (i + 1) (by omega)
      have sm2 : (i + 1) * CC n = i * CC n + CC n := Nat.succ_mul _ _
      have Db : D ≠ b := fun z => by
        rw [← z, nD] at eb4
        cases eb4
      refine ⟨rfl, ?_⟩
      dsimp only [tYes]
      rw [if_pos rfl]
      refine ⟨_, rfl, _, rfl, _, _, rfl, rfl, ⟨⟨b, ci, ?_, hbi, ci0, by omega, fun v d H5 x5 gv wv hb5 a5 a5' u5 => ?_⟩⟩⟩
      · show [V.ref b, V.int (((n + 1 : Nat) : Int) - 1)] = [V.ref b, V.int (n : Int)]
        rw [show (((n + 1 : Nat) : Int) - 1) = (n : Int) by omega]
      have eD5 : H5 D = some (.lst vs) := u5 _ _ eD fun w => Db (V.ref.inj w).symm
      refine ⟨vs, eD5, by rw [lv, sizeLine_eq]; omega, x5, vs ++ [v], ds ++ [d], ?_, a5, by omega, fun p o e nb => ?_, upd_same, by rw [List.length_append, lv]; rfl, ?_, by rw [List.all_append, wo, List.all_cons, wv]; rfl⟩
      · obtain ⟨xx, yy, e, rr⟩ := hb5
        exact ⟨xx, yy, by rw [upd_ne Db.symm]; exact e, rr⟩
      · have nD2 : p ≠ D := fun w => by
          rw [w, nD] at e
          cases e
        rw [upd_ne nD2]
        exact u5 _ _ (ki p o e nb) fun w => nb (V.ref.inj w).symm
      · have kp5 : ∀ p u, (H p = none ∧ p ≠ D) → H5 p = some u → (upd H5 D (.lst (vs ++ [v]))) p = some u := fun p u dp e => by
          rw [upd_ne dp.2]
          exact e
        have kp : ∀ p u, (H p = none ∧ p ≠ D) → H' p = some u → (upd H5 D (.lst (vs ++ [v]))) p = some u := fun p u dp e => kp5 p u dp (u5 p u e fun z => by
          cases z
          obtain ⟨o, eo⟩ := hb.there
          rw [dp.1] at eo
          cases eo)
        have wd : ∀ p, New H' p → (H p = none ∧ p ≠ D) := fun p dp => by
          refine ⟨?_, fun z => ?_⟩
          · cases q2 : H p with
            | none => rfl
            | some o =>
              have pb : p ≠ b := fun z => by
                rw [z] at dp
                obtain ⟨o2, eo⟩ := hbi.there
                rw [show H' b = none from dp] at eo
                cases eo
              have := ki p o (uu p o q2 fun z => pb (V.ref.inj z).symm) pb
              rw [show H' p = none from dp] at this
              cases this
          · rw [z] at dp
            rw [show H' D = none from dp] at eD
            cases eD
        exact GdAll.snoc (ga.keep kp) ((gv.wide wd).keep kp5)
    · obtain ⟨ci, vs, ds, hbi, ci0, ci1, ki, eD, lv, ga, wo⟩ := p
      have ml := mul_le m (Nat.le_refl _)
      have mm : ((m : Int).toNat) = m := by omega
      rw [mm] at lv ci1
      refine ⟨D, vs, rfl, .inl ⟨SqL.of eD, fun p6 n6 => ?_⟩⟩
      generalize g6 : upd _ p6 _ = H6
      obtain ⟨s6, e6⟩ := newlyK g6 n6
      refine ⟨z100 (by show 2 ≤ 1000; decide), fun p7 n7 => ?_⟩
      generalize g7 : upd _ p7 _ = H7
      obtain ⟨s7, e7⟩ := newlyK g7 n7
      have u7 : But H H7 (.ref b) := fun p o e nb => s7 _ _ (s6 _ _ (ki p o (uu p o e nb) fun z => nb (by rw [z])))
      have hb7 := (hbi.same s6).same s7
      obtain ⟨ob7, eb7⟩ := hbi.there
      have uX : But H H' (.ref b) := fun p o e nb => ki p o (uu p o e nb) fun z => nb (by rw [z])
      have n6H : H p6 = none := new_old uX eb7 n6
      have n7H : H p7 = none := new_old (uX.trans (same_butK s6)) (s6 _ _ eb7) n7
      have g7' := (ga.keep fun p u _ e => s7 _ _ (s6 _ _ e))
      have bb : vs.length * (BB n + 2) + 30 ≤ BB (n + 1) := by
        rw [lv, eBB]
        have := Nat.mul_le_mul_right (BB n + 2) mc
        omega
      obtain ⟨S0, z0, _⟩ := ga.ex
      have fr : ∀ S, DzAll H7 vs ds S → (∀ q ∈ S, H q = none ∧ q ≠ D) → True := fun _ _ _ => trivial
      refine q _ _ H7 ci (gd_rowN ga (by omega) bb n6 e6 s6 n7 e7 s7 n6H n7H) (worth_row (by have := dzAll_len z0; omega) wo) hb7 ci0 (by omega) u7

end
end K01

set_option Elab.async false
set_option linter.all false
set_option maxRecDepth 100000
set_option maxHeartbeats 8000000
/-! k01, m: worths drawn, all depths; a row within a row -/
namespace K01
open PySem PySem.Spec L2 KK
open PyProof.Rows hiding St

theorem Gd.wideL {D D' : Addr → Prop} {H : Hp} {v : V} {d : PyData} {B k : Nat} (g : Gd D H v d B k) (h : ∀ p u, D p → H p = some u → D' p) : Gd D' H v d B k := by
  obtain ⟨S, t, z, i, sd, r⟩ := g.ex
  refine ⟨⟨S, t, z, i, fun p m => ?_, r⟩⟩
  obtain ⟨o, e⟩ := z.there p m
  exact h p o (sd p m) e
structure DeepP (vs : List V) (H : Hp) (Q : VK) : Prop where
  ex : ∃ (m : Int), vs = [.int m] ∧ 1 ≤ m ∧ m ≤ 2 ∧ ∀ (v : V) (d : PyData) (H' : Hp), Gd (New H) H' v d 620 9 → Same H H' → Q v H'
def spDeep : Sp := fun vs H Q _ => DeepP vs H Q
section
variable {P : Program} {w : World} {K : PySem.W.Frag} {mg : Str → Option Value} {base : Heap}
theorem okDWorth {f : Addr} {fd : FuncData} (c0 : SaysK more fa fn K) (hm : mg "_law_worth" = some (.ref f)) (F : FnT K 27 "_law_worth" f fd) (T : Tx K mg) : ∀ n, FnG P w K mg base CX0 (3 + n) f fd ["_law_box_here", "_law_deep_here"] (spDWorth n)
  | 0 => okDWorth0 c0 hm F T
  | n + 1 => by
    have B : Binds K fd ["_law_box_here", "_law_deep_here"] [] := F.bindsN fun _ _ _ _ _ _ us hl => match us, hl with | [_, _], _ => rfl
    have z := okDWorthS (n := n) c0 hm F T (okDWorth c0 hm F T n) B
    exact z.mono (by omega)
theorem scDeep : FnScope ["_law_many", "_law_found", "_law_k"] ["_law_many"] (defScope (top 28)) := ⟨rfl, rfl, rfl, by decide +kernel, rfl, by decide +kernel, by decide +kernel⟩
theorem okDeep {f : Addr} {fd : FuncData} (F : FnT K 28 "_law_deep" f fd) (T : Tx K mg) : FnG P w K mg base CX0 1 f fd ["_law_many"] spDeep := by
  refine fn_ofG F scDeep (fun vs H Q E h => ?_) (fun cdv A outer s H vs Q E hr hg h => ?_)
  · obtain ⟨m, rfl, _⟩ := h.ex
    rfl
  · obtain ⟨m, rfl, m1, m2, q⟩ := h.ex
    refine ⟨_, PSs.nox (pss_cons (ps_set (i := 1) scDeep.nd rfl (Or.inl rfl) (pe_tup (pa_cons pe_str (pa_cons (pe_tup pa_nil) pa_nil))))
      (pss_cons (ps_for PassesOwn.never rfl (pi_range1 (by rfl) (T.fre "range" (by simp [frees])) (pa_cons (pe_op op_sub (pv 0) pe_int) pa_nil)) (pg_name (i := 2) scDeep.nd rfl (Or.inl rfl))
        (pss_one (ps_set (i := 1) scDeep.nd rfl (Or.inl rfl) (pe_tup (pa_cons pe_str (pa_cons (pe_tup (pa_cons (pv 1) pa_nil)) pa_nil))))))
      (pss_one (ps_ret (pv 1))))), ?_⟩
    refine ⟨Nat.zero_le _, fun p1 n1 => ?_⟩
    generalize g1 : upd _ p1 _ = H1
    obtain ⟨s1, e1⟩ := newlyK g1 n1
    refine ⟨z100 (by show 2 ≤ 1000; decide), fun p2 n2 => ?_⟩
    generalize g2 : upd _ p2 _ = H2
    obtain ⟨s2, e2⟩ := newlyK g2 n2
    have fresh : ∀ {Ha Hb : Hp} {p : Addr}, Same Ha Hb → Hb p = none → Ha p = none := fun {Ha Hb p} s n => s.free n
    have start0 : Gd (New H) H2 (.ref p2) (.tuple [.str "row", .tuple []]) 100 2 :=
      gd_rowN (D := p1) (B := 0) (k := 0) gdAll_nil (by show 0 ≤ 1000; decide) (by show 0 * (0 + 2) + 30 ≤ 100; decide) n1 e1 s1 n2 e2 s2 n1 (fresh s1 n2)
    refine ⟨_, rfl, _, _, rfl, rfl, m - 1, rfl, by omega, by omega, for_range (fun i σ H' => ∃ v sk, σ = [some (.int m), some v, sk] ∧ Same H H' ∧ ∃ d, Gd (New H) H' v d (100 + i * 100) (2 + 2 * i)) ⟨_, _, rfl, s1.trans s2, _, start0⟩ (fun i σ H' hi p => ?_) (fun σ H' p => ?_)⟩
    · obtain ⟨v, sk, rfl, sH, d, gd⟩ := p
      refine ⟨_, rfl, z100 (by show 1 ≤ 1000; decide), fun p3 n3 => ?_⟩
      generalize g3 : upd _ p3 _ = H3
      obtain ⟨s3, e3⟩ := newlyK g3 n3
      refine ⟨z100 (by show 2 ≤ 1000; decide), fun p4 n4 => ?_⟩
      generalize g4 : upd _ p4 _ = H4
      obtain ⟨s4, e4⟩ := newlyK g4 n4
      have ga : GdAll (fun q => H q = none ∧ q ≠ p3) H' [v] [d] (100 + i * 100) (2 + 2 * i) := GdAll.snoc gdAll_nil (gd.wideL fun p u dp e => ⟨dp, fun z => by rw [z, n3] at e; cases e⟩)
      refine ⟨_, _, rfl, sH.trans (s3.trans s4), _, gd_rowN ga (by show 1 ≤ 1000; decide) (by show 1 * (100 + i * 100 + 2) + 30 ≤ 100 + (i + 1) * 100; omega) n3 e3 s3 n4 e4 s4 (fresh sH n3) (fresh sH (fresh s3 n4))⟩
    · obtain ⟨v, sk, rfl, sH, d, gd⟩ := p
      exact ⟨_, rfl, q v d H' (gd.more (by omega) (by omega)) sH⟩
end
end K01

set_option Elab.async false
set_option linter.all false
set_option maxRecDepth 100000
set_option maxHeartbeats 8000000
/-! k01, n: same, bounds -/
namespace K01
open PySem PySem.Spec L2 KK
open PyProof.Rows hiding St

/-- the very thing against itself: True; a list or a dict gets one late item more -/
def spSame : Sp := fun vs H Q _ => ∃ (D : Addr → Prop) (v : V) (n : Nat), vs = [v, v] ∧ One D H v n ∧ n ≤ 5000 ∧ ∀ H', One D H' v (n + 1) → But H H' v → Q (.bl true) H'
section
variable {P : Program} {w : World} {K : PySem.W.Frag} {mg : Str → Option Value} {base : Heap}
theorem scSame : FnScope ["_law_found", "_law_thing"] ["_law_found", "_law_thing"] (defScope (top 33)) := ⟨rfl, rfl, rfl, by decide +kernel, rfl, by decide +kernel, by decide +kernel⟩
theorem okSame {f : Addr} {fd : FuncData} (F : FnT K 33 "_law_same" f fd) (T : Tx K mg) : FnG P w K mg base CX0 1 f fd ["_law_found", "_law_thing"] spSame := by
  refine fn_ofG F scSame (fun vs H Q E h => ?_) (fun cdv A outer s H vs Q E hr hg h => ?_)
  · obtain ⟨D, v, n, rfl, _⟩ := h
    rfl
  · obtain ⟨D, v, n, rfl, o, hn, q⟩ := h
    have hu := hu_of hr
    refine ⟨_, PSs.nox (pss_cons (ps_if (pt_cmpR op_ne (pe_callB (call_repr T.sm hg hr.units) (by rfl) (T.fre "repr" (by simp [frees])) (by decide +kernel) (pa_cons (pv 0) pa_nil)) (pe_callB (call_repr T.sm hg hr.units) (by rfl) (T.fre "repr" (by simp [frees])) (by decide +kernel) (pa_cons (pv 1) pa_nil)) (nomark _)) (pss_one (ps_ret pe_bl)) pss_nil)
      (pss_cons (ps_if (pt_val (pe_callB call_isi (by rfl) (T.fre "isinstance" (by simp [frees])) boot_isinstance (pa_cons (pv 1) (pa_cons (pe_bltn (v := .ty "list") (by rfl) (T.fre "list" (by simp [frees])) (by decide +kernel) rfl) pa_nil)))) (pss_one (ps_expr (pe_bm PySem.F.plainAttrs_list PySem.F.slot_list_append PySem.F.type_list_append mt_append (pv 1) (pa_cons pe_str pa_nil)))) pss_nil)
      (pss_cons (ps_if (pt_val (pe_callB call_isi (by rfl) (T.fre "isinstance" (by simp [frees])) boot_isinstance (pa_cons (pv 1) (pa_cons (pe_bltn (v := .ty "dict") (by rfl) (T.fre "dict" (by simp [frees])) (by decide +kernel) rfl) pa_nil)))) (pss_one (ps_dput hu (pv 1) pe_str pe_int rfl)) pss_nil)
      (pss_one (ps_ret (pe_cmpR op_eq (pe_callB (call_repr T.sm hg hr.units) (by rfl) (T.fre "repr" (by simp [frees])) (by decide +kernel) (pa_cons (pv 0) pa_nil)) (pe_callB (call_repr T.sm hg hr.units) (by rfl) (T.fre "repr" (by simp [frees])) (by decide +kernel) (pa_cons (pv 1) pa_nil)) (nomark _))))))), ?_⟩
    obtain ⟨d, r1, r2, r3, r4⟩ := One.rep (K := K) o (by omega)
    refine ⟨_, rfl, _, d, rfl, r1, r2, r3, r4, _, rfl, _, d, rfl, r1, r2, r3, r4, rfl, _, rfl, iteNS rfl ?_⟩
    -- the end, whatever was added
    have fin : ∀ H', One D H' v (n + 1) → But H H' v → ∃ d', Dq K H' v d' ∧ d'.showable = true ∧ d'.shown.length ≤ sizeLine ∧ d'.depth ≤ 60 ∧ Q (.bl (decide (V.str d'.shown = V.str d'.shown))) H' := fun H' o' b' => by
      obtain ⟨d', s1, s2, s3, s4⟩ := One.rep (K := K) o' (by omega)
      refine ⟨d', s1, s2, s3, s4, ?_⟩
      rw [decide_eq_true rfl]
      exact q H' o' b'
    have sl : 16000000 ≤ sizeLine := by rw [sizeLine_eq]; decide
    cases o with
    | imm z i sd iv sh ln dp =>
      obtain ⟨n1, n2⟩ := Imm.no (K := K) i
      refine ⟨_, rfl, _, _, _, _, _, rfl, .ty _, i.ty, n1, _, rfl, iteF ?_⟩
      refine ⟨_, rfl, _, _, _, _, _, rfl, .ty _, i.ty, n2, _, rfl, iteF ?_⟩
      obtain ⟨d', s1, s2, s3, s4, q'⟩ := fin H (One.more (.imm z i sd iv sh ln dp) (Nat.le_succ _)) But.refl
      exact ⟨_, rfl, _, d', rfl, s1, s2, s3, s4, _, rfl, _, d', rfl, s1, s2, s3, s4, rfl, q'⟩
    | @lst a xs ds S _ h z ne da sd sh wl ll dp =>
      refine ⟨_, rfl, _, _, _, _, _, rfl, .ty _, .base (.lst h), kit_ty (r := true) (by decide +kernel), _, rfl, iteT ?_⟩
      refine ⟨_, rfl, .inl ⟨rfl, _, SqL.of h⟩, a, _, _, rfl, rfl, h, by omega, ?_⟩
      refine ⟨_, rfl, _, _, _, _, _, rfl, .ty _, .base (.lst upd_same), kit_ty (r := false) (by decide +kernel), _, rfl, iteF ?_⟩
      obtain ⟨d', s1, s2, s3, s4, q'⟩ := fin _ (One.app h z ne da sd sh wl ll dp) upd_but
      exact ⟨_, rfl, _, d', rfl, s1, s2, s3, s4, _, rfl, _, d', rfl, s1, s2, s3, s4, rfl, q'⟩
    | @dic a kvs ps S _ h z ne da sd sh wl ll dp lt =>
      refine ⟨_, rfl, _, _, _, _, _, rfl, .ty _, .base (.dK h), kit_ty (r := false) (by decide +kernel), _, rfl, iteF ?_⟩
      refine ⟨_, rfl, _, _, _, _, _, rfl, .ty _, .base (.dK h), kit_ty (r := true) (by decide +kernel), _, rfl, iteT ?_⟩
      refine ⟨_, rfl, a, _, rfl, DPut.k (k := late) h (by omega), ?_⟩
      obtain ⟨d', s1, s2, s3, s4, q'⟩ := fin _ (One.put h z ne da sd sh wl ll dp lt) upd_but
      exact ⟨_, rfl, _, d', rfl, s1, s2, s3, s4, _, rfl, _, d', rfl, s1, s2, s3, s4, rfl, q'⟩
end

structure BoundP (K : PySem.W.Frag) (vs : List V) (H : Hp) (Q : VK) : Prop where
  ex : ∃ (b : Addr) (c : Int) (v : V) (d : PyData), vs = [.ref b, v] ∧ Dq K H v d ∧ BoxAt H b c ∧ 0 ≤ c ∧ c < 900000 ∧ ∀ (i : Int) (H' : Hp) (c' : Int), BoxAt H' b c' → 0 ≤ c' → c' ≤ c + 3 → But H H' (.ref b) → Q (.int i) H'
def spBound (K : PySem.W.Frag) : Sp := fun vs H Q _ => BoundP K vs H Q
section
variable {P : Program} {w : World} {K : PySem.W.Frag} {mg : Str → Option Value} {base : Heap}
abbrev NBd : List Str := ["_law_box_here", "_law_number", "_law_base"]
theorem scBound : FnScope NBd ["_law_box_here", "_law_number"] (defScope (top 36)) := ⟨rfl, rfl, rfl, by decide +kernel, rfl, by decide +kernel, by decide +kernel⟩
theorem okBound {f : Addr} {fd : FuncData} (c0 : SaysK more fa fn K) (F : FnT K 36 "_law_bound" f fd) (T : Tx K mg) : FnG P w K mg base CX0 2 f fd ["_law_box_here", "_law_number"] (spBound K) := by
  obtain ⟨fdT, FT⟩ : ∃ fd, FnT K 24 "_law_take" (He.ga K "_law_take") fd := law_at c0 10 rfl
  obtain ⟨fdN, FN⟩ : ∃ fd, FnT K 31 "_law_is_number" (He.ga K "_law_is_number") fd := law_at c0 17 rfl
  have GT := okTake (P := P) (w := w) (mg := mg) (base := base) FT T
  have GN := okLNum (P := P) (w := w) (mg := mg) (base := base) FN T
  have BT : Binds K fdT ["_law_box_here", "_law_many"] [] := FT.bindsN fun _ _ _ _ _ _ us hl => match us, hl with | [_, _], _ => rfl
  have BN : Binds K fdN ["_law_thing", "_law_low", "_law_high"] [] := FN.bindsN fun _ _ _ _ _ _ us hl => match us, hl with | [_, _, _], _ => rfl
  refine fn_ofG F scBound (fun vs H Q E h => ?_) (fun cdv A outer s H vs Q E hr hg h => ?_)
  · obtain ⟨b, c, v, d, rfl, _⟩ := h.ex
    rfl
  · obtain ⟨b, c, v, d, rfl, hd, hb, k0, k1, q⟩ := h.ex
    refine ⟨_, PSs.nox (pss_cons (ps_set (i := 2) scBound.nd rfl (Or.inl rfl) (pe_ifExp (pt_val (pe_callG GN hr hg (by rfl) (T.mgF "_law_is_number" (by decide +kernel)) FN.kp BN .nil pass0 (pa_cons (pv 1) (pa_cons (pe_op op_sub pe_int (pe_op op_pow pe_int pe_int)) (pa_cons (pe_op op_pow pe_int pe_int) pa_nil))))) (pv 1) pe_int))
      (pss_one (ps_ret (pe_op op_sub (pe_op op_add (pe_ix ix_list (pe_lst (pa_cons (pv 2) (pa_cons (pv 2) (pa_cons pe_int (pa_cons (pe_op op_sub (pe_callG GT hr hg (by rfl) (T.mgF "_law_take" (by decide +kernel)) FT.kp BT .nil pass0 (pa_cons (pv 0) (pa_cons (pe_op op_pow pe_int pe_int) pa_nil))) (pe_op op_mul pe_int (pe_op op_pow pe_int pe_int))) pa_nil)))))
          (pe_callG GT hr hg (by rfl) (T.mgF "_law_take" (by decide +kernel)) FT.kp BT .nil pass0 (pa_cons (pv 0) (pa_cons pe_int pa_nil))) (fun _ _ => rfl))
        (pe_callG GT hr hg (by rfl) (T.mgF "_law_take" (by decide +kernel)) FT.kp BT .nil pass0 (pa_cons (pv 0) (pa_cons pe_int pa_nil)))) pe_int)))), ?_⟩
    refine ⟨_, rfl, _, _, rfl, rfl, ⟨by decide, by decide, by decide⟩, _, _, rfl, rfl, _, _, rfl, rfl, ⟨by decide, by decide, by decide⟩, ⟨⟨v, d, -(10 ^ 30), 10 ^ 30, by first | rfl | simp, hd, _, rfl, ?_⟩⟩⟩
    -- the rest, whatever the base
    have rest : ∀ (B : Int), tRet (tOp (rI0 fun i j => .int (i - j)) (tOp (rI0 fun i j => .int (i + j)) (tOp (rIxL K) (tLst (tCons (tVar 2) (tCons (tVar 2) (tCons (tC (.int 0)) (tCons (tOp (rI0 fun i j => .int (i - j)) (tCall spTake [] E0 (tCons (tVar 0) (tCons (tOp (rI CPow fun i j => .int (i ^ j.toNat)) (tC (.int 10)) (tC (.int 29))) tNil)))
        (tOp (rI CMul fun i j => .int (i * j)) (tC (.int 5)) (tOp (rI CPow fun i j => .int (i ^ j.toNat)) (tC (.int 10)) (tC (.int 28))))) tNil))))) (tCall spTake [] E0 (tCons (tVar 0) (tCons (tC (.int 4)) tNil)))) (tCall spTake [] E0 (tCons (tVar 0) (tCons (tC (.int 3)) tNil)))) (tC (.int 1)))
        { nx := fun _ H' => Q .non H', rt := Q } [some (.ref b), some v, some (.int B)] H := by
      intro B
      refine ⟨_, rfl, _, rfl, _, rfl, _, _, rfl, rfl, ⟨by decide, by decide, by decide⟩, ?_⟩
      dsimp only [tCons, tC, tNil, tCall]
      refine take_end hb k0 (by omega) (by decide) (by decide) fun r1 x1 H1 r10 r11 hb1 a1 a1' u1 => ?_
      refine ⟨_, _, rfl, rfl, ⟨by decide, by decide, by decide⟩, _, _, rfl, rfl, .inl (by constructor <;> decide), _, _, rfl, rfl, z100 (by show 4 ≤ 1000; decide), fun p3 n3 => ?_⟩
      generalize g3 : upd _ p3 _ = H3
      obtain ⟨s3, e3⟩ := newlyK g3 n3
      have hb3 := hb1.same s3
      refine ⟨_, rfl, ?_⟩
      refine take_end (n := 4) hb3 a1 (by omega) (by decide) (by decide) fun r4 x4 H4 r40 r41 hb4 a4 a4' u4 => ?_
      obtain ⟨ob1, eb1⟩ := hb1.there
      have n3b : p3 ≠ b := fun z => by
        rw [z, eb1] at n3
        cases n3
      have e4 := u4 _ _ e3 fun z => n3b (V.ref.inj z).symm
      obtain ⟨y, hy, my⟩ := atI_at (xs := [V.int B, V.int B, V.int 0, V.int (r1 - 5 * 10 ^ (28 : Int).toNat)]) r40 (by show r4 < 4; exact r41)
      refine ⟨p3, _, r4, y, rfl, rfl, SqL.of e4, hy, ?_⟩
      obtain ⟨i, rfl⟩ : ∃ i : Int, y = .int i := by
        simp only [List.mem_cons, List.not_mem_nil, or_false] at my
        rcases my with rfl | rfl | rfl | rfl
        all_goals exact ⟨_, rfl⟩
      refine ⟨_, rfl, ?_⟩
      refine take_end (n := 3) hb4 a4 (by omega) (by decide) (by decide) fun r5 x5 H5 r50 r51 hb5 a5 a5' u5 => ?_
      refine ⟨_, _, rfl, rfl, _, _, rfl, rfl, ?_⟩
      exact q _ H5 x5 hb5 a5 (by omega) ((u1.trans (same_butK s3)).trans (u4.trans u5))
    cases e : numOk (-(10 ^ 30)) (10 ^ 30) d
    · exact iteE rfl (rest 0)
    · cases hd with
      | int i => exact iteC rfl ⟨_, rfl, rest i⟩
      | _ => cases e
end
end K01

set_option Elab.async false
set_option linter.all false
set_option maxRecDepth 100000
set_option maxHeartbeats 8000000
/-! k01, o: names drawn -/
namespace K01
open PySem PySem.Spec L2 KK
open PyProof.Rows hiding St

/-- a short text of small signs -/
structure Nm (x : Str) (L : Nat) : Prop where
  ok : ∀ z ∈ x.cps.toList, z < 128
  le : x.length ≤ L
theorem Nm.cut {x : Str} {L : Nat} (h : Nm x L) (lo hi : Option Int) : Nm (cutS x lo hi) L := by
  refine ⟨fun z hz => h.ok z ?_, Nat.le_trans (cutS_length x lo hi) h.le⟩
  have e : (cutS x lo hi).cps.toList = (x.cps.toList.drop (HT.sIx x.length 0 lo)).take (HT.sIx x.length x.length hi - HT.sIx x.length 0 lo) := rfl
  rw [e] at hz
  exact List.mem_of_mem_drop (List.mem_of_mem_take hz)
theorem Nm.app {x y : Str} {L M : Nat} (h : Nm x L) (g : Nm y M) : Nm (x ++ y) (L + M) := by
  refine ⟨fun z hz => ?_, ?_⟩
  · have e : (x ++ y).cps.toList = x.cps.toList ++ y.cps.toList := by
      show (x.cps ++ y.cps).toList = _
      rw [Array.toList_append]
    rw [e] at hz
    rcases List.mem_append.mp hz with m | m
    · exact h.ok z m
    · exact g.ok z m
  · rw [Str.length_append]
    exact Nat.add_le_add h.le g.le
theorem Nm.more {x : Str} {L M : Nat} (h : Nm x L) (l : L ≤ M) : Nm x M := ⟨h.ok, Nat.le_trans h.le l⟩
theorem nm_lit {x : Str} {L : Nat} (h : (x.cps.toList.all fun z => decide (z < 128)) = true) (l : x.length ≤ L) : Nm x L := ⟨fun z hz => of_decide_eq_true (List.all_eq_true.mp h z hz), l⟩
theorem nm_one {c : Nat} {x : Str} {L : Nat} (h : Nm x L) (m : c ∈ x.cps.toList) : Nm ⟨#[c]⟩ 1 := ⟨fun z hz => by
  have e : z = c := by simpa using hz
  rw [e]
  exact h.ok c m, Nat.le_refl _⟩
structure NameP (vs : List V) (H : Hp) (Q : VK) : Prop where
  ex : ∃ (b : Addr) (c : Int), vs = [.ref b] ∧ BoxAt H b c ∧ 0 ≤ c ∧ c < 900000 ∧ ∀ (x : Str) (H' : Hp) (c' : Int), Nm x 40 → BoxAt H' b c' → 0 ≤ c' → c' ≤ c + 30 → But H H' (.ref b) → Q (.str x) H'
def spName : Sp := fun vs H Q _ => NameP vs H Q
section
variable {P : Program} {w : World} {K : PySem.W.Frag} {mg : Str → Option Value} {base : Heap}
abbrev NNm : List Str := ["_law_box_here", "_law_letters", "_law_word", "_law_at", "_law_sign", "_law_k"]
theorem scDName : FnScope NNm ["_law_box_here"] (defScope (top 34)) := ⟨rfl, rfl, rfl, by decide +kernel, rfl, by decide +kernel, by decide +kernel⟩
theorem okDName {f : Addr} {fd : FuncData} (c0 : SaysK more fa fn K) (F : FnT K 34 "_law_name" f fd) (T : Tx K mg) : FnG P w K mg base CX0 2 f fd ["_law_box_here"] spName := by
  obtain ⟨fdT, FT⟩ : ∃ fd, FnT K 24 "_law_take" (He.ga K "_law_take") fd := law_at c0 10 rfl
  have GT := okTake (P := P) (w := w) (mg := mg) (base := base) FT T
  have BT : Binds K fdT ["_law_box_here", "_law_many"] [] := FT.bindsN fun _ _ _ _ _ _ us hl => match us, hl with | [_, _], _ => rfl
  refine fn_ofG F scDName (fun vs H Q E h => ?_) (fun cdv A outer s H vs Q E hr hg h => ?_)
  · obtain ⟨b, c, rfl, _⟩ := h.ex
    rfl
  · obtain ⟨b, c, rfl, hb, k0, k1, q⟩ := h.ex
    refine ⟨_, PSs.nox (pss_cons (ps_set (i := 1) scDName.nd rfl (Or.inr rfl) pe_str)
      (pss_cons (ps_set (i := 2) scDName.nd rfl (Or.inl rfl) (pe_join pe_str (pe_lc (own := [("_law_k", 5)]) (g := gName 5) (tt := tYes) rfl scDName.nd (pi_range1 (by rfl) (T.fre "range" (by simp [frees])) (pa_cons (pe_callG GT hr hg (by rfl) (T.mgF "_law_take" (by decide +kernel)) FT.kp BT .nil pass0 (pa_cons (pv 0) (pa_cons pe_int pa_nil))) pa_nil)) (blkOk_by (own := [("_law_k", 5)]) (N := NNm) (sc := defScope (top 34)) (by decide +kernel))
        (fun _ _ _ _ _ => pg_name (i := 5) scDName.nd rfl (Or.inl rfl)) (fun _ _ _ _ _ => pts_nil)
        (fun _ _ _ _ _ => pe_ix ix_str (pv 1) (pe_callG GT hr hg (by rfl) (T.mgF "_law_take" (by decide +kernel)) FT.kp BT .nil pass0 (pa_cons (pv 0) (pa_cons pe_int pa_nil))) (fun _ _ => rfl)))))
      (pss_cons (ps_set (i := 2) scDName.nd rfl (Or.inl rfl) (pe_ix ix_list (pe_lst (pa_cons (pv 2) (pa_cons (pv 2) (pa_cons (pe_ix ix_list (pe_lst (pa_cons pe_str (pa_cons pe_str (pa_cons pe_str (pa_cons pe_str (pa_cons pe_str (pa_cons pe_str pa_nil))))))) (pe_callG GT hr hg (by rfl) (T.mgF "_law_take" (by decide +kernel)) FT.kp BT .nil pass0 (pa_cons (pv 0) (pa_cons pe_int pa_nil))) (fun _ _ => rfl)) pa_nil)))) (pe_callG GT hr hg (by rfl) (T.mgF "_law_take" (by decide +kernel)) FT.kp BT .nil pass0 (pa_cons (pv 0) (pa_cons pe_int pa_nil))) (fun _ _ => rfl)))
      (pss_cons (ps_set (i := 3) scDName.nd rfl (Or.inl rfl) (pe_callG GT hr hg (by rfl) (T.mgF "_law_take" (by decide +kernel)) FT.kp BT .nil pass0 (pa_cons (pv 0) (pa_cons (pe_op op_add (pe_callB call_len_str (by rfl) (T.fre "len" (by simp [frees])) PySem.boot_len (pa_cons (pv 2) pa_nil)) pe_int) pa_nil))))
      (pss_cons (ps_set (i := 4) scDName.nd rfl (Or.inl rfl) (pe_ix ix_str pe_str (pe_callG GT hr hg (by rfl) (T.mgF "_law_take" (by decide +kernel)) FT.kp BT .nil pass0 (pa_cons (pv 0) (pa_cons pe_int pa_nil))) (fun _ _ => rfl)))
      (pss_one (ps_ret (pe_ix ix_list (pe_lst (pa_cons (pv 2) (pa_cons (pv 2) (pa_cons (pe_op op_add_str (pe_op op_add_str (pe_slice sl_str (pv 2) po_none (po_some (pv 3))) (pv 4)) (pe_slice sl_str (pv 2) (po_some (pv 3)) po_none)) (pa_cons (pe_op op_add_str (pe_op op_add_str (pe_slice sl_str (pv 2) po_none (po_some (pv 3))) (pv 4)) (pe_slice sl_str (pv 2) (po_some (pe_op op_add (pv 3) pe_int)) po_none)) pa_nil))))) (pe_callG GT hr hg (by rfl) (T.mgF "_law_take" (by decide +kernel)) FT.kp BT .nil pass0 (pa_cons (pv 0) (pa_cons pe_int pa_nil))) (fun _ _ => rfl))))))))), ?_⟩
    refine ⟨⟨_, rfl⟩, _, rfl, ?_⟩
    dsimp only [tCons, tC, tNil, tCall]
    refine take_end (n := 10) hb k0 (by omega) (by decide) (by decide) fun m x1 H1 m0 m10 hb1 a1 a1' u1 => ?_
    have lt : ∀ z ∈ lettersS.cps.toList, z < 128 := by decide +kernel
    have ll : lettersS.length = 26 := by decide +kernel
    refine ⟨m, rfl, by omega, by omega, fun D nD => lc_range (n := m.toNat) (fun i H' => ∃ (ci : Int) (cs : List Nat), BoxAt H' b ci ∧ 0 ≤ ci ∧ ci ≤ c + 1 + i ∧ (∀ p o, H1 p = some o → p ≠ b → H' p = some o) ∧ H' D = some (.lst (cs.map fun z => .str ⟨#[z]⟩)) ∧ cs.length = i ∧ ∀ z ∈ cs, z < 128) ?_ (fun i H' hi p => ?_) (fun H' p => ?_)⟩
    · exact ⟨x1, [], hb1.same (laidK nD), a1, by omega, fun p o e _ => laidK nD _ _ e, upd_same, rfl, nofun⟩
    · obtain ⟨ci, cs, hbi, ci0, ci1, ki, eD, lc, ok⟩ := p
      have Db : D ≠ b := fun z => by
        obtain ⟨o, e⟩ := hb1.there
        rw [← z, nD] at e
        cases e
      refine ⟨rfl, ?_⟩
      dsimp only [tYes]
      rw [if_pos rfl]
      refine ⟨_, rfl, _, rfl, ?_⟩
      dsimp only [tCons, tC, tNil, tCall]
      refine take_end (n := 26) hbi ci0 (by omega) (by decide) (by decide) fun r x H5 r0 r1 hb5 a5 a5' u5 => ?_
      obtain ⟨z, hz, mz⟩ := atI_at (xs := lettersS.cps.toList) r0 (by have e := ll; rw [Array.length_toList]; show r < ((lettersS.length : Nat) : Int); rw [e]; exact r1)
      refine ⟨lettersS, r, z, by rw [← letters_eq], rfl, by rw [ll]; exact z100 (by decide), hz, ?_⟩
      have eD5 : H5 D = some (.lst (cs.map fun z => .str ⟨#[z]⟩)) := u5 _ _ eD fun w => Db (V.ref.inj w).symm
      refine ⟨_, eD5, by rw [List.length_map, lc, sizeLine_eq]; omega, x, cs ++ [z], ?_, a5, by omega, fun p o e nb => ?_, ?_, by rw [List.length_append, lc]; rfl, fun y hy => ?_⟩
      · obtain ⟨xx, yy, e, rr⟩ := hb5
        exact ⟨xx, yy, by rw [upd_ne Db.symm]; exact e, rr⟩
      · have nD2 : p ≠ D := fun w => by
          rw [w, nD] at e
          cases e
        rw [upd_ne nD2]
        exact u5 _ _ (ki p o e nb) fun w => nb (V.ref.inj w).symm
      · rw [upd_same, List.map_append]
        rfl
      · rcases List.mem_append.mp hy with hy | hy
        · exact ok y hy
        · rw [List.mem_singleton.mp hy]
          exact lt z mz
    obtain ⟨ci, cs, hbi, ci0, ci1, ki, eD, lc, ok⟩ := p
    have mm : (m.toNat : Int) = m := by omega
    refine ⟨_, D, cs.map fun z => ⟨#[z]⟩, rfl, rfl, .inl (SqL.of (by rw [eD, List.map_map]; rfl)), ?_, ?_⟩
    · have e0 : (Str.ofString "").length = 0 := by decide
      rw [e0, sum_ones]
      omega
    rw [join_signs]
    have w0 : Nm ⟨cs.toArray⟩ 10 := ⟨fun z hz => ok z (by simpa using hz), by show cs.toArray.size ≤ 10; rw [List.size_toArray]; omega⟩
    generalize hw : (⟨cs.toArray⟩ : Str) = word at w0
    have uu : But H H' (.ref b) := fun p o e nb => ki p o (u1 p o e nb) fun w => nb (by rw [w])
    clear eD ok lc
    -- the word
    refine ⟨_, rfl, _, rfl, z100 (by show 6 ≤ 1000; decide), fun p2 n2 => ?_⟩
    generalize g2 : upd _ p2 _ = H2
    obtain ⟨s2, e2⟩ := newlyK g2 n2
    have hb2 := hbi.same s2
    refine ⟨_, rfl, ?_⟩
    dsimp only [tCons, tC, tNil, tCall]
    refine take_end (n := 6) hb2 ci0 (by omega) (by decide) (by decide) fun r3 x3 H3 r30 r31 hb3 a3 a3' u3 => ?_
    obtain ⟨ob2, eb2⟩ := hbi.there
    have n2b : p2 ≠ b := fun z => by
      rw [z, eb2] at n2
      cases n2
    have e3 := u3 _ _ e2 fun z => n2b (V.ref.inj z).symm
    obtain ⟨y3, hy3, my3⟩ := atI_at (xs := [V.str "me", V.str "here", V.str "none", V.str "m", V.str "hered", V.str "on"]) r30 (by show r3 < 6; exact r31)
    obtain ⟨w3, rfl, nw3⟩ : ∃ x : Str, y3 = .str x ∧ Nm x 10 := by
      simp only [List.mem_cons, List.not_mem_nil, or_false] at my3
      rcases my3 with rfl | rfl | rfl | rfl | rfl | rfl
      all_goals exact ⟨_, rfl, nm_lit (by decide +kernel) (by decide +kernel)⟩
    refine ⟨p2, _, r3, _, rfl, rfl, SqL.of e3, hy3, z100 (by show 3 ≤ 1000; decide), fun p4 n4 => ?_⟩
    generalize g4 : upd _ p4 _ = H4
    obtain ⟨s4, e4⟩ := newlyK g4 n4
    have hb4 := hb3.same s4
    refine ⟨_, rfl, ?_⟩
    dsimp only [tCons, tC, tNil, tCall]
    refine take_end (n := 3) hb4 a3 (by omega) (by decide) (by decide) fun r5 x5 H5 r50 r51 hb5 a5 a5' u5 => ?_
    obtain ⟨ob4, eb4⟩ := hb3.there
    have n4b : p4 ≠ b := fun z => by
      rw [z, eb4] at n4
      cases n4
    have e5 := u5 _ _ e4 fun z => n4b (V.ref.inj z).symm
    obtain ⟨y5, hy5, my5⟩ := atI_at (xs := [V.str word, V.str word, V.str w3]) r50 (by show r5 < 3; exact r51)
    obtain ⟨wd, rfl, nwd⟩ : ∃ x : Str, y5 = .str x ∧ Nm x 10 := by
      simp only [List.mem_cons, List.not_mem_nil, or_false] at my5
      rcases my5 with rfl | rfl | rfl
      · exact ⟨_, rfl, w0⟩
      · exact ⟨_, rfl, w0⟩
      · exact ⟨_, rfl, nw3⟩
    refine ⟨p4, _, r5, _, rfl, rfl, SqL.of e5, hy5, ?_⟩
    have wl := nwd.le
    -- the place, the sign
    refine ⟨_, rfl, _, rfl, wd, rfl, by rw [sizeLine_eq]; omega, _, _, rfl, rfl, ?_⟩
    dsimp only [tCons, tC, tNil, tCall]
    refine take_end hb5 a5 (by omega) (by omega) (by have : ((wd.length : Int) + 1).natAbs ≤ 11 := by omega
                                                     exact Nat.lt_of_le_of_lt this (by decide +kernel)) fun r6 x6 H6 r60 r61 hb6 a6 a6' u6 => ?_
    refine ⟨_, rfl, ?_⟩
    dsimp only [tCons, tC, tNil, tCall]
    refine take_end (n := 7) hb6 a6 (by omega) (by decide) (by decide) fun r7 x7 H7 r70 r71 hb7 a7 a7' u7 => ?_
    have n7 : Nm (Str.ofString "aZ0 _-.") 7 := nm_lit (by decide +kernel) (by decide +kernel)
    obtain ⟨sg, hsg, msg⟩ := atI_at (xs := (Str.ofString "aZ0 _-.").cps.toList) r70 (by show r7 < 7; exact r71)
    refine ⟨_, r7, sg, rfl, rfl, z100 (by decide +kernel), hsg, ?_⟩
    have nsg := nm_one n7 msg
    have cutp : ∀ lo hi, Nm (cutS wd lo hi) 10 := fun lo hi => nwd.cut lo hi
    have small : ∀ {x : Str} {L : Nat}, Nm x L → L ≤ 100 → x.length ≤ sizeLine := fun {x L} h l => by
      have := h.le
      rw [sizeLine_eq]
      omega
    have cl : ∀ lo hi, (cutS wd lo hi).length ≤ 10 := fun lo hi => (cutp lo hi).le
    have ol : (⟨#[sg]⟩ : Str).length = 1 := rfl
    have sw := small nwd (by decide)
    have n3 : ∀ lo hi lo2 hi2, Nm (cutS wd lo hi ++ ⟨#[sg]⟩ ++ cutS wd lo2 hi2) 21 := fun lo hi lo2 hi2 => (((cutp lo hi).app nsg).app (cutp lo2 hi2))
    have l2 : ∀ lo hi, (cutS wd lo hi).length + (⟨#[sg]⟩ : Str).length ≤ sizeLine := fun lo hi => by
      have := cl lo hi
      rw [ol, sizeLine_eq]
      omega
    have l3 : ∀ lo hi lo2 hi2, (cutS wd lo hi ++ ⟨#[sg]⟩).length + (cutS wd lo2 hi2).length ≤ sizeLine := fun lo hi lo2 hi2 => by
      have h1 := ((cutp lo hi).app nsg).le
      have h2 := cl lo2 hi2
      rw [sizeLine_eq]
      omega
    refine ⟨_, rfl, _, rfl, ?_⟩
    refine ⟨_, rfl, _, rfl, _, rfl, wd, rfl, sw, _, rfl, _, _, rfl, rfl, l2 _ _, ?_⟩
    refine ⟨_, rfl, _, rfl, _, rfl, wd, rfl, sw, _, _, rfl, rfl, l3 _ _ _ _, ?_⟩
    refine ⟨_, rfl, _, rfl, _, rfl, wd, rfl, sw, _, rfl, _, _, rfl, rfl, l2 _ _, ?_⟩
    refine ⟨_, rfl, _, rfl, _, _, rfl, rfl, _, rfl, wd, rfl, sw, _, _, rfl, rfl, l3 _ _ _ _, ?_⟩
    refine ⟨z100 (by show 4 ≤ 1000; decide), fun p8 n8 => ?_⟩
    generalize g8 : upd _ p8 _ = H8
    obtain ⟨s8, e8⟩ := newlyK g8 n8
    have hb8 := hb7.same s8
    refine ⟨_, rfl, ?_⟩
    dsimp only [tCons, tC, tNil, tCall]
    refine take_end (n := 4) hb8 a7 (by omega) (by decide) (by decide) fun r9 x9 H9 r90 r91 hb9 a9 a9' u9 => ?_
    obtain ⟨ob7, eb7⟩ := hb7.there
    have n8b : p8 ≠ b := fun z => by
      rw [z, eb7] at n8
      cases n8
    have e9 := u9 _ _ e8 fun z => n8b (V.ref.inj z).symm
    obtain ⟨y9, hy9, my9⟩ := atI_at (xs := [V.str wd, V.str wd, V.str _, V.str _]) r90 (by show r9 < 4; exact r91)
    obtain ⟨w9, rfl, nw9⟩ : ∃ x : Str, y9 = .str x ∧ Nm x 40 := by
      simp only [List.mem_cons, List.not_mem_nil, or_false] at my9
      rcases my9 with rfl | rfl | rfl | rfl
      · exact ⟨_, rfl, nwd.more (by decide)⟩
      · exact ⟨_, rfl, nwd.more (by decide)⟩
      · exact ⟨_, rfl, (n3 none (some r6) (some r6) none).more (by decide)⟩
      · exact ⟨_, rfl, (n3 none (some r6) (some (r6 + 1)) none).more (by decide)⟩
    refine ⟨p8, _, r9, _, rfl, rfl, SqL.of e9, hy9, ?_⟩
    exact q w9 H9 x9 nw9 hb9 a9 (by omega) (uu.trans ((same_butK s2).trans (u3.trans ((same_butK s4).trans (u5.trans (u6.trans (u7.trans ((same_butK s8).trans u9))))))))
end
end K01

set_option Elab.async false
set_option linter.all false
set_option maxRecDepth 100000
set_option maxHeartbeats 8000000
/-! k01, p: the refusal made and raised -/
namespace K01
open PySem PySem.Spec L2 KK
open PyProof.Rows hiding St

theorem xof {K : PySem.W.Frag} {mg : Str → Option Value} (T : Tx K mg) {i : Nat} (h : i < 3) (n : i ≠ 1) : XOf K (CA K i) "ValueError" "ValueError.__init__" := by
  have x := T.xc i h
  unfold bmAt nwAt at x
  rw [if_neg n, if_neg n] at x
  exact ⟨_, _, _, xbV, x⟩
def spFam (K : PySem.W.Frag) : Sp := fun vs H Q _ => ∃ (a : Addr) (i : Nat) (z : Str), vs = [.ref a, .str z] ∧ i < 3 ∧ i ≠ 1 ∧ H a = some (exo a (CA K i) none) ∧ Q .non H
def spNo (K : PySem.W.Frag) : Sp := fun vs H Q _ => ∃ (a : Addr) (v : V), vs = [.ref a, v] ∧ H a = some (exo a (CA K 2) none) ∧
  ∀ dx, H dx = none → dx ≠ a → Q .non (upd (upd H dx (exd dx [("found", v)])) a (exo a (CA K 2) (some dx)))
abbrev FnI (K : PySem.W.Frag) (i : Nat) (f : Addr) (fd : FuncData) : Prop := FunD K "__init__" (nmAt i ++ ".__init__") (defArgs (iS i)) (defBody (iS i)) (defScope (iS i)) [] [] f fd
/-- what makes an exception, with or without fields, as it is raised -/
theorem pmk_kD {K : PySem.W.Frag} {X : Cx} {e : Expr} {te : TE} {H0 : Hp} (h0 : X.H_0 = H0) (hK : X.K = K) (hx : X.ex = []) (he : PE X e te) :
    PMk X e (fun σ H Q => te σ H fun x H1 => ∃ (a C : Addr) (dv : Option Addr), x = .ref a ∧ H1 a = some (exo a C dv) ∧ H0 a = none ∧ (∃ bmB newId, XC K C bmB newId) ∧ Q (.ref C) dv (delH H1 a)) := by
  subst h0
  subst hK
  intro pins s σ H Q I h
  refine wpAny_mono (he.run pins s σ H _ I h) (fun u s1 hu => ?_) fun _ _ x => x
  obtain ⟨v, H1, I1, r1, a, C, dv, rfl, ha, h0, ⟨bmB, newId, hr⟩, q⟩ := hu
  cases r1
  obtain ⟨t1, ho⟩ := exo_at I1.hok ha
  obtain ⟨φ, eφ⟩ := exo_ext (e := a) (C := C) (d := dv)
  have ha' := ha
  rw [eφ] at ha'
  obtain ⟨G, gs, ga, J⟩ := I1.untrack ha' (fr0_none h0) hx
  exact ⟨a, _, _, { s1 with heap := G }, delH H1 a, .ref C, dv, rfl, J, gs, ga, ho, ⟨rfl, rfl⟩, rfl, rfl, delH_same, rfl, I1.bare, hr.raises, q⟩
theorem ps_raiseD {K : PySem.W.Frag} {X : Cx} {W : WX} {e : Expr} {te : TE} {pos : Pos} {H0 : Hp} (h0 : X.H_0 = H0) (hK : X.K = K) (hc : X.calm = true) (tk : Takes X W) (hx : X.ex = []) (he : PE X e te) :
    PS X (.Raise (some e) none pos) (fun _ σ H => te σ H fun x H1 => ∃ (a C : Addr) (dv : Option Addr), x = .ref a ∧ H1 a = some (exo a C dv) ∧ H0 a = none ∧ (∃ bmB newId, XC K C bmB newId) ∧ W (.ref C) dv σ (delH H1 a)) := ps_raise hc tk (pmk_kD h0 hK hx he)
/-- told: a worth or the refusal of the very thing -/
structure CheckP (K : PySem.W.Frag) (vs : List V) (H : Hp) (Q : VK) (E : XK) : Prop where
  ex : ∃ (v : V) (d : PyData), vs = [v] ∧ Dq K H v d ∧ smD d = true ∧ (worthOk 4 d = true → ∀ H', Same H H' → Q .non H') ∧
    (worthOk 4 d = false → ∀ (dx : Addr) (H' : Hp), Same H H' → H' dx = some (exd dx [("found", v)]) → E (.ref (CA K 2)) (some dx) H')
def spCheck (K : PySem.W.Frag) : Sp := fun vs H Q E => CheckP K vs H Q E
section
variable {P : Program} {w : World} {K : PySem.W.Frag} {mg : Str → Option Value} {base : Heap}
theorem scM0 : FnScope ["self", "text"] ["self", "text"] (defScope (iS 0)) := ⟨rfl, rfl, rfl, by decide +kernel, rfl, by decide +kernel, by decide +kernel⟩
theorem okM0 {f : Addr} {fd : FuncData} (F : FnI K 0 f fd) (T : Tx K mg) : FnG P w K mg base CX0 1 f fd ["self", "text"] (spFam K) := by
  refine fn_ofG F scM0 (fun vs H Q E h => ?_) (fun cdv A outer s H vs Q E hr hg h => ?_)
  · obtain ⟨a, i, z, rfl, _⟩ := h
    rfl
  · obtain ⟨a, i, z, rfl, hi, hf, ha, q⟩ := h
    refine ⟨_, PSs.nox (pss_one (ps_expr (pe_kinit (B := "ValueError") (initId := "ValueError.__init__") (by kernel_rfl) (by decide +kernel) (by rfl) (T.fre "ValueError" (by simp [frees])) (by decide +kernel) (by decide +kernel) T.vV (pa_cons (pv 0) (pa_cons (pv 1) pa_nil))))), ?_⟩
    exact ⟨_, rfl, _, rfl, a, CA K i, [.str z], rfl, by show 1 ≤ 1000; decide, xof T hi hf, ha, q⟩
theorem scNo : FnScope ["self", "found"] ["self", "found"] (defScope (iS 2)) := ⟨rfl, rfl, rfl, by decide +kernel, rfl, by decide +kernel, by decide +kernel⟩
theorem okNo {f : Addr} {fd fdF : FuncData} (F : FnI K 2 f fd) (T : Tx K mg) (G : FnG P w K mg base CX0 1 (IA K 0) fdF ["self", "text"] (spFam K)) (bG : Binds K fdF ["self", "text"] []) : FnG P w K mg base CX0 2 f fd ["self", "found"] (spNo K) := by
  refine fn_ofG F scNo (fun vs H Q E h => ?_) (fun cdv A outer s H vs Q E hr hg h => ?_)
  · obtain ⟨a, v, rfl, _⟩ := h
    rfl
  · obtain ⟨a, v, rfl, ha, q⟩ := h
    refine ⟨_, PSs.nox (pss_cons (ps_expr (pe_kown (T.rd 0 (by decide)) G hr hg bG pass0 (by rfl) (T.mgC 0 (by decide)) (pa_cons (pv 0) (pa_cons pe_str pa_nil)))) (pss_one (ps_kst (pv 0) (pv 1)))), ?_⟩
    exact ⟨_, rfl, a, 2, _, rfl, by decide, by decide, ha, _, rfl, _, rfl, a, CA K 2, rfl, ⟨_, _, xof T (by decide) (by decide)⟩, T.nof 2 (by decide) "found" (by decide +kernel), .inl ⟨ha, q⟩⟩
theorem scCheck : FnScope ["thing"] ["thing"] (defScope (top 20)) := ⟨rfl, rfl, rfl, by decide +kernel, rfl, by decide +kernel, by decide +kernel⟩
theorem okCheck {f : Addr} {fd : FuncData} (c0 : SaysK more fa fn K) (F : FnT K 20 "_check_worth" f fd) (T : Tx K mg) : FnG P w K mg base (CX P w) 9 f fd ["thing"] (spCheck K) := by
  obtain ⟨fdW, FW⟩ : ∃ fd, FnT K 17 "is_worth" (He.ga K "is_worth") fd := law_at c0 4 rfl
  have GW := okWorth (P := P) (w := w) (mg := mg) (base := base) c0 FW T
  have BW : Binds K fdW ["thing"] [] := FW.bindsN fun _ _ _ _ _ _ us hl => match us, hl with | [_], _ => rfl
  obtain ⟨fd0, F0⟩ := def_at c0 (i := 0) (by decide)
  obtain ⟨fd2, F2⟩ := def_at c0 (i := 2) (by decide)
  have b0 : Binds K fd0 ["self", "text"] [] := F0.bindsN fun _ _ _ _ _ _ us hl => match us, hl with | [_, _], _ => rfl
  have b2 : Binds K fd2 ["self", "found"] [] := F2.bindsN fun _ _ _ _ _ _ us hl => match us, hl with | [_, _], _ => rfl
  have G2 := okNo (P := P) (w := w) (base := base) F2 T (okM0 F0 T) b0
  refine fn_ofG F scCheck (fun vs H Q E h => ?_) (fun cdv A outer s H vs Q E hr hg h => ?_)
  · obtain ⟨v, d, rfl, _⟩ := h.ex
    rfl
  · obtain ⟨v, d, rfl, hd, sm, q, x⟩ := h.ex
    refine ⟨_, pss_one (ps_if (pt_not (pt_val (pe_callG GW hr hg (by rfl) (T.mgF "is_worth" (by decide +kernel)) FW.kp BW .nil pass0 (pa_cons (pv 0) pa_nil))))
      (pss_one (ps_raiseD (K := K) (H0 := H) rfl rfl rfl (takes_of rfl rfl rfl rfl) rfl (pe_kmk (xof T (i := 2) (by decide) (by decide)) (T.xc 2 (by decide)).kC (T.ini 2 (by decide)) (T.tyI 2 (by decide)) G2 (hr.mono (show 3 ≤ 8 by decide)) hg b2 pass0 (by rfl) (T.mgC 2 (by decide)) (pa_cons (pv 0) pa_nil)))) pss_nil), ?_⟩
    refine ⟨_, rfl, ⟨⟨v, d, rfl, hd, sm, fun H1 s1 => ⟨_, rfl, ?_⟩⟩⟩⟩
    cases e : worthOk 4 d
    · refine iteC rfl ⟨_, rfl, by show 1 ≤ 1000; decide, fun a n => ⟨a, v, rfl, upd_same, fun dx ndx ne => ⟨rfl, ?_⟩⟩⟩
      have nd : H1 dx = none := by
        rw [upd_ne ne] at ndx
        exact ndx
      refine ⟨a, CA K 2, some dx, rfl, upd_same, s1.free n, ⟨_, _, T.xc 2 (by decide)⟩, ?_⟩
      refine x e dx _ (fun b o eb => ?_) ?_
      · have h1 := s1 b o eb
        have nb : b ≠ a := ne_of_none h1 n
        have nb2 : b ≠ dx := ne_of_none h1 nd
        unfold delH
        rw [if_neg nb, upd_ne nb, upd_ne nb2, upd_ne nb]
        exact h1
      · unfold delH
        rw [if_neg ne, upd_ne ne, upd_same]
    · exact iteE rfl (q e H1 s1)
end
end K01

set_option Elab.async false
set_option linter.all false
set_option maxRecDepth 100000
set_option maxHeartbeats 8000000
/-! k01, q: says_yes -/
namespace K01
open PySem PySem.Spec L2 KK
open PyProof.Rows hiding St

def yesD : PyData → Bool
  | .none => false
  | .int i => decide (i ≠ 0)
  | _ => true
mutual
/-- no dict within -/
def ndD : PyData → Bool
  | .tuple ds => ndAll ds
  | .list ds => ndAll ds
  | .dict _ => false
  | .none => true
  | .bool _ => true
  | .int _ => true
  | .str _ => true
def ndAll : List PyData → Bool
  | [] => true
  | d :: r => ndD d && ndAll r
end
mutual
theorem dq_dp {K : PySem.W.Frag} {H : Hp} : ∀ {v : V} {d : PyData}, Dq K H v d → ndD d = true → Dp K H v d
  | _, _, .non, _ => .non
  | _, _, .bl b, _ => .bl b
  | _, _, .int i, _ => .int i
  | _, _, .str x, _ => .str x
  | _, _, .lst h ha, n => .lst h (dq_dpAll ha (by simpa only [ndD] using n))
  | _, _, .tup h ha, n => .tup h (dq_dpAll ha (by simpa only [ndD] using n))
  | _, _, .dic h ha, n => by simp only [ndD] at n; cases n
theorem dq_dpAll {K : PySem.W.Frag} {H : Hp} : ∀ {vs : List V} {ds : List PyData}, DqAll K H vs ds → ndAll ds = true → DpAll K H vs ds
  | _, _, .nil, _ => .nil
  | _, _, .cons h r, n => by
    simp only [ndAll, Bool.and_eq_true] at n
    exact .cons (dq_dp h n.1) (dq_dpAll r n.2)
end
structure YesP (K : PySem.W.Frag) (vs : List V) (H : Hp) (Q : VK) (E : XK) : Prop where
  ex : ∃ (v : V) (d : PyData), vs = [v] ∧ Dq K H v d ∧ smD d = true ∧ (worthOk 4 d = true → ndD d = true ∧ SeqAt.shaped d = true ∧ ∀ H', Same H H' → Q (.bl (yesD d)) H') ∧
    (worthOk 4 d = false → ∀ (dx : Addr) (H' : Hp), Same H H' → H' dx = some (exd dx [("found", v)]) → E (.ref (CA K 2)) (some dx) H')
def spYes (K : PySem.W.Frag) : Sp := fun vs H Q E => YesP K vs H Q E
section
variable {P : Program} {w : World} {K : PySem.W.Frag} {mg : Str → Option Value} {base : Heap}
theorem scYes : FnScope ["worth"] ["worth"] (defScope (top 19)) := ⟨rfl, rfl, rfl, by decide +kernel, rfl, by decide +kernel, by decide +kernel⟩
theorem okYes {f : Addr} {fd : FuncData} (c0 : SaysK more fa fn K) (F : FnT K 19 "says_yes" f fd) (T : Tx K mg) : FnG P w K mg base (CX P w) 10 f fd ["worth"] (spYes K) := by
  obtain ⟨fdC, FC⟩ : ∃ fd, FnT K 20 "_check_worth" (He.ga K "_check_worth") fd := law_at c0 7 rfl
  have GC := okCheck (P := P) (w := w) (mg := mg) (base := base) c0 FC T
  have BC : Binds K fdC ["thing"] [] := FC.bindsN fun _ _ _ _ _ _ us hl => match us, hl with | [_], _ => rfl
  refine fn_ofG F scYes (fun vs H Q E h => ?_) (fun cdv A outer s H vs Q E hr hg h => ?_)
  · obtain ⟨v, d, rfl, _⟩ := h.ex
    rfl
  · obtain ⟨v, d, rfl, hd, sm, q, x⟩ := h.ex
    have hu := hr.units
    refine ⟨_, pss_cons (ps_expr (pe_callG GC hr hg (by rfl) (T.mgF "_check_worth" (by decide +kernel)) FC.kp BC .nil (passes_call (E := E) (takes_of rfl rfl rfl rfl) (fun _ _ _ _ h => h)) (pa_cons (pv 0) pa_nil)))
      (pss_one (ps_ret (pe_and (pe_cmp (pc_notN (pv 0))) (pe_one (pe_cmpR (op_neD hu) (pv 0) pe_int (nomark _)))))), ?_⟩
    refine ⟨_, rfl, ⟨⟨v, d, rfl, hd, sm, fun e H1 s1 => ?_, x⟩⟩⟩
    obtain ⟨n1, n2, q1⟩ := q e
    have z := q1 H1 s1
    refine ⟨_, rfl, _, rfl, ?_⟩
    rw [dq_non hd]
    have hd1 := hd.same s1
    cases d with
    | none => exact iteE rfl z
    | int i =>
      refine iteC rfl ⟨_, rfl, _, .int 0, dq_dp hd1 n1, .int 0, n2, by decide +kernel, ?_⟩
      have e2 : (!PyData.eqv (.int i) (.int 0)) = yesD (.int i) := by
        show (!PyData.eqv (.int i) (.int 0)) = decide (i ≠ 0)
        simp [PyData.eqv]
        rfl
      rw [e2]
      exact z
    | str y => exact iteC rfl ⟨_, rfl, _, .int 0, dq_dp hd1 n1, .int 0, n2, by decide +kernel, z⟩
    | tuple ds => exact iteC rfl ⟨_, rfl, _, .int 0, dq_dp hd1 n1, .int 0, n2, by decide +kernel, z⟩
    | bool b => cases e
    | list ds => cases e
    | dict ps => cases e
end
end K01

set_option Elab.async false
set_option linter.all false
set_option maxRecDepth 100000
set_option maxHeartbeats 8000000
/-! k01, r: a worth with one thing otherwise -/
namespace K01
open PySem PySem.Spec L2 KK
open PyProof.Rows hiding St

def keyOk : PyData × PyData → Bool
  | (.str x, _) => decide (x ≠ "late")
  | _ => true
def topOk : PyData → Bool
  | .list ds => decide (ds.length ≤ 50)
  | .dict ps => decide (ps.length ≤ 50) && ps.all keyOk
  | _ => true
/-- a thing as the law hands it in -/
structure Th (D : Addr → Prop) (H : Hp) (v : V) (d : PyData) (B k : Nat) : Prop where
  ex : ∃ S, Dz H v d S ∧ ∀ p ∈ S, D p
  sm : smD d = true
  sh : d.showable = true
  wd : W d ≤ B
  dp : d.depth ≤ k
  tp : topOk d = true
theorem Th.keep {D : Addr → Prop} {H H' : Hp} {v : V} {d : PyData} {B k : Nat} (t : Th D H v d B k) (h : ∀ p u, D p → H p = some u → H' p = some u) : Th D H' v d B k := by
  obtain ⟨S, z, m⟩ := t.ex
  exact ⟨⟨S, z.keep fun p q o e => h p o (m p q) e, m⟩, t.sm, t.sh, t.wd, t.dp, t.tp⟩
theorem Th.wide {D D' : Addr → Prop} {H : Hp} {v : V} {d : PyData} {B k B' k' : Nat} (t : Th D H v d B k) (h : ∀ p, D p → D' p) (hB : B ≤ B') (hk : k ≤ k') : Th D' H v d B' k' := by
  obtain ⟨S, z, m⟩ := t.ex
  exact ⟨⟨S, z, fun p q => h p (m p q)⟩, t.sm, t.sh, Nat.le_trans t.wd hB, Nat.le_trans t.dp hk, t.tp⟩
theorem Th.dq {K : PySem.W.Frag} {D : Addr → Prop} {H : Hp} {v : V} {d : PyData} {B k : Nat} (t : Th D H v d B k) : Dq K H v d := by
  obtain ⟨S, z, m⟩ := t.ex
  exact z.dq
theorem kv_len {H : Hp} : ∀ {kvs : List (Key × V)} {ps : List (PyData × PyData)} {S : List Addr}, DzKv H kvs ps S → kvs.length = ps.length
  | _, _, _, .nil => rfl
  | _, _, _, .cons _ r => by rw [List.length_cons, List.length_cons, kv_len r]
theorem kv_late {H : Hp} : ∀ {kvs : List (Key × V)} {ps : List (PyData × PyData)} {S : List Addr}, DzKv H kvs ps S → ps.all keyOk = true → ∀ p ∈ kvs, p.1 ≠ late
  | _, _, _, .nil, _, p, m => by cases m
  | _, _, _, .cons (k := k) h r, a, p, m => by
    rw [List.all_cons, Bool.and_eq_true] at a
    rcases List.mem_cons.mp m with e | m
    · rw [e]
      intro z
      have z' : k = late := z
      rw [z'] at a
      have z2 : decide (¬ ("late" : Str) = "late") = true := a.1
      exact absurd rfl (of_decide_eq_true z2)
    · exact kv_late r a.2 p m
theorem Th.one {D : Addr → Prop} {H : Hp} {v : V} {d : PyData} {B k : Nat} (t : Th D H v d B k) (hB : B ≤ 900000) (hk : k ≤ 20) : One D H v 0 := by
  obtain ⟨⟨S, z, m⟩, sm, sh, wd, dp, tp⟩ := t
  cases z with
  | non => exact .imm .non .non m nofun sh (by omega) (by omega)
  | bl b => exact .imm (.bl b) (.bl b) m nofun sh (by omega) (by omega)
  | int i => exact .imm (.int i) (.int i) m nofun sh (by omega) (by omega)
  | str x => exact .imm (.str x) (.str x) m nofun sh (by omega) (by omega)
  | tup h a n => exact .imm (.tup h a n) (.tup h) m (fun p e => V.ref.inj e ▸ m _ (List.mem_cons_self ..)) sh (by omega) (by omega)
  | lst h a n =>
    simp only [W] at wd
    simp only [PyData.depth] at dp
    simp only [topOk, decide_eq_true_eq] at tp
    exact .lst h a n (m _ (List.mem_cons_self ..)) (fun p q => m p (List.mem_cons_of_mem _ q)) (by simpa only [PyData.showable] using sh) (by omega) (by rw [dzAll_len a]; omega) (by omega)
  | dic h a n =>
    simp only [W] at wd
    simp only [PyData.depth] at dp
    simp only [topOk, Bool.and_eq_true, decide_eq_true_eq] at tp
    exact .dic h a n (m _ (List.mem_cons_self ..)) (fun p q => m p (List.mem_cons_of_mem _ q)) (by simpa only [PyData.showable] using sh) (by omega) (by rw [kv_len a]; omega) (by omega) fun p q e => absurd e (kv_late a tp.2 p q)
def goodD (d : PyData) : Bool := smD d && (d.showable && (decide (W d ≤ 1000) && (decide (d.depth ≤ 10) && topOk d)))
theorem th_good {D : Addr → Prop} {H : Hp} {v : V} {d : PyData} {S : List Addr} (z : Dz H v d S) (m : ∀ p ∈ S, D p) (g : goodD d = true) : Th D H v d 1000 10 := by
  simp only [goodD, Bool.and_eq_true, decide_eq_true_eq] at g
  exact ⟨⟨S, z, m⟩, g.1, g.2.1, g.2.2.1, g.2.2.2.1, g.2.2.2.2⟩
structure ThAll (D : Addr → Prop) (H : Hp) (vs : List V) : Prop where
  ex : ∀ v ∈ vs, ∃ d, Th D H v d 1000 10
theorem ThAll.keep {D : Addr → Prop} {H H' : Hp} {vs : List V} (t : ThAll D H vs) (h : ∀ p u, D p → H p = some u → H' p = some u) : ThAll D H' vs := ⟨fun v m => by
  obtain ⟨d, z⟩ := t.ex v m
  exact ⟨d, z.keep h⟩⟩
theorem ThAll.same {D : Addr → Prop} {H H' : Hp} {vs : List V} (t : ThAll D H vs) (s : Same H H') : ThAll D H' vs := t.keep fun p u _ e => s p u e
theorem ThAll.app {D : Addr → Prop} {H : Hp} {vs ws : List V} (t : ThAll D H vs) (u : ThAll D H ws) : ThAll D H (vs ++ ws) := ⟨fun v m => by
  rcases List.mem_append.mp m with m | m
  · exact t.ex v m
  · exact u.ex v m⟩
theorem ThAll.cons {D : Addr → Prop} {H : Hp} {v : V} {d : PyData} {vs : List V} (t : Th D H v d 1000 10) (u : ThAll D H vs) : ThAll D H (v :: vs) := ⟨fun w m => by
  rcases List.mem_cons.mp m with m | m
  · rw [m]
    exact ⟨d, t⟩
  · exact u.ex w m⟩
theorem thAll_nil {D : Addr → Prop} {H : Hp} : ThAll D H [] := ⟨nofun⟩
theorem th_lit {D : Addr → Prop} {H H' : Hp} {v : V} {d : PyData} (l : Lit H H' v d) (g : goodD d = true) (m : ∀ p, H p = none → D p) : Th D H' v d 1000 10 := by
  obtain ⟨S, z, n⟩ := l.ex
  exact th_good z (fun p q => m p (n p q)) g
theorem th_lits {D : Addr → Prop} {H H' : Hp} {vs : List V} {ds : List PyData} (l : Lits H H' vs ds) (g : ds.all goodD = true) (m : ∀ p, H p = none → D p) : ThAll D H' vs := ⟨fun v q => by
  obtain ⟨S, z, n⟩ := l.ex
  obtain ⟨i, hi, e⟩ := List.getElem_of_mem q
  obtain ⟨d, S', e2, z2, m2⟩ := dzAll_at z (i := i) (v := v) (by rw [List.getElem?_eq_getElem hi, e])
  exact ⟨d, th_good z2 (fun p w => m p (n p (m2 p w))) (List.all_eq_true.mp g d (List.mem_of_getElem? e2))⟩⟩
theorem gd_th {D : Addr → Prop} {H : Hp} {v : V} {d : PyData} {B k : Nat} (g : Gd D H v d B k) : Th D H v d B k := by
  obtain ⟨S, t, z, i, sd, sm, sh, wd, dp⟩ := g.ex
  refine ⟨⟨S, z, sd⟩, sm, sh, wd, dp, ?_⟩
  cases z with
  | lst h a n =>
    cases i with
    | tup e =>
      rw [h] at e
      cases e
  | dic h a n =>
    cases i with
    | tup e =>
      rw [h] at e
      cases e
  | _ => rfl
theorem smAll_all : ∀ ds : List PyData, smAll ds = ds.all smD
  | [] => rfl
  | d :: r => by rw [smAll, smAll_all r, List.all_cons]
theorem at_split : ∀ {ps : List PyData} {i : Nat} {d : PyData}, ps[i]? = some d → ps = ps.take i ++ d :: ps.drop (i + 1)
  | p :: r, 0, _, e => by
    cases e
    rfl
  | p :: r, i + 1, d, e => by
    have z := at_split (ps := r) (i := i) e
    show p :: r = p :: (r.take i ++ d :: r.drop (i + 1))
    rw [← z]
/-- a row's data with one part otherwise -/
theorem bent_data {ps : List PyData} {i : Nat} {dp d' : PyData} (e : ps[i]? = some dp) : WAll ((ps.take i ++ [d']) ++ ps.drop (i + 1)) + W dp = WAll ps + W d' ∧ (smAll ps = true → smD d' = true → smAll ((ps.take i ++ [d']) ++ ps.drop (i + 1)) = true) ∧
    (PyData.showableAll ps = true → d'.showable = true → PyData.showableAll ((ps.take i ++ [d']) ++ ps.drop (i + 1)) = true) ∧ PyData.depthAll ((ps.take i ++ [d']) ++ ps.drop (i + 1)) ≤ max (PyData.depthAll ps) d'.depth ∧ ((ps.take i ++ [d']) ++ ps.drop (i + 1)).length = ps.length := by
  have z := at_split e
  generalize ps.take i = A at z ⊢
  generalize ps.drop (i + 1) = B at z ⊢
  subst z
  refine ⟨?_, ?_, ?_, ?_, ?_⟩
  · simp only [WAll_append, WAll]
    omega
  · simp only [smAll_append, smAll, Bool.and_eq_true]
    intro h1 h2
    exact ⟨⟨h1.1, h2, trivial⟩, h1.2.2⟩
  · simp only [showableAll_append, PyData.showableAll, Bool.and_eq_true]
    intro h1 h2
    exact ⟨⟨h1.1, h2, trivial⟩, h1.2.2⟩
  · simp only [depthAll_append, PyData.depthAll]
    omega
  · simp
theorem smAll_get {ps : List PyData} {i : Nat} {d : PyData} (h : smAll ps = true) (e : ps[i]? = some d) : smD d = true := smAll_at h e
theorem part_data {ps : List PyData} {i : Nat} {dp : PyData} (e : ps[i]? = some dp) : (PyData.showableAll ps = true → dp.showable = true) ∧ dp.depth ≤ PyData.depthAll ps ∧ W dp ≤ WAll ps := by
  have z := at_split e
  generalize ps.take i = A at z
  generalize ps.drop (i + 1) = B at z
  subst z
  refine ⟨?_, ?_, ?_⟩
  · simp only [showableAll_append, PyData.showableAll, Bool.and_eq_true]
    exact fun h => h.2.1
  · simp only [depthAll_append, PyData.depthAll]
    omega
  · simp only [WAll_append, WAll]
    omega
/-- a tuple that is a worth -/
theorem worth_tup : ∀ {n : Nat} {ds : List PyData}, worthOk n (.tuple ds) = true → (∃ i, ds = [.str "thing", .int i]) ∨ ∃ m ps, n = m + 1 ∧ ds = [.str "row", .tuple ps] ∧ ps.length ≤ 30 ∧ ps.all (worthOk m) = true := by
  intro n ds h
  have th : ∀ {ds}, thingOk (.tuple ds) = true → ∃ i, ds = [.str "thing", .int i] := fun {ds} h => by
    unfold thingOk at h
    split at h
    · rename_i w x e
      cases e
      simp only [Bool.and_eq_true, decide_eq_true_eq] at h
      obtain ⟨e1, e2⟩ := h
      subst e1
      cases x <;> first | exact ⟨_, rfl⟩ | cases e2
    · cases h
  cases n with
  | zero =>
    rw [worthOk] at h
    exact .inl (th h)
  | succ n =>
    rw [worthOk] at h
    have h' : (thingOk (.tuple ds) || rowOk (worthOk n) (.tuple ds)) = true := h
    rcases Bool.or_eq_true_iff.mp h' with z | z
    · exact .inl (th z)
    · clear h h'
      unfold rowOk at z
      split at z
      · rename_i w ps e
        cases e
        simp only [Bool.and_eq_true, decide_eq_true_eq] at z
        obtain ⟨e1, e2, e3⟩ := z
        subst e1
        exact .inr ⟨n, ps, rfl, rfl, e2, e3⟩
      · cases z
theorem txt_fit {x : Str} (h : txtOk (.str x) = true) : PyData.strOk x = true := by
  simp only [txtOk, Bool.and_eq_true] at h
  unfold PyData.strOk
  rw [← Array.all_toList, List.all_eq_true]
  intro c hc
  have := sign_128 (List.all_eq_true.mp h.2 c hc)
  exact decide_eq_true (by omega)
theorem worth_scal : ∀ {n : Nat} {d : PyData}, worthOk n d = true → (∃ ds, d = .tuple ds) ∨ (ndD d = true ∧ d.canLay0 = true) := by
  intro n d h
  cases d with
  | none => exact .inr ⟨rfl, rfl⟩
  | int i => exact .inr ⟨rfl, rfl⟩
  | str x =>
    have t : txtOk (.str x) = true := by cases n <;> simpa [worthOk, plainOk, isN, numOk, thingOk, rowOk] using h
    exact .inr ⟨rfl, by rw [PyData.canLay0]; exact txt_fit t⟩
  | tuple ds => exact .inl ⟨ds, rfl⟩
  | bool b => exact .inr ⟨rfl, rfl⟩
  | list ds => cases n <;> cases h
  | dict ps => cases n <;> cases h
theorem worth_nd : ∀ (n : Nat) (d : PyData), worthOk n d = true → ndD d = true ∧ d.canLay0 = true
  | n, d, h => by
    rcases worth_scal h with ⟨ds, rfl⟩ | z
    · rcases worth_tup h with ⟨i, rfl⟩ | ⟨m, ps, rfl, rfl, l, a⟩
      · exact ⟨rfl, by simp only [PyData.canLay0, PyData.canLayAll0, Bool.and_true]; decide +kernel⟩
      · have ih : ∀ p ∈ ps, ndD p = true ∧ p.canLay0 = true := fun p q => worth_nd m p (List.all_eq_true.mp a p q)
        have all : ∀ qs : List PyData, (∀ p ∈ qs, ndD p = true ∧ p.canLay0 = true) → ndAll qs = true ∧ PyData.canLayAll0 qs = true := fun qs => by
          induction qs with
          | nil => exact fun _ => ⟨rfl, rfl⟩
          | cons q r ih =>
            intro k
            obtain ⟨k1, k2⟩ := k q (List.mem_cons_self ..)
            obtain ⟨k3, k4⟩ := ih fun p w => k p (List.mem_cons_of_mem _ w)
            exact ⟨by rw [ndAll, k1, k3]; rfl, by rw [PyData.canLayAll0, k2, k4]; rfl⟩
        obtain ⟨k1, k2⟩ := all ps ih
        refine ⟨?_, ?_⟩
        · simp only [ndD, ndAll, k1, Bool.and_true]
        · simp only [PyData.canLay0, PyData.canLayAll0, k2, Bool.and_true]
          decide +kernel
    · exact z
termination_by n => n
theorem eqv_nil : ∀ ps : List PyData, (!PyData.eqv (.tuple ps) (.tuple [])) = !ps.isEmpty
  | [] => by simp [PyData.eqv, PyData.eqvAll]
  | p :: r => by simp [PyData.eqv, PyData.eqvAll]
abbrev CM : L2.St → Prop := fun σ => σ[3]? = some (some (.int 1000000000))
abbrev CT : L2.St → Prop := fun _ => True
theorem litI {H : Hp} {i : Int} : Lit H H (.int i) (.int i) := ⟨⟨[], .int i, nofun⟩, sameR⟩
theorem kM1 : ∀ σ H Q, tLit CM (.int 1000000001) σ H Q → tOp (rI0 fun i j => .int (i + j)) (tVar 3) (tC (.int 1)) σ H Q := fun σ H Q q => ⟨_, q.1, _, _, rfl, rfl, q.2 _ _ litI⟩
theorem kM2 : ∀ σ H Q, tLit CM (.int (-1000000001)) σ H Q → tOp (rI0 fun i j => .int (i - j)) (tOp (rI0 fun i j => .int (i - j)) (tC (.int 0)) (tVar 3)) (tC (.int 1)) σ H Q := fun σ H Q q => ⟨_, q.1, _, _, rfl, rfl, _, _, rfl, rfl, q.2 _ _ litI⟩
theorem kM3 : ∀ σ H Q, tLit CM (.int (10 ^ 29)) σ H Q → tOp (rI CPow fun i j => .int (i ^ j.toNat)) (tC (.int 10)) (tC (.int 29)) σ H Q := fun σ H Q q => ⟨_, _, rfl, rfl, ⟨by decide, by decide, by decide⟩, q.2 _ _ litI⟩
def rA (n : Nat) : Str := ⟨(List.replicate n 97).toArray⟩

structure TailP (D : Ends) (σ : L2.St) (H : Hp) : Prop where
  ex : ∃ (b : Addr) (c : Int) (w s2 s3 s4 : Option V), σ = [some (.ref b), w, s2, s3, s4] ∧ BoxAt H b c ∧ 0 ≤ c ∧ c + 3 < 900000 ∧ ∀ v d H' c', Th (New H) H' v d 1000 10 → BoxAt H' b c' → 0 ≤ c' → c' ≤ c + 3 → But H H' (.ref b) → D.rt v H'
structure BentP (n : Nat) (vs : List V) (H : Hp) (Q : VK) : Prop where
  ex : ∃ (b : Addr) (c : Int) (v : V) (d : PyData) (S : List Addr), vs = [.ref b, v] ∧ BoxAt H b c ∧ 0 ≤ c ∧ c + 10 * (n + 1) < 900000 ∧ Dz H v d S ∧ b ∉ S ∧ worthOk n d = true ∧ smD d = true ∧ d.showable = true ∧ d.depth ≤ 2 * n + 1 ∧
    ∀ v' d' H' c', Th (fun p => p ∈ S ∨ H p = none) H' v' d' (W d + 1000) (2 * n + 11) → BoxAt H' b c' → 0 ≤ c' → c' ≤ c + 10 * (n + 1) → But H H' (.ref b) → Q v' H'
def spB : Nat → Sp
  | 0 => fun _ _ _ _ => False
  | n + 1 => fun vs H Q _ => BentP n vs H Q
section
variable {P : Program} {w : World} {K : PySem.W.Frag} {mg : Str → Option Value} {base : Heap}
abbrev NBt : List Str := ["_law_box_here", "_law_worth_here", "_law_at", "_law_most", "_law_some"]
theorem scBent : FnScope NBt ["_law_box_here", "_law_worth_here"] (defScope (top 29)) := ⟨rfl, rfl, rfl, by decide +kernel, rfl, by decide +kernel, by decide +kernel⟩
theorem okB0 {f : Addr} {fd : FuncData} {k : Nat} : FnG P w K mg base CX0 k f fd ["_law_box_here", "_law_worth_here"] (spB 0) := ⟨fun _ _ _ _ h => h.elim, fun _ _ _ _ _ _ _ _ _ _ _ _ _ _ h => h.elim⟩
theorem okBentS {f : Addr} {fd : FuncData} (c0 : SaysK more fa fn K) (hm : mg "_law_bent" = some (.ref f)) (F : FnT K 29 "_law_bent" f fd) (T : Tx K mg) {n : Nat} (hn : n ≤ 10) (GS : FnG P w K mg base CX0 (3 + n) f fd ["_law_box_here", "_law_worth_here"] (spB n)) : FnG P w K mg base CX0 (3 + n + 1) f fd ["_law_box_here", "_law_worth_here"] (spB (n + 1)) := by
  obtain ⟨fdT, FT⟩ : ∃ fd, FnT K 24 "_law_take" (He.ga K "_law_take") fd := law_at c0 10 rfl
  obtain ⟨fdD, FD⟩ : ∃ fd, FnT K 28 "_law_deep" (He.ga K "_law_deep") fd := law_at c0 14 rfl
  have GT := okTake (P := P) (w := w) (mg := mg) (base := base) FT T
  have GD := okDeep (P := P) (w := w) (mg := mg) (base := base) FD T
  have BT : Binds K fdT ["_law_box_here", "_law_many"] [] := FT.bindsN fun _ _ _ _ _ _ us hl => match us, hl with | [_, _], _ => rfl
  have BD : Binds K fdD ["_law_many"] [] := FD.bindsN fun _ _ _ _ _ _ us hl => match us, hl with | [_], _ => rfl
  have BS : Binds K fd ["_law_box_here", "_law_worth_here"] [] := F.bindsN fun _ _ _ _ _ _ us hl => match us, hl with | [_, _], _ => rfl
  refine fn_ofG (k := 3 + n) F scBent (fun vs H Q E h => ?_) (fun cdv A outer s H vs Q E hr hg h => ?_)
  · obtain ⟨b, c, v, d, S, rfl, _⟩ := BentP.ex h
    rfl
  · obtain ⟨b, c, v, d, S, rfl, hb, k0, k1, hz, bS, wo, sm, sh, dd, q⟩ := BentP.ex h
    have hu := hr.units
    have hr1 := hr.mono (show 1 ≤ 3 + n by omega)
    refine ⟨_, PSs.nox (pss_cons (ps_if (PW.pt (pw_and (pt_val (pe_callB (call_isd (K := K) rfl) (by rfl) (T.fre "isinstance" (by simp [frees])) boot_isinstance (pa_cons (pv 1) (pa_cons (pe_bltn (v := .ty "tuple") (by rfl) (T.fre "tuple" (by simp [frees])) (by decide +kernel) rfl) pa_nil))))
        (pw_and (pt_cmpR op_eq (pe_ix ix_tup (pv 1) pe_int (fun _ _ => rfl)) pe_str (nomark _))
        (pw_and (pt_cmpR (op_neD hu) (pe_ix ix_tup (pv 1) pe_int (fun _ _ => rfl)) (pe_tup pa_nil) (nomark _))
        (pw_and1 (pt_cmpR op_gt (pe_callG GT hr1 hg (by rfl) (T.mgF "_law_take" (by decide +kernel)) FT.kp BT .nil pass0 (pa_cons (pv 0) (pa_cons pe_int pa_nil))) pe_int (nomark _)))))))
        (pss_cons (ps_set (i := 2) scBent.nd rfl (Or.inl rfl) (pe_callG GT hr1 hg (by rfl) (T.mgF "_law_take" (by decide +kernel)) FT.kp BT .nil pass0 (pa_cons (pv 0) (pa_cons (pe_callB call_len_seq (by rfl) (T.fre "len" (by simp [frees])) PySem.boot_len (pa_cons (pe_ix ix_tup (pv 1) pe_int (fun _ _ => rfl)) pa_nil)) pa_nil))))
        (pss_one (ps_ret (pe_tup (pa_cons pe_str (pa_cons (pe_op op_cat2 (pe_op op_cat1 (pe_slice sl_head (pe_ix ix_tup (pv 1) pe_int (fun _ _ => rfl)) po_none (po_some (pv 2))) (pe_tup (pa_cons (pe_callG GS hr hg (by rfl) hm F.kp BS .nil pass0 (pa_cons (pv 0) (pa_cons (pe_ix ix_tup (pe_ix ix_tup (pv 1) pe_int (fun _ _ => rfl)) (pv 2) (fun _ _ => rfl)) pa_nil))) pa_nil))) (pe_slice sl_rest (pe_ix ix_tup (pv 1) pe_int (fun _ _ => rfl)) (po_some (pe_op op_add (pv 2) pe_int)) po_none)) pa_nil)))))) pss_nil)
      (weakSs (t' := TailP) (pss_cons (ps_set (i := 3) scBent.nd rfl (Or.inl rfl) (pe_op op_pow pe_int pe_int))
        (pss_cons (ps_set (i := 4) scBent.nd rfl (Or.inl rfl) (pe_lst (lits_cons (C := CM) lit_bl (lits_cons lit_bl (lits_cons (weakE (pe_op op_add (pv 3) pe_int) kM1) (lits_cons (weakE (pe_op op_sub (pe_op op_sub pe_int (pv 3)) pe_int) kM2) (lits_cons (weakE (pe_op op_pow pe_int pe_int) kM3) (lits_cons lit_str (lits_cons lit_str (lits_cons lit_str
          (lits_cons (lit_mulS (z := rA 61) (by decide +kernel) (by decide) (by decide) (by decide +kernel) (by decide +kernel) (by decide +kernel)) (lits_cons (lit_mulS (z := rA 60) (by decide +kernel) (by decide) (by decide) (by decide +kernel) (by decide +kernel) (by decide +kernel)) (lits_cons (lit_tup (lits_cons lit_str (lits_cons lit_int lits_nil))) lits_nil)))))))))))))
        (pss_cons (ps_set (i := 4) scBent.nd rfl (Or.inl rfl) (pe_op op_cat (pv 4) (pe_lst (lits_cons (C := CT) (lit_tup (lits_cons lit_str (lits_cons lit_neg lits_nil))) (lits_cons (lit_tup (lits_cons lit_str (lits_cons lit_bl lits_nil))) (lits_cons (lit_tup (lits_cons lit_str (lits_cons lit_str lits_nil))) (lits_cons (lit_tup (lits_cons lit_str lits_nil))
          (lits_cons (lit_tup (lits_cons lit_str (lits_cons lit_int (lits_cons lit_int lits_nil)))) (lits_cons (lit_lst (lits_cons lit_str (lits_cons lit_int lits_nil))) (lits_cons (lit_tup (lits_cons lit_str lits_nil)) lits_nil))))))))))
        (pss_cons (ps_set (i := 4) scBent.nd rfl (Or.inl rfl) (pe_op op_cat (pv 4) (pe_lst (lits_cons (C := CT) (lit_tup (lits_cons lit_str (lits_cons (lit_lst lits_nil) lits_nil))) (lits_cons (lit_tup (lits_cons lit_str (lits_cons (lit_tup (lits_cons lit_int (lits_cons lit_bl lits_nil))) lits_nil)))
          (lits_cons (lit_tup (lits_cons lit_str (lits_cons (lit_tup lits_nil) (lits_cons (lit_tup lits_nil) lits_nil)))) (lits_cons (lit_tup (lits_cons lit_str (lits_cons (lit_tup lits_nil) lits_nil))) (lits_cons (lit_tup lits_nil) (lits_cons (lit_lst lits_nil) (lits_cons (lit_lst (lits_cons lit_int lits_nil))
          (lits_cons lit_d0 (lits_cons lit_d1 (lits_cons (lit_tup (lits_cons lit_int (lits_cons lit_int lits_nil))) lits_nil)))))))))))))
        (pss_cons (ps_set (i := 4) scBent.nd rfl (Or.inl rfl) (pe_op op_cat (pv 4) (pe_lst (pa_cons (lit_tup (C := CT) (lits_cons lit_str (lits_cons (lit_rep pe_int (fun _ => .int _) (by decide) (by decide)) lits_nil))) (pa_cons (lit_tup (C := CT) (lits_cons lit_str (lits_cons (lit_rep pe_non (fun _ => .non) (by decide) (by decide)) lits_nil)))
          (pa_cons (pe_callG GD hr1 hg (by rfl) (T.mgF "_law_deep" (by decide +kernel)) FD.kp BD .nil pass0 (pa_cons (pe_op op_add pe_int (pe_callG GT hr1 hg (by rfl) (T.mgF "_law_take" (by decide +kernel)) FT.kp BT .nil pass0 (pa_cons (pv 0) (pa_cons pe_int pa_nil)))) pa_nil))
          (lits_cons (C := CT) (lit_tup (lits_cons lit_str (lits_cons lit_non lits_nil))) (lits_cons lit_str lits_nil))))))))
        (pss_one (ps_ret (pe_ix ix_list (pv 4) (pe_callG GT hr1 hg (by rfl) (T.mgF "_law_take" (by decide +kernel)) FT.kp BT .nil pass0 (pa_cons (pv 0) (pa_cons (pe_callB call_len_seq (by rfl) (T.fre "len" (by simp [frees])) PySem.boot_len (pa_cons (pv 4) pa_nil)) pa_nil))) (fun _ _ => rfl)))))))))
        (fun D σ H q => ?tail))), ?_⟩
    case tail =>
      obtain ⟨b, c, w, s2, s3, s4, rfl, hb, k0, k1, q⟩ := q.ex
      refine ⟨_, _, rfl, rfl, ⟨by decide, by decide, by decide⟩, ?_⟩
      refine ⟨rfl, fun vs1 H1 l1 => ⟨by rw [lits_len l1]; exact z100 (by show 11 ≤ 1000; decide), fun p1 n1 => ?_⟩⟩
      have t1 : ThAll (New H) H1 vs1 := th_lits l1 (by decide +kernel) fun p h => h
      have e1 := lits_len l1
      have m1 := l1.same
      clear l1
      generalize g1 : upd _ p1 _ = G1
      obtain ⟨x1, y1⟩ := newlyK g1 n1
      have w1 : Same H G1 := m1.trans x1
      -- the second seven
      refine ⟨_, rfl, trivial, fun vs2 H2 l2 => ⟨by rw [lits_len l2]; exact z100 (by show 7 ≤ 1000; decide), fun p2 n2 => ?_⟩⟩
      have t2 : ThAll (New H) H2 vs2 := th_lits l2 (by decide +kernel) fun p h => w1.free h
      have e2 := lits_len l2
      have m2 := l2.same
      clear l2
      generalize g2 : upd _ p2 _ = G2
      obtain ⟨x2, y2⟩ := newlyK g2 n2
      refine ⟨p1, p2, vs1, vs2, rfl, rfl, x2 _ _ (m2 _ _ y1), y2, by rw [e1, e2]; exact z100 (by show 11 + 7 ≤ 1000; decide), fun p3 n3 => ?_⟩
      generalize g3 : upd _ p3 _ = G3
      obtain ⟨x3, y3⟩ := newlyK g3 n3
      have T3 : ThAll (New H) G3 (vs1 ++ vs2) := (t1.same (x1.trans (m2.trans (x2.trans x3)))).app (t2.same (x2.trans x3))
      have w3 : Same H G3 := w1.trans (m2.trans (x2.trans x3))
      have e3 : (vs1 ++ vs2).length = 18 := by rw [List.length_append, e1, e2]; rfl
      clear t1 t2 y1 y2 e1 e2
      generalize vs1 ++ vs2 = L3 at T3 y3 e3 ⊢
      -- the third ten
      refine ⟨_, rfl, trivial, fun vs4 H4 l4 => ⟨by rw [lits_len l4]; exact z100 (by show 10 ≤ 1000; decide), fun p4 n4 => ?_⟩⟩
      have t4 : ThAll (New H) H4 vs4 := th_lits l4 (by decide +kernel) fun p h => w3.free h
      have e4 := lits_len l4
      have m4 := l4.same
      clear l4
      generalize g4 : upd _ p4 _ = G4
      obtain ⟨x4, y4⟩ := newlyK g4 n4
      refine ⟨p3, p4, L3, vs4, rfl, rfl, x4 _ _ (m4 _ _ y3), y4, by rw [e3, e4]; exact z100 (by show 18 + 10 ≤ 1000; decide), fun p5 n5 => ?_⟩
      generalize g5 : upd _ p5 _ = G5
      obtain ⟨x5, y5⟩ := newlyK g5 n5
      have T5 : ThAll (New H) G5 (L3 ++ vs4) := (T3.same (m4.trans (x4.trans x5))).app (t4.same (x4.trans x5))
      have w5 : Same H G5 := w3.trans (m4.trans (x4.trans x5))
      have e5 : (L3 ++ vs4).length = 28 := by rw [List.length_append, e3, e4]; rfl
      have b5 : b ≠ p5 := by
        obtain ⟨o, e⟩ := hb.there
        exact ne_of_none ((w3.trans (m4.trans x4)) _ _ e) n5
      clear T3 t4 y3 y4 e3 e4
      generalize L3 ++ vs4 = L5 at T5 y5 e5 ⊢
      -- the last five
      refine ⟨_, rfl, trivial, fun va Ha la => ⟨trivial, fun vb Hb lb => ?_⟩⟩
      have ta : Th (New H) Ha va _ 1000 10 := th_lit la (by decide +kernel) fun p h => w5.free h
      have tb : Th (New H) Hb vb _ 1000 10 := th_lit lb (by decide +kernel) fun p h => (w5.trans la.same).free h
      have ma := la.same
      have mb := lb.same
      clear la lb
      have wb : Same H Hb := w5.trans (ma.trans mb)
      refine ⟨_, rfl, ?_⟩
      dsimp only [tCons, tC, tNil, tCall]
      refine take_end (n := 2) (hb.same wb) k0 (by omega) (by decide) (by decide) fun r6 c6 H6 r60 r61 hb6 a6 a6' u6 => ?_
      refine ⟨_, _, rfl, rfl, ⟨⟨_, rfl, by omega, by omega, fun vD dD HD gd sD => ?_⟩⟩⟩
      obtain ⟨ob, eb0⟩ := hb.there
      obtain ⟨ob6, eb6⟩ := hb6.there
      have u8 : But H HD (.ref b) := (same_butK wb).trans (u6.trans (same_butK sD))
      have hbD : BoxAt HD b c6 := hb6.same sD
      have newD : ∀ p, HD p = none → H p = none := fun p h => new_old u8 (sD _ _ eb6) h
      have tD : Th (New H) HD vD dD 1000 10 := (gd_th gd).wide (fun p h => new_old ((same_butK wb).trans u6) eb6 h) (by omega) (by omega)
      refine ⟨trivial, fun v7 H7 l7 => ⟨by rw [List.length_cons, List.length_cons, List.length_cons, lits_len l7]; exact z100 (by show 5 ≤ 1000; decide), fun p7 n7 => ?_⟩⟩
      have t7 : ThAll (New H) H7 v7 := th_lits l7 (by decide +kernel) fun p h => newD p h
      have e7 := lits_len l7
      have m7 := l7.same
      clear l7
      generalize g7 : upd _ p7 _ = G7
      obtain ⟨x7, y7⟩ := newlyK g7 n7
      have ne : ∀ p u, New H p → Hb p = some u → H6 p = some u := fun p u dp e => u6 p u e fun z => by
        cases z
        rw [show H b = none from dp] at eb0
        cases eb0
      have up : Same HD G7 := m7.trans x7
      have y5' : G7 p5 = some (.lst L5) := up _ _ (sD _ _ (u6 _ _ (mb _ _ (ma _ _ y5)) fun z => b5 (V.ref.inj z)))
      refine ⟨p5, p7, L5, _, rfl, rfl, y5', y7, by rw [e5, List.length_cons, List.length_cons, List.length_cons, e7]; exact z100 (by show 28 + 5 ≤ 1000; decide), fun p8 n8 => ?_⟩
      generalize g8 : upd _ p8 _ = G8
      obtain ⟨x8, y8⟩ := newlyK g8 n8
      have up8 : Same HD G8 := up.trans x8
      have T8 : ThAll (New H) G8 (L5 ++ va :: vb :: vD :: v7) := by
        refine (T5.keep fun p u dp e => up8 _ _ (sD _ _ (ne p u dp (mb _ _ (ma _ _ e))))).app (.cons (ta.keep fun p u dp e => up8 _ _ (sD _ _ (ne p u dp (mb _ _ e)))) (.cons (tb.keep fun p u dp e => up8 _ _ (sD _ _ (ne p u dp e))) (.cons (tD.keep fun p u _ e => up8 _ _ e) (t7.same (x7.trans x8)))))
      have e8 : (L5 ++ va :: vb :: vD :: v7).length = 33 := by rw [List.length_append, List.length_cons, List.length_cons, List.length_cons, e5, e7]; rfl
      generalize L5 ++ va :: vb :: vD :: v7 = L8 at T8 y8 e8 ⊢
      -- one of them
      refine ⟨_, rfl, _, rfl, _, rfl, p8, _, rfl, .inl (SqL.of y8), ?_⟩
      rw [e8]
      dsimp only [tCons, tC, tNil, tCall]
      refine take_end (n := ((33 : Nat) : Int)) (hbD.same up8) a6 (by omega) (by decide) (by decide) fun r9 c9 H9 r90 r91 hb9 a9 a9' u9 => ?_
      have b8 : b ≠ p8 := ne_of_none (up _ _ (sD _ _ eb6)) n8
      have y9 := u9 _ _ y8 fun z => b8 (V.ref.inj z)
      obtain ⟨v, hv, mv⟩ := atI_at (xs := L8) r90 (by rw [e8]; exact r91)
      refine ⟨p8, _, r9, v, rfl, rfl, SqL.of y9, hv, ?_⟩
      obtain ⟨d9, t9⟩ := T8.ex v mv
      refine q v d9 H9 c9 (t9.keep fun p u dp e => u9 p u e fun z => ?_) hb9 a9 (by omega) ((u8.trans (same_butK up8)).trans u9)
      cases z
      rw [show H b = none from dp] at eb0
      cases eb0
    have hn' : n ≤ 10 := hn
    -- what follows where the worth stays
    have rest : ∀ (H1 : Hp) (c1 : Int), BoxAt H1 b c1 → 0 ≤ c1 → c1 ≤ c + 1 → But H H1 (.ref b) → TailP { nx := fun _ H' => Q .non H', rt := Q } (start NBt [.ref b, v]) H1 := fun H1 c1 hb1 a0 a1 u1 => by
      obtain ⟨o1, e1⟩ := hb1.there
      exact ⟨⟨b, c1, _, _, _, _, rfl, hb1, a0, by omega, fun v' d' H' c' t hb' b0 b1 u => q v' d' H' c' (t.wide (fun p h => .inr (new_old u1 e1 h)) (by omega) (by omega)) hb' b0 (by omega) (u1.trans u)⟩⟩
    refine ⟨_, rfl, ⟨⟨v, d, "tuple", rfl, .tuple, hz.dq, _, rfl, ?_⟩⟩⟩
    cases hz with
    | non => exact iteE (show isiT "NoneType" "tuple" = false by decide +kernel) (iteE rfl (rest H c hb k0 (by omega) But.refl))
    | bl z => exact iteE (show isiT "bool" "tuple" = false by decide +kernel) (iteE rfl (rest H c hb k0 (by omega) But.refl))
    | int z => exact iteE (show isiT "int" "tuple" = false by decide +kernel) (iteE rfl (rest H c hb k0 (by omega) But.refl))
    | str z => exact iteE (show isiT "str" "tuple" = false by decide +kernel) (iteE rfl (rest H c hb k0 (by omega) But.refl))
    | lst z1 z2 z3 => exact iteE (show isiT "list" "tuple" = false by decide +kernel) (iteE rfl (rest H c hb k0 (by omega) But.refl))
    | dic z1 z2 z3 => exact iteE (show isiT "dict" "tuple" = false by decide +kernel) (iteE rfl (rest H c hb k0 (by omega) But.refl))
    | @tup a xs ds S0 ea za na =>
    refine iteC (show isiT "tuple" "tuple" = true by decide +kernel) ?_
    rcases worth_tup wo with ⟨i, rfl⟩ | ⟨m, ps, rfl, rfl, l30, wa⟩
    · cases za with
      | cons z1 za =>
      cases z1
      cases za with
      | cons z2 za =>
      cases z2
      cases za
      exact ⟨_, rfl, a, _, _, _, rfl, rfl, SqT.of ea, rfl, rfl, _, rfl, iteE (by decide +kernel) (iteE rfl (rest H c hb k0 (by omega) But.refl))⟩
    cases za with
    | cons z1 za =>
    cases z1
    cases za with
    | cons z2 za =>
    cases za
    cases z2 with
    | @tup a2 ys _ S2 e2 zy n2 =>
    refine ⟨_, rfl, a, _, _, _, rfl, rfl, SqT.of ea, rfl, rfl, _, rfl, iteC (by decide +kernel) ?_⟩
    have ly := dzAll_len zy
    -- is it empty
    obtain ⟨w1, w2⟩ := worth_nd _ _ wo
    simp only [ndD, ndAll, Bool.and_true, Bool.true_and] at w1
    simp only [PyData.canLay0, PyData.canLayAll0, Bool.and_true, Bool.and_eq_true] at w2
    simp only [smD, smHs, smH, Bool.and_true, Bool.and_eq_true, decide_eq_true_eq] at sm
    simp only [PyData.showable, PyData.showableAll, Bool.and_true, Bool.true_and] at sh
    simp only [PyData.depth, PyData.depthAll] at dd
    have smA : smAll ps = true := by first | exact sm.2.2.2.2 | exact sm.2.2.2 | exact sm.2.2
    have WD : W (.tuple [.str "row", .tuple ps]) = 3 + (W (.str "row") + 2 + (3 + WAll ps + 2 + 0)) := by simp only [W, WAll]
    have kp : ∀ {Hk : Hp}, But H Hk (.ref b) → ∀ p o, p ∈ a :: ([] ++ (a2 :: S2 ++ [])) → H p = some o → Hk p = some o := fun {Hk} u p o mm e => u p o e fun z => by
      cases z
      exact bS mm
    have ma : a ∈ a :: ([] ++ (a2 :: S2 ++ [])) := List.mem_cons_self ..
    have ma2 : a2 ∈ a :: ([] ++ (a2 :: S2 ++ [])) := by simp
    have mS : ∀ p ∈ S2, p ∈ a :: ([] ++ (a2 :: S2 ++ [])) := fun p q => by simp [q]
    generalize hS : a :: ([] ++ (a2 :: S2 ++ [])) = S at bS q kp ma ma2 mS
    refine ⟨_, rfl, a, _, _, _, rfl, rfl, SqT.of ea, rfl, Nat.zero_le _, fun p1 n1 => ?_⟩
    generalize g1 : upd _ p1 _ = G1
    obtain ⟨x1, y1⟩ := newlyK g1 n1
    refine ⟨.tuple ps, .tuple [], dq_dp (.tup (SqT.of (x1 _ _ e2)) (zy.dq.same x1)) (by rw [ndD]; exact w1), .tup (SqT.of y1) .nil, ?_, by decide +kernel, _, rfl, ?_⟩
    · unfold SeqAt.shaped
      rw [Bool.and_eq_true]
      refine ⟨by rw [PyData.canLay0]; first | exact w2.2 | exact w2, ?_⟩
      exact decide_eq_true (by rw [PyData.depth]; omega)
    rw [eqv_nil]
    cases ee : ps.isEmpty
    rotate_left
    · exact iteE rfl (iteE rfl (rest G1 c (hb.same x1) k0 (by omega) (same_butK x1)))
    refine iteC rfl ⟨_, rfl, ?_⟩
    dsimp only [tCons, tC, tNil, tCall]
    refine take_end (n := 4) (hb.same x1) k0 (by omega) (by decide) (by decide) fun r2 c2 H2 r20 r21 hb2 a20 a21 u2 => ?_
    have U2 : But H H2 (.ref b) := (same_butK x1).trans u2
    refine ⟨_, _, rfl, rfl, _, rfl, ?_⟩
    by_cases hr2 : (0 : Int) < r2
    rotate_left
    · exact iteE (decide_eq_false hr2) (rest H2 c2 hb2 a20 a21 U2)
    refine iteC (decide_eq_true hr2) ?_
    -- the place
    have pn : 0 < ys.length := by
      rw [ly]
      cases ps with
      | nil => cases ee
      | cons p r => exact Nat.succ_pos _
    have bnd : ((ys.length : Nat) : Int).natAbs < 2 ^ 200 := Nat.lt_of_le_of_lt (show ((ys.length : Nat) : Int).natAbs ≤ 30 by omega) (by decide +kernel)
    refine ⟨_, rfl, _, rfl, a, _, _, _, rfl, rfl, SqT.of (kp U2 _ _ ma ea), rfl, a2, ys, rfl, .inr (SqT.of (kp U2 _ _ ma2 e2)), ?_⟩
    dsimp only [tCons, tC, tNil, tCall]
    refine take_end (n := ((ys.length : Nat) : Int)) hb2 a20 (by omega) (by omega) bnd fun r3 c3 H3 r30 r31 hb3 a30 a31 u3 => ?_
    have U3 : But H H3 (.ref b) := U2.trans u3
    obtain ⟨i, rfl⟩ : ∃ i : Nat, r3 = (i : Int) := ⟨r3.toNat, by omega⟩
    have iy : i < ys.length := by omega
    obtain ⟨y, hy⟩ : ∃ y, ys[i]? = some y := ⟨_, List.getElem?_eq_getElem iy⟩
    obtain ⟨dp, Sp, hdp, zp, mp⟩ := dzAll_at zy hy
    obtain ⟨pd1, pd2, pd3⟩ := part_data hdp
    -- the parts ahead
    refine ⟨_, rfl, a, _, _, _, rfl, rfl, SqT.of (kp U3 _ _ ma ea), rfl, _, rfl, _, rfl, a2, ys, i, rfl, rfl, rfl, kp U3 _ _ ma2 e2, iy, fun p4 n4 => ?_⟩
    generalize g4 : upd _ p4 _ = G4
    obtain ⟨x4, y4⟩ := newlyK g4 n4
    have U4 : But H G4 (.ref b) := U3.trans (same_butK x4)
    -- the part
    refine ⟨_, rfl, _, rfl, a, _, _, _, rfl, rfl, SqT.of (kp U4 _ _ ma ea), rfl, _, rfl, a2, ys, _, y, rfl, rfl, SqT.of (kp U4 _ _ ma2 e2), atI_nat hy, ?_⟩
    refine BentP.mk ⟨b, c3, y, dp, Sp, rfl, hb3.same x4, a30, by omega, zp.keep fun p q o e => kp U4 p o (mS p (mp p q)) e, fun q => bS (mS b (mp b q)), List.all_eq_true.mp wa dp (List.mem_of_getElem? hdp), smAll_at smA hdp, pd1 sh, by omega, fun v' d' H5 c5 t5 hb5 a50 a51 u5 => ?_⟩
    have U5 : But H H5 (.ref b) := U4.trans u5
    obtain ⟨o3, eb3⟩ := hb3.there
    obtain ⟨o5, eb5⟩ := hb5.there
    refine ⟨z100 (by show 1 ≤ 1000; decide), fun p6 n6 => ?_⟩
    generalize g6 : upd _ p6 _ = G6
    obtain ⟨x6, y6⟩ := newlyK g6 n6
    have y4' : G6 p4 = some (.tup (ys.take i)) := x6 _ _ (u5 _ _ y4 fun z => ne_of_none eb3 n4 (V.ref.inj z))
    refine ⟨p4, p6, ys.take i, [v'], rfl, rfl, y4', y6, by simp, by rw [List.length_take]; show _ + 1 ≤ 2000; omega, fun p7 G7 x7 y7 o7 => ?_⟩
    have n7 : H5 p7 = none := by
      rcases o7 with z | z
      · rw [z]; exact n6
      · exact x6.free z
    have U7 : But H G7 (.ref b) := U5.trans ((same_butK x6).trans (same_butK x7))
    -- the parts behind
    refine ⟨_, rfl, a, _, _, _, rfl, rfl, SqT.of (kp U7 _ _ ma ea), rfl, _, rfl, _, _, rfl, rfl, _, rfl, a2, ys, i, rfl, rfl, rfl, kp U7 _ _ ma2 e2, iy, fun p8 n8 => ?_⟩
    generalize g8 : upd _ p8 _ = G8
    obtain ⟨x8, y8⟩ := newlyK g8 n8
    refine ⟨p7, p8, _, ys.drop (i + 1), rfl, rfl, x8 _ _ y7, y8, by simp, by rw [List.length_append, List.length_take, List.length_drop]; show _ + 1 + _ ≤ 2000; omega, fun p9 G9 x9 y9 o9 => ?_⟩
    have x58 : Same H5 G8 := x6.trans (x7.trans x8)
    have n9 : H5 p9 = none := by
      rcases o9 with z | z
      · rw [z]; exact n7
      · exact x58.free z
    have x59 : Same H5 G9 := x58.trans x9
    -- the row
    refine ⟨z100 (by show 2 ≤ 1000; decide), fun pA nA => ?_⟩
    generalize gA : upd _ pA _ = GA
    obtain ⟨xA, yA⟩ := newlyK gA nA
    have xX : Same H5 GA := x59.trans xA
    have UA : But H GA (.ref b) := U5.trans (same_butK xX)
    have nAA : H5 pA = none := x59.free nA
    obtain ⟨Sv, zv, mv⟩ := t5.ex
    have z5 : DzAll H5 ys ps S2 := zy.keep fun p q o e => kp U5 p o (mS p q) e
    obtain ⟨Sa, za1, ma1⟩ := dzAll_take z5 i
    obtain ⟨Sb, zb1, mb1⟩ := dzAll_drop z5 (i + 1)
    obtain ⟨T1, zT1, mT1⟩ := dzAll_app za1 (DzAll.cons zv .nil)
    obtain ⟨T2, zT2, mT2⟩ := dzAll_app zT1 zb1
    have lead : ∀ p ∈ T2, (p ∈ S ∨ H p = none) := fun p q => by
      rcases mT2 p q with q | q
      · rcases mT1 p q with q | q
        · exact .inl (mS p (ma1 p q))
        · rw [List.append_nil] at q
          rcases mv p q with q | q
          · exact .inl (mS p (mp p q))
          · exact .inr (new_old U3 eb3 (x4.free q))
      · exact .inl (mS p (mb1 p q))
    have f9 : p9 ∉ T2 := fun q => by
      obtain ⟨o, e⟩ := zT2.there p9 q
      rw [n9] at e
      cases e
    have fA : pA ∉ p9 :: T2 := fun q => by
      rcases List.mem_cons.mp q with e | q
      · rw [e, y9] at nA
        cases nA
      · obtain ⟨o, e⟩ := zT2.there pA q
        rw [nAA] at e
        cases e
    have zA : Dz GA (.ref pA) (.tuple [.str "row", .tuple ((ps.take i ++ [d']) ++ ps.drop (i + 1))]) (pA :: ([] ++ ((p9 :: T2) ++ []))) :=
      .tup yA (.cons (.str _) (.cons (.tup (xA _ _ y9) (zT2.keep fun p q o e => xX p o e) f9) .nil)) (by simpa using fA)
    obtain ⟨b1, b2, b3, b4, b5⟩ := bent_data (d' := d') hdp
    have wd := t5.wd
    have dpp := t5.dp
    refine q _ _ GA c5 ⟨⟨_, zA, fun p q => ?_⟩, ?_, ?_, ?_, ?_, rfl⟩ (hb5.same xX) a50 (by omega) UA
    · rcases List.mem_cons.mp q with e | q
      · rw [e]
        exact .inr (new_old U5 eb5 nAA)
      · rw [List.nil_append, List.append_nil] at q
        rcases List.mem_cons.mp q with e | q
        · rw [e]
          exact .inr (new_old U5 eb5 n9)
        · exact lead p q
    · simp only [smD, smHs, smH, wordOk, scalD, Bool.and_true, Bool.true_and, Bool.and_eq_true, decide_eq_true_eq]
      exact ⟨by show 2 ≤ 1000; decide, by omega, b2 smA t5.sm⟩
    · simp only [PyData.showable, PyData.showableAll, Bool.and_true, Bool.true_and]
      exact b3 sh t5.sh
    · simp only [W, WAll] at WD ⊢
      omega
    · simp only [PyData.depth, PyData.depthAll]
      omega
end
end K01

set_option Elab.async false
set_option linter.all false
set_option maxRecDepth 100000
set_option maxHeartbeats 8000000
/-! k01, s: says_yes asked, the refusal looked at -/
namespace K01
open PySem PySem.Spec L2 KK
open PyProof.Rows hiding St
section
variable {P : Program} {w : World} {K : PySem.W.Frag} {mg : Str → Option Value} {base : Heap}
theorem okSameA {f : Addr} {fd : FuncData} (F : FnT K 33 "_law_same" f fd) (T : Tx K mg) : FnA P w K mg base CX0 1 f fd ["_law_found", "_law_thing"] spSame := by
  refine fn_ofA F scSame (fun vs H Q E h => ?_) (fun cdv A outer s H vs Q E hr hg h => ?_)
  · obtain ⟨D, v, n, rfl, _⟩ := h
    rfl
  · obtain ⟨D, v, n, rfl, o, hn, q⟩ := h
    have hu : (A.deeper (envOfC "_law_same" (defScope (top 33)) s.heap.objs.size f cdv)).units + 1 < cLine := by have := hr.un; omega
    have hu64 : (A.deeper (envOfC "_law_same" (defScope (top 33)) s.heap.objs.size f cdv)).units + 64 < cLine := by have := hr.un; omega
    refine ⟨_, PSs.nox (pss_cons (ps_if (pt_cmpR op_ne (pe_callB (call_repr T.sm hg hu64) (by rfl) (T.fre "repr" (by simp [frees])) (by decide +kernel) (pa_cons (pv 0) pa_nil)) (pe_callB (call_repr T.sm hg hu64) (by rfl) (T.fre "repr" (by simp [frees])) (by decide +kernel) (pa_cons (pv 1) pa_nil)) (nomark _)) (pss_one (ps_ret pe_bl)) pss_nil)
      (pss_cons (ps_if (pt_val (pe_callB call_isi (by rfl) (T.fre "isinstance" (by simp [frees])) boot_isinstance (pa_cons (pv 1) (pa_cons (pe_bltn (v := .ty "list") (by rfl) (T.fre "list" (by simp [frees])) (by decide +kernel) rfl) pa_nil)))) (pss_one (ps_expr (pe_bm PySem.F.plainAttrs_list PySem.F.slot_list_append PySem.F.type_list_append mt_append (pv 1) (pa_cons pe_str pa_nil)))) pss_nil)
      (pss_cons (ps_if (pt_val (pe_callB call_isi (by rfl) (T.fre "isinstance" (by simp [frees])) boot_isinstance (pa_cons (pv 1) (pa_cons (pe_bltn (v := .ty "dict") (by rfl) (T.fre "dict" (by simp [frees])) (by decide +kernel) rfl) pa_nil)))) (pss_one (ps_dput hu (pv 1) pe_str pe_int rfl)) pss_nil)
      (pss_one (ps_ret (pe_cmpR op_eq (pe_callB (call_repr T.sm hg hu64) (by rfl) (T.fre "repr" (by simp [frees])) (by decide +kernel) (pa_cons (pv 0) pa_nil)) (pe_callB (call_repr T.sm hg hu64) (by rfl) (T.fre "repr" (by simp [frees])) (by decide +kernel) (pa_cons (pv 1) pa_nil)) (nomark _))))))), ?_⟩
    obtain ⟨d, r1, r2, r3, r4⟩ := One.rep (K := K) o (by omega)
    refine ⟨_, rfl, _, d, rfl, r1, r2, r3, r4, _, rfl, _, d, rfl, r1, r2, r3, r4, rfl, _, rfl, iteNS rfl ?_⟩
    -- the end, whatever was added
    have fin : ∀ H', One D H' v (n + 1) → But H H' v → ∃ d', Dq K H' v d' ∧ d'.showable = true ∧ d'.shown.length ≤ sizeLine ∧ d'.depth ≤ 60 ∧ Q (.bl (decide (V.str d'.shown = V.str d'.shown))) H' := fun H' o' b' => by
      obtain ⟨d', s1, s2, s3, s4⟩ := One.rep (K := K) o' (by omega)
      refine ⟨d', s1, s2, s3, s4, ?_⟩
      rw [decide_eq_true rfl]
      exact q H' o' b'
    have sl : 16000000 ≤ sizeLine := by rw [sizeLine_eq]; decide
    cases o with
    | imm z i sd iv sh ln dp =>
      obtain ⟨n1, n2⟩ := Imm.no (K := K) i
      refine ⟨_, rfl, _, _, _, _, _, rfl, .ty _, i.ty, n1, _, rfl, iteF ?_⟩
      refine ⟨_, rfl, _, _, _, _, _, rfl, .ty _, i.ty, n2, _, rfl, iteF ?_⟩
      obtain ⟨d', s1, s2, s3, s4, q'⟩ := fin H (One.more (.imm z i sd iv sh ln dp) (Nat.le_succ _)) But.refl
      exact ⟨_, rfl, _, d', rfl, s1, s2, s3, s4, _, rfl, _, d', rfl, s1, s2, s3, s4, rfl, q'⟩
    | @lst a xs ds S _ h z ne da sd sh wl ll dp =>
      refine ⟨_, rfl, _, _, _, _, _, rfl, .ty _, .base (.lst h), kit_ty (r := true) (by decide +kernel), _, rfl, iteT ?_⟩
      refine ⟨_, rfl, .inl ⟨rfl, _, SqL.of h⟩, a, _, _, rfl, rfl, h, by omega, ?_⟩
      refine ⟨_, rfl, _, _, _, _, _, rfl, .ty _, .base (.lst upd_same), kit_ty (r := false) (by decide +kernel), _, rfl, iteF ?_⟩
      obtain ⟨d', s1, s2, s3, s4, q'⟩ := fin _ (One.app h z ne da sd sh wl ll dp) upd_but
      exact ⟨_, rfl, _, d', rfl, s1, s2, s3, s4, _, rfl, _, d', rfl, s1, s2, s3, s4, rfl, q'⟩
    | @dic a kvs ps S _ h z ne da sd sh wl ll dp lt =>
      refine ⟨_, rfl, _, _, _, _, _, rfl, .ty _, .base (.dK h), kit_ty (r := false) (by decide +kernel), _, rfl, iteF ?_⟩
      refine ⟨_, rfl, _, _, _, _, _, rfl, .ty _, .base (.dK h), kit_ty (r := true) (by decide +kernel), _, rfl, iteT ?_⟩
      refine ⟨_, rfl, a, _, rfl, DPut.k (k := late) h (by omega), ?_⟩
      obtain ⟨d', s1, s2, s3, s4, q'⟩ := fin _ (One.put h z ne da sd sh wl ll dp lt) upd_but
      exact ⟨_, rfl, _, d', rfl, s1, s2, s3, s4, _, rfl, _, d', rfl, s1, s2, s3, s4, rfl, q'⟩

end
theorem roomHm {k : Nat} {A : Around} (r : Room k A) (h : Option Value) : L2H.RoomH k (A.mark h) := ⟨r.dp, r.un⟩
structure YRightP (vs : List V) (H : Hp) (Q : VK) : Prop where
  ex : ∃ (D : Addr → Prop) (v : V) (d : PyData), vs = [v] ∧ Th D H v d 900000 20 ∧ ∀ H', But H H' v → (worthOk 4 d = true → Same H H') → Q (.bl true) H'
def spYRight : Sp := fun vs H Q _ => YRightP vs H Q
theorem plain_yes {n : Nat} {d : PyData} (h : worthOk n d = true) : yesD d = (!isN d && (!isiD d "int" || !(match d with | .int i => decide (i = 0) | _ => false))) := by
  cases d with
  | none => rfl
  | int i =>
    show decide (i ≠ 0) = (true && (!isiT "int" "int" || !decide (i = 0)))
    rw [show isiT "int" "int" = true by decide +kernel]
    by_cases z : i = 0 <;> simp [z]
  | str x => show true = (true && (!isiT "str" "int" || _)); rw [show isiT "str" "int" = false by decide +kernel]; rfl
  | tuple ds => show true = (true && (!isiT "tuple" "int" || _)); rw [show isiT "tuple" "int" = false by decide +kernel]; rfl
  | bool b => cases n <;> cases h
  | list ds => cases n <;> cases h
  | dict ps => cases n <;> cases h
section
variable {P : Program} {w : World} {K : PySem.W.Frag} {mg : Str → Option Value} {base : Heap}
abbrev NYr : List Str := ["_law_thing", "_law_good", "_law_told", "e"]
theorem scYRight : FnScope NYr ["_law_thing"] (defScope (top 37)) := ⟨rfl, rfl, rfl, by decide +kernel, rfl, by decide +kernel, by decide +kernel⟩
theorem okYRight {f : Addr} {fd : FuncData} (c0 : SaysK more fa fn K) (F : FnT K 37 "_law_yes_right" f fd) (T : Tx K mg) : FnG P w K mg base CX0 11 f fd ["_law_thing"] spYRight := by
  obtain ⟨fdW, FW⟩ : ∃ fd, FnT K 32 "_law_is_worth" (He.ga K "_law_is_worth") fd := law_at c0 18 rfl
  obtain ⟨fdY, FY⟩ : ∃ fd, FnT K 19 "says_yes" (He.ga K "says_yes") fd := law_at c0 6 rfl
  obtain ⟨fdS, FS⟩ : ∃ fd, FnT K 33 "_law_same" (He.ga K "_law_same") fd := law_at c0 19 rfl
  have GW := okLWorth (P := P) (w := w) (mg := mg) (base := base) c0 (T.mgF "_law_is_worth" (by decide +kernel)) FW T 4
  have GY := okYes (P := P) (w := w) (mg := mg) (base := base) c0 FY T
  have GS := okSameA (P := P) (w := w) (mg := mg) (base := base) FS T
  have BW : Binds K fdW ["_law_thing", "_law_deep_here"] [] := FW.bindsN fun _ _ _ _ _ _ us hl => match us, hl with | [_, _], _ => rfl
  have BY : Binds K fdY ["worth"] [] := FY.bindsN fun _ _ _ _ _ _ us hl => match us, hl with | [_], _ => rfl
  have BS : Binds K fdS ["_law_found", "_law_thing"] [] := FS.bindsN fun _ _ _ _ _ _ us hl => match us, hl with | [_, _], _ => rfl
  refine fn_ofG F scYRight (fun vs H Q E h => ?_) (fun cdv A outer s H vs Q E hr hg h => ?_)
  · obtain ⟨D, v, d, rfl, _⟩ := h.ex
    rfl
  · obtain ⟨D, v, d, rfl, t, q⟩ := h.ex
    have hu := hr.units
    refine ⟨_, PSs.nox (pss_cons (ps_set (i := 1) scYRight.nd rfl (Or.inl rfl) (pe_callG GW (hr.mono (show 7 ≤ 10 by decide)) hg (by rfl) (T.mgF "_law_is_worth" (by decide +kernel)) FW.kp BW .nil pass0 (pa_cons (pv 0) (pa_cons pe_int pa_nil))))
      (pss_cons (ps_try_hs rfl rfl (fun W pn xe tk _ => pss_one (ps_set (i := 2) scYRight.nd rfl (Or.inl rfl) (pe_callGS (ES := WE W) GY hr hg (by rfl) (T.mgF "says_yes" (by decide +kernel)) FY.kp BY .nil (fun σ => passAt tk σ) (pa_cons (pv 0) pa_nil))))
        (Hs.named (i := 3) (c := .ref (CA K 2)) scYRight.nd rfl rfl ⟨by rfl, by decide, .inl (T.mgC 2 (by decide))⟩ (fun a oe cls dd pn hz hf => pss_one (ps_ret (pe_and (pe_not (pv 1)) (pe_and (pe_callB (call_his (K := K) rfl hz hf) (by rfl) (T.fre "isinstance" (by simp [frees])) boot_isinstance (pa_cons (pv 3) (pa_cons (pe_glob (v := .ref (CA K 0)) (by rfl) (T.mgC 0 (by decide)) rfl) pa_nil)))
          (pe_and (pe_not (pe_callB (call_his (K := K) rfl hz hf) (by rfl) (T.fre "isinstance" (by simp [frees])) boot_isinstance (pa_cons (pv 3) (pa_cons (pe_glob (v := .ref (CA K 1)) (by rfl) (T.mgC 1 (by decide)) rfl) pa_nil))))
            (pe_one (pe_callA GS (L2H.RoomH.mono (roomHm hr _) (show 1 ≤ 10 by decide)) (hg.mark _) (by rfl) (T.mgF "_law_same" (by decide +kernel)) FS.kp BS .nil pass0 (pa_cons (pe_hfld (K := K) rfl hz hf (pv 3)) (pa_cons (pv 0) pa_nil)))))))))
        Hs.stop))
      (pss_cons (ps_if (pt_not (pt_val (pv 1))) (pss_one (ps_ret pe_bl)) pss_nil)
      (pss_one (ps_ret (pe_cmpR op_eq (pe_callB (call_repr T.sm hg hr.units) (by rfl) (T.fre "repr" (by simp [frees])) (by decide +kernel) (pa_cons (pv 2) pa_nil))
        (pe_callB (call_repr T.sm hg hr.units) (by rfl) (T.fre "repr" (by simp [frees])) (by decide +kernel) (pa_cons (pe_and (pe_cmp (pc_notN (pv 0))) (pe_one (pe_or (pe_not (pe_callB (call_isd (K := K) rfl) (by rfl) (T.fre "isinstance" (by simp [frees])) boot_isinstance (pa_cons (pv 0) (pa_cons (pe_bltn (v := .ty "int") (by rfl) (T.fre "int" (by simp [frees])) (by decide +kernel) rfl) pa_nil)))) (pe_one (pe_cmpR op_ne (pv 0) pe_int (nomark _)))))) pa_nil)) (nomark _))))))), ?_⟩
    refine ⟨_, rfl, ⟨⟨v, d, rfl, t.dq, t.sm, fun H1 s1 => ?_⟩⟩⟩
    have t1 := t.keep (H' := H1) fun p u _ e => s1 p u e
    have b1 : But H H1 v := same_butK s1
    refine ⟨_, rfl, ⟨⟨v, d, rfl, t1.dq, t1.sm, fun wo => ?_, fun wo dx H2 s2 e2 => ?_⟩⟩⟩
    · obtain ⟨nd, cl⟩ := worth_nd 4 d wo
      have dp := t.dp
      refine ⟨nd, by unfold SeqAt.shaped; rw [cl, decide_eq_true (by omega)]; rfl, fun H2 s2 => ?_⟩
      have t2 := t1.keep (H' := H2) fun p u _ e => s2 p u e
      have b2 : But H H2 v := same_butK (s1.trans s2)
      refine ⟨_, rfl, _, rfl, iteE (by rw [wo]; rfl) ?_⟩
      have rb : ∀ b : Bool, (PyData.bool b).showable = true ∧ (PyData.bool b).shown.length ≤ sizeLine ∧ (PyData.bool b).depth ≤ 60 := fun b => by
        refine ⟨rfl, ?_, by simp [PyData.depth]⟩
        have := shown_W (.bool b)
        simp only [W] at this
        rw [sizeLine_eq]
        omega
      obtain ⟨x1, x2, x3⟩ := rb (yesD d)
      refine ⟨_, rfl, _, .bool (yesD d), rfl, .bl _, x1, x2, x3, ?_⟩
      have fin : ∀ b : Bool, b = yesD d → rRep K [V.bl b] H2 fun y H3 => rEq (.str (PyData.bool (yesD d)).shown) y H3 Q := fun b e => by
        subst e
        refine ⟨_, .bool (yesD d), rfl, .bl _, x1, x2, x3, rfl, ?_⟩
        rw [decide_eq_true rfl]
        exact q H2 b2 fun _ => s1.trans s2
      refine ⟨_, rfl, _, rfl, ?_⟩
      rw [dq_non (t2.dq (K := K))]
      have py := plain_yes wo
      cases d with
      | none => exact iteE rfl (fin _ rfl)
      | int i =>
        refine iteC rfl ⟨_, rfl, ⟨⟨v, _, "int", rfl, .int, t2.dq, _, rfl, _, rfl, iteE (show (!isiT "int" "int") = false by decide +kernel) ?_⟩⟩⟩
        cases t2.dq (K := K)
        refine ⟨_, rfl, rfl, fin _ ?_⟩
        show (!decide (V.int i = V.int 0)) = decide (i ≠ 0)
        rw [← decide_not, decide_eq_decide]
        exact ⟨fun z e => z (by rw [e]), fun z e => z (V.int.inj e)⟩
      | str x => exact iteC rfl ⟨_, rfl, ⟨⟨v, _, "int", rfl, .int, t2.dq, _, rfl, _, rfl, iteC (show (!isiT "str" "int") = true by decide +kernel) (fin _ rfl)⟩⟩⟩
      | tuple ds => exact iteC rfl ⟨_, rfl, ⟨⟨v, _, "int", rfl, .int, t2.dq, _, rfl, _, rfl, iteC (show (!isiT "tuple" "int") = true by decide +kernel) (fin _ rfl)⟩⟩⟩
      | bool b => cases wo
      | list ds => cases wo
      | dict ps => cases wo
    · refine ⟨true, T.exm 2 (by decide) 2 (by decide), fun _ a na => ?_, nofun⟩
      have hd : Held K (CA K 2) (.ref (CA K 2)) (some dx) H2 := ⟨rfl, ⟨_, _, xof T (i := 2) (by decide) (by decide)⟩, fun z e => by
        cases e
        exact ⟨_, e2⟩⟩
      have t2 := t1.keep (H' := H2) fun p u _ e => s2 p u e
      have b2 : But H H2 v := same_butK (s1.trans s2)
      refine ⟨_, rfl, _, rfl, _, rfl, iteC (by rw [wo]; rfl) ?_⟩
      refine ⟨_, rfl, CA K 2, .ref (CA K 0), _, true, rfl, .own _, hd, T.kit 2 (by decide) 0 (by decide), _, rfl, iteC rfl ?_⟩
      refine ⟨_, rfl, CA K 2, .ref (CA K 1), _, false, rfl, .own _, hd, T.kit 2 (by decide) 1 (by decide), _, rfl, _, rfl, iteC rfl ?_⟩
      refine ⟨_, rfl, CA K 2, dx, _, v, rfl, hd, T.nof 2 (by decide) "found" (by decide +kernel), rfl, e2, rfl, _, rfl, ?_⟩
      exact ⟨D, v, 0, rfl, t2.one (by decide) (by decide), by decide, fun H3 o3 b3 => q H3 (b2.trans b3) fun z => by rw [wo] at z; cases z⟩
end
end K01

set_option Elab.async false
set_option linter.all false
set_option maxRecDepth 100000
set_option maxHeartbeats 8000000
/-! k01, t: a cell -/
namespace K01
open PySem PySem.Spec L2 KK
open PyProof.Rows hiding St

theorem W_bl (b : Bool) : (PyData.bool b).shown.length ≤ sizeLine := by
  have := shown_W (.bool b)
  simp only [W] at this
  rw [sizeLine_eq]
  omega
structure RepP (K : PySem.W.Frag) (xs : List V) (H : Hp) (Q : VK) : Prop where
  ex : rRep K xs H Q
theorem call_repS {K : PySem.W.Frag} {X : Cx} (e : X.K = K) (sm : SysD K) (hg : NoRep X.A) (hu : X.A.units + 64 < cLine) : CallR X (.builtin "repr") (fun xs H Q => RepP K xs H Q) := by
  subst e
  intro pins s σ H xs us Q I r h
  exact call_repr sm hg hu pins s σ H xs us Q I r h.ex
theorem rep_bl {K : PySem.W.Frag} {b : Bool} {H : Hp} {Q : VK} (q : Q (.str (PyData.bool b).shown) H) : RepP K [V.bl b] H Q := ⟨⟨_, .bool b, rfl, .bl _, rfl, W_bl b, by simp [PyData.depth], q⟩⟩
theorem Th.rep {K : PySem.W.Frag} {D : Addr → Prop} {H : Hp} {v : V} {d : PyData} {Q : VK} (t : Th D H v d 900000 20) (q : Q (.str d.shown) H) : RepP K [v] H Q := by
  have h1 := shown_W d
  have h2 := t.wd
  have h3 := t.dp
  exact ⟨⟨v, d, rfl, t.dq, t.sh, by rw [sizeLine_eq]; omega, by omega, q⟩⟩
theorem Th.same {D : Addr → Prop} {H H' : Hp} {v : V} {d : PyData} {B k : Nat} (t : Th D H v d B k) (s : Same H H') : Th D H' v d B k := t.keep fun p u _ e => s p u e
theorem th_int {D : Addr → Prop} {H : Hp} {i : Int} (h : i.natAbs < 10 ^ 31) : Th D H (.int i) (.int i) 1000 10 := by
  refine ⟨⟨[], .int i, nofun⟩, rfl, ?_, ?_, by simp only [PyData.depth]; omega, rfl⟩
  · simp only [PyData.showable, decide_eq_true_eq]
    by_cases z : i.natAbs = 0
    · rw [z]; decide
    · rw [Nat.log2_lt z]
      exact Nat.lt_trans h (by decide +kernel)
  · have := W_int (k := 31) (by decide) h
    omega
theorem th_str {D : Addr → Prop} {H : Hp} {x : Str} (h : Nm x 60) : Th D H (.str x) (.str x) 1000 10 := by
  have l := h.le
  refine ⟨⟨[], .str x, nofun⟩, ?_, rfl, ?_, by simp only [PyData.depth]; omega, rfl⟩
  · simp only [smD, Bool.and_eq_true, decide_eq_true_eq]
    exact ⟨by omega, List.all_eq_true.mpr fun z hz => decide_eq_true (h.ok z hz)⟩
  · have := StrLaws.reprText_len x fun z hz => Nat.lt_trans (h.ok z hz) (by decide +kernel)
    simp only [W]
    omega
/-- one turn of the walk over the six -/
structure BodyP (D : Ends) (σ : L2.St) (H : Hp) : Prop where
  ex : ∃ (b : Addr) (c : Int) (m nu wo od k lo hi tu : Option V) (v : V) (d : PyData) (Dd : Addr → Prop), σ = [some (.ref b), m, nu, wo, od, some v, k, lo, hi, tu] ∧ BoxAt H b c ∧ 0 ≤ c ∧ c + 6 < 900000 ∧ Th Dd H v d 900000 20 ∧ ¬ Dd b ∧
    ∀ H' c' k' lo' hi' tu', BoxAt H' b c' → 0 ≤ c' → c' ≤ c + 6 → (∀ p u, H p = some u → p ≠ b → (v ≠ .ref p ∨ worthOk 4 d = true) → H' p = some u) → D.nx [some (.ref b), m, nu, wo, od, some v, k', lo', hi', tu'] H'
structure RightP (vs : List V) (H : Hp) (Q : VK) : Prop where
  ex : ∃ (b : Addr), vs = [.ref b] ∧ BoxAt H b 0 ∧ ∀ H', But H H' (.ref b) → Q (.bl true) H'
def spRight : Sp := fun vs H Q _ => RightP vs H Q
section
variable {P : Program} {w : World} {K : PySem.W.Frag} {mg : Str → Option Value} {base : Heap}
theorem okBent {f : Addr} {fd : FuncData} (c0 : SaysK more fa fn K) (hm : mg "_law_bent" = some (.ref f)) (F : FnT K 29 "_law_bent" f fd) (T : Tx K mg) : ∀ n, n ≤ 10 → FnG P w K mg base CX0 (3 + n) f fd ["_law_box_here", "_law_worth_here"] (spB n)
  | 0, _ => okB0
  | n + 1, h => okBentS c0 hm F T (by omega) (okBent c0 hm F T n (by omega))
abbrev NRt : List Str := ["_law_box_here", "_law_most", "_law_number", "_law_worth_here", "_law_odd", "_law_thing", "_law_kept", "_law_low", "_law_high", "_law_turn"]
theorem scRight : FnScope NRt ["_law_box_here"] (defScope (top 38)) := ⟨rfl, rfl, rfl, by decide +kernel, rfl, by decide +kernel, by decide +kernel⟩
theorem okRight {f : Addr} {fd : FuncData} (c0 : SaysK more fa fn K) (F : FnT K 38 "_law_right" f fd) (T : Tx K mg) : FnG P w K mg base CX0 12 f fd ["_law_box_here"] spRight := by
  obtain ⟨fdT, FT⟩ : ∃ fd, FnT K 24 "_law_take" (He.ga K "_law_take") fd := law_at c0 10 rfl
  obtain ⟨fdW, FW⟩ : ∃ fd, FnT K 27 "_law_worth" (He.ga K "_law_worth") fd := law_at c0 13 rfl
  obtain ⟨fdB, FB⟩ : ∃ fd, FnT K 29 "_law_bent" (He.ga K "_law_bent") fd := law_at c0 15 rfl
  obtain ⟨fdN, FN⟩ : ∃ fd, FnT K 34 "_law_name" (He.ga K "_law_name") fd := law_at c0 20 rfl
  obtain ⟨fdX, FX⟩ : ∃ fd, FnT K 26 "_law_text" (He.ga K "_law_text") fd := law_at c0 12 rfl
  obtain ⟨fdO, FO⟩ : ∃ fd, FnT K 36 "_law_bound" (He.ga K "_law_bound") fd := law_at c0 22 rfl
  obtain ⟨fdY, FY⟩ : ∃ fd, FnT K 37 "_law_yes_right" (He.ga K "_law_yes_right") fd := law_at c0 23 rfl
  obtain ⟨fd1, F1⟩ : ∃ fd, FnT K 13 "is_whole" (He.ga K "is_whole") fd := law_at c0 0 rfl
  obtain ⟨fd2, F2⟩ : ∃ fd, FnT K 31 "_law_is_number" (He.ga K "_law_is_number") fd := law_at c0 17 rfl
  obtain ⟨fd3, F3⟩ : ∃ fd, FnT K 14 "is_name" (He.ga K "is_name") fd := law_at c0 1 rfl
  obtain ⟨fd4, F4⟩ : ∃ fd, FnT K 35 "_law_is_name" (He.ga K "_law_is_name") fd := law_at c0 21 rfl
  obtain ⟨fd5, F5⟩ : ∃ fd, FnT K 15 "is_text" (He.ga K "is_text") fd := law_at c0 2 rfl
  obtain ⟨fd6, F6⟩ : ∃ fd, FnT K 30 "_law_is_text" (He.ga K "_law_is_text") fd := law_at c0 16 rfl
  obtain ⟨fd7, F7⟩ : ∃ fd, FnT K 17 "is_worth" (He.ga K "is_worth") fd := law_at c0 4 rfl
  obtain ⟨fd8, F8⟩ : ∃ fd, FnT K 32 "_law_is_worth" (He.ga K "_law_is_worth") fd := law_at c0 18 rfl
  have GT := okTake (P := P) (w := w) (mg := mg) (base := base) FT T
  have GW := okDWorth (P := P) (w := w) (mg := mg) (base := base) c0 (T.mgF "_law_worth" (by decide +kernel)) FW T 4
  have GB := okBent (P := P) (w := w) (mg := mg) (base := base) c0 (T.mgF "_law_bent" (by decide +kernel)) FB T 5 (by decide)
  have GN := okDName (P := P) (w := w) (mg := mg) (base := base) c0 FN T
  have GX := okDText (P := P) (w := w) (mg := mg) (base := base) c0 FX T
  have GO := okBound (P := P) (w := w) (mg := mg) (base := base) c0 FO T
  have GY := okYRight (P := P) (w := w) (mg := mg) (base := base) c0 FY T
  have G1 := okWhole (P := P) (w := w) (mg := mg) (base := base) F1 T
  have G2 := okLNum (P := P) (w := w) (mg := mg) (base := base) F2 T
  have G3 := okName (P := P) (w := w) (mg := mg) (base := base) F3 T
  have G4 := okLName (P := P) (w := w) (mg := mg) (base := base) F4 T
  have G5 := okText (P := P) (w := w) (mg := mg) (base := base) F5 T
  have G6 := okLText (P := P) (w := w) (mg := mg) (base := base) c0 F6 T
  have G7 := okWorth (P := P) (w := w) (mg := mg) (base := base) c0 F7 T
  have G8 := okLWorth (P := P) (w := w) (mg := mg) (base := base) c0 (T.mgF "_law_is_worth" (by decide +kernel)) F8 T 4
  have BT : Binds K fdT ["_law_box_here", "_law_many"] [] := FT.bindsN fun _ _ _ _ _ _ us hl => match us, hl with | [_, _], _ => rfl
  have BW : Binds K fdW ["_law_box_here", "_law_deep_here"] [] := FW.bindsN fun _ _ _ _ _ _ us hl => match us, hl with | [_, _], _ => rfl
  have BB : Binds K fdB ["_law_box_here", "_law_worth_here"] [] := FB.bindsN fun _ _ _ _ _ _ us hl => match us, hl with | [_, _], _ => rfl
  have BN : Binds K fdN ["_law_box_here"] [] := FN.bindsN fun _ _ _ _ _ _ us hl => match us, hl with | [_], _ => rfl
  have BX : Binds K fdX ["_law_box_here"] [] := FX.bindsN fun _ _ _ _ _ _ us hl => match us, hl with | [_], _ => rfl
  have BO : Binds K fdO ["_law_box_here", "_law_number"] [] := FO.bindsN fun _ _ _ _ _ _ us hl => match us, hl with | [_, _], _ => rfl
  have BY : Binds K fdY ["_law_thing"] [] := FY.bindsN fun _ _ _ _ _ _ us hl => match us, hl with | [_], _ => rfl
  have B1 : Binds K fd1 ["thing", "low", "high"] [] := F1.bindsN fun _ _ _ _ _ _ us hl => match us, hl with | [_, _, _], _ => rfl
  have B2 : Binds K fd2 ["_law_thing", "_law_low", "_law_high"] [] := F2.bindsN fun _ _ _ _ _ _ us hl => match us, hl with | [_, _, _], _ => rfl
  have B3 : Binds K fd3 ["thing"] [] := F3.bindsN fun _ _ _ _ _ _ us hl => match us, hl with | [_], _ => rfl
  have B4 : Binds K fd4 ["_law_thing"] [] := F4.bindsN fun _ _ _ _ _ _ us hl => match us, hl with | [_], _ => rfl
  have B5 : Binds K fd5 ["thing"] [] := F5.bindsN fun _ _ _ _ _ _ us hl => match us, hl with | [_], _ => rfl
  have B6 : Binds K fd6 ["_law_thing"] [] := F6.bindsN fun _ _ _ _ _ _ us hl => match us, hl with | [_], _ => rfl
  have B7 : Binds K fd7 ["thing"] [] := F7.bindsN fun _ _ _ _ _ _ us hl => match us, hl with | [_], _ => rfl
  have B8 : Binds K fd8 ["_law_thing", "_law_deep_here"] [] := F8.bindsN fun _ _ _ _ _ _ us hl => match us, hl with | [_, _], _ => rfl
  refine fn_ofG F scRight (fun vs H Q E h => ?_) (fun cdv A outer s H vs Q E hr hg h => ?_)
  · obtain ⟨b, rfl, _⟩ := h.ex
    rfl
  · obtain ⟨b, rfl, hb, q⟩ := h.ex
    have hu := hr.units
    have r1 := hr.mono (show 1 ≤ 11 by decide)
    have r2 := hr.mono (show 2 ≤ 11 by decide)
    have r7 := hr.mono (show 7 ≤ 11 by decide)
    have r8 := hr.mono (show 8 ≤ 11 by decide)
    refine ⟨_, PSs.nox (pss_cons (ps_set (i := 1) scRight.nd rfl (Or.inl rfl) (pe_op op_pow pe_int pe_int))
      (pss_cons (ps_set (i := 2) scRight.nd rfl (Or.inl rfl) (pe_ix ix_list (pe_lst (pa_cons pe_int (pa_cons (pe_un un_neg pe_int) (pa_cons (pe_callG GT r1 hg (by rfl) (T.mgF "_law_take" (by decide +kernel)) FT.kp BT .nil pass0 (pa_cons (pv 0) (pa_cons (pv 1) pa_nil)))
          (pa_cons (pe_op op_sub pe_int (pe_callG GT r1 hg (by rfl) (T.mgF "_law_take" (by decide +kernel)) FT.kp BT .nil pass0 (pa_cons (pv 0) (pa_cons (pv 1) pa_nil)))) (pa_cons (pe_callG GT r1 hg (by rfl) (T.mgF "_law_take" (by decide +kernel)) FT.kp BT .nil pass0 (pa_cons (pv 0) (pa_cons (pe_op op_mul pe_int (pe_op op_pow pe_int pe_int)) pa_nil))) pa_nil))))))
        (pe_callG GT r1 hg (by rfl) (T.mgF "_law_take" (by decide +kernel)) FT.kp BT .nil pass0 (pa_cons (pv 0) (pa_cons pe_int pa_nil))) (fun _ _ => rfl)))
      (pss_cons (ps_set (i := 3) scRight.nd rfl (Or.inl rfl) (pe_callG GW r7 hg (by rfl) (T.mgF "_law_worth" (by decide +kernel)) FW.kp BW .nil pass0 (pa_cons (pv 0) (pa_cons pe_int pa_nil))))
      (pss_cons (ps_set (i := 4) scRight.nd rfl (Or.inl rfl) (pe_callG GB r8 hg (by rfl) (T.mgF "_law_bent" (by decide +kernel)) FB.kp BB .nil pass0 (pa_cons (pv 0) (pa_cons pe_non pa_nil))))
      (pss_cons (ps_for PassesOwn.never rfl (pi_list (pe_lst (pa_cons (pv 2) (pa_cons (pv 3) (pa_cons (pv 4) (pa_cons (pe_callG GN r2 hg (by rfl) (T.mgF "_law_name" (by decide +kernel)) FN.kp BN .nil pass0 (pa_cons (pv 0) pa_nil)) (pa_cons (pe_callG GX r2 hg (by rfl) (T.mgF "_law_text" (by decide +kernel)) FX.kp BX .nil pass0 (pa_cons (pv 0) pa_nil))
          (pa_cons (pe_callG GB r8 hg (by rfl) (T.mgF "_law_bent" (by decide +kernel)) FB.kp BB .nil pass0 (pa_cons (pv 0) (pa_cons (pv 3) pa_nil))) pa_nil)))))))) (pg_name (i := 5) scRight.nd rfl (Or.inl rfl))
        (weakSs (t' := BodyP) (pss_cons (ps_set (i := 6) scRight.nd rfl (Or.inl rfl) (pe_callB (call_repS (K := K) rfl T.sm hg hr.units) (by rfl) (T.fre "repr" (by simp [frees])) (by decide +kernel) (pa_cons (pv 5) pa_nil)))
          (pss_cons (ps_par (i := 7) (j := 8) rfl scRight.nd rfl rfl (by decide) rfl rfl (pa_cons (pe_callG GO r2 hg (by rfl) (T.mgF "_law_bound" (by decide +kernel)) FO.kp BO .nil pass0 (pa_cons (pv 0) (pa_cons (pv 5) pa_nil))) (pa_cons (pe_callG GO r2 hg (by rfl) (T.mgF "_law_bound" (by decide +kernel)) FO.kp BO .nil pass0 (pa_cons (pv 0) (pa_cons (pv 5) pa_nil))) pa_nil)) (by rfl))
          (pss_cons (ps_for PassesOwn.never rfl (pi_range1 (by rfl) (T.fre "range" (by simp [frees])) (pa_cons pe_int pa_nil)) (pg_name (i := 9) scRight.nd rfl (Or.inl rfl))
            (pss_cons (ps_if (pt_cmpR op_ne (pe_callB (call_repS (K := K) rfl T.sm hg hr.units) (by rfl) (T.fre "repr" (by simp [frees])) (by decide +kernel) (pa_cons (pe_callG G1 r1 hg (by rfl) (T.mgF "is_whole" (by decide +kernel)) F1.kp B1 .nil pass0 (pa_cons (pv 5) (pa_cons (pv 7) (pa_cons (pv 8) pa_nil)))) pa_nil))
                (pe_callB (call_repS (K := K) rfl T.sm hg hr.units) (by rfl) (T.fre "repr" (by simp [frees])) (by decide +kernel) (pa_cons (pe_callG G2 r1 hg (by rfl) (T.mgF "_law_is_number" (by decide +kernel)) F2.kp B2 .nil pass0 (pa_cons (pv 5) (pa_cons (pv 7) (pa_cons (pv 8) pa_nil)))) pa_nil)) (nomark _)) (pss_one (ps_ret pe_bl)) pss_nil)
            (pss_cons (ps_if (PW.pt (pw_or (pt_cmpR op_ne (pe_callB (call_repS (K := K) rfl T.sm hg hr.units) (by rfl) (T.fre "repr" (by simp [frees])) (by decide +kernel) (pa_cons (pe_callG G3 r1 hg (by rfl) (T.mgF "is_name" (by decide +kernel)) F3.kp B3 .nil pass0 (pa_cons (pv 5) pa_nil)) pa_nil))
                (pe_callB (call_repS (K := K) rfl T.sm hg hr.units) (by rfl) (T.fre "repr" (by simp [frees])) (by decide +kernel) (pa_cons (pe_callG G4 r2 hg (by rfl) (T.mgF "_law_is_name" (by decide +kernel)) F4.kp B4 .nil pass0 (pa_cons (pv 5) pa_nil)) pa_nil)) (nomark _))
              (pw_or1 (pt_cmpR op_ne (pe_callB (call_repS (K := K) rfl T.sm hg hr.units) (by rfl) (T.fre "repr" (by simp [frees])) (by decide +kernel) (pa_cons (pe_callG G5 r1 hg (by rfl) (T.mgF "is_text" (by decide +kernel)) F5.kp B5 .nil pass0 (pa_cons (pv 5) pa_nil)) pa_nil))
                (pe_callB (call_repS (K := K) rfl T.sm hg hr.units) (by rfl) (T.fre "repr" (by simp [frees])) (by decide +kernel) (pa_cons (pe_callG G6 r2 hg (by rfl) (T.mgF "_law_is_text" (by decide +kernel)) F6.kp B6 .nil pass0 (pa_cons (pv 5) pa_nil)) pa_nil)) (nomark _))))) (pss_one (ps_ret pe_bl)) pss_nil)
            (pss_one (ps_if (PW.pt (pw_or (pt_cmpR op_ne (pe_callB (call_repS (K := K) rfl T.sm hg hr.units) (by rfl) (T.fre "repr" (by simp [frees])) (by decide +kernel) (pa_cons (pe_callG G7 r8 hg (by rfl) (T.mgF "is_worth" (by decide +kernel)) F7.kp B7 .nil pass0 (pa_cons (pv 5) pa_nil)) pa_nil))
                (pe_callB (call_repS (K := K) rfl T.sm hg hr.units) (by rfl) (T.fre "repr" (by simp [frees])) (by decide +kernel) (pa_cons (pe_callG G8 r7 hg (by rfl) (T.mgF "_law_is_worth" (by decide +kernel)) F8.kp B8 .nil pass0 (pa_cons (pv 5) (pa_cons pe_int pa_nil))) pa_nil)) (nomark _))
              (pw_or1 (pt_cmpR op_ne (pe_callB (call_repS (K := K) rfl T.sm hg hr.units) (by rfl) (T.fre "repr" (by simp [frees])) (by decide +kernel) (pa_cons (pv 5) pa_nil)) (pv 6) (nomark _))))) (pss_one (ps_ret pe_bl)) pss_nil)))))
          (pss_one (ps_if (pt_not (pt_val (pe_callG GY hr hg (by rfl) (T.mgF "_law_yes_right" (by decide +kernel)) FY.kp BY .nil pass0 (pa_cons (pv 5) pa_nil)))) (pss_one (ps_ret pe_bl)) pss_nil)))))
          (fun D σ H q => ?body)))
      (pss_one (ps_ret pe_bl))))))), ?_⟩
    case body =>
      obtain ⟨b, c, m, nu, wo, od, k, lo, hi, tu, v, d, Dd, rfl, hb, k0, k1, t, nb, fin⟩ := q.ex
      have nS : ∀ x y : Str, x = y → (!decide (V.str x = V.str y)) = false := fun x y e => by rw [decide_eq_true (by rw [e])]; rfl
      refine ⟨_, rfl, t.rep ?_⟩
      refine ⟨_, rfl, _, rfl, ⟨⟨b, c, v, d, rfl, t.dq, hb, k0, by omega, fun i1 H1 c1 hb1 a10 a11 u1 => ?_⟩⟩⟩
      have t1 : Th Dd H1 v d 900000 20 := t.keep fun p u dp e => u1 p u e fun z => by
        cases z
        exact nb dp
      refine ⟨_, rfl, _, rfl, ⟨⟨b, c1, v, d, rfl, t1.dq, hb1, a10, by omega, fun i2 H2 c2 hb2 a20 a21 u2 => ?_⟩⟩⟩
      have t2 : Th Dd H2 v d 900000 20 := t1.keep fun p u dp e => u2 p u e fun z => by
        cases z
        exact nb dp
      refine ⟨_, _, rfl, 2, rfl, by decide, by decide, for_range (fun i σ H' => (∃ tu', σ = [some (.ref b), m, nu, wo, od, some v, some (.str d.shown), some (.int i1), some (.int i2), tu']) ∧ Same H2 H') ⟨⟨_, rfl⟩, sameR⟩ (fun i σ H' hi p => ?_) (fun σ H' p => ?_)⟩
      · obtain ⟨⟨tu', rfl⟩, sH⟩ := p
        have t3 := t2.same sH
        refine ⟨_, rfl, _, rfl, _, rfl, ⟨⟨v, d, i1, i2, rfl, t3.dq, rep_bl ?_⟩⟩⟩
        refine ⟨_, rfl, _, rfl, _, rfl, ⟨⟨v, d, i1, i2, rfl, t3.dq, rep_bl ⟨rfl, _, rfl, iteE (nS _ _ rfl) ?_⟩⟩⟩⟩
        refine ⟨_, rfl, ⟨⟨v, d, rfl, t3.dq, t3.sm, fun H4 s4 => rep_bl ?_⟩⟩⟩
        have t4 := t3.same s4
        refine ⟨_, rfl, ⟨⟨v, d, rfl, t4.dq, t4.sm, fun H5 s5 => rep_bl ⟨rfl, _, rfl, iteE (nS _ _ rfl) ?_⟩⟩⟩⟩
        have t5 := t4.same s5
        refine ⟨_, rfl, ⟨⟨v, d, rfl, t5.dq, t5.sm, fun H6 s6 => rep_bl ?_⟩⟩⟩
        have t6 := t5.same s6
        refine ⟨_, rfl, ⟨⟨v, d, rfl, t6.dq, t6.sm, fun H7 s7 => rep_bl ⟨rfl, _, rfl, iteE (nS _ _ rfl) ?_⟩⟩⟩⟩
        have t7 := t6.same s7
        refine ⟨_, rfl, ⟨⟨v, d, rfl, t7.dq, t7.sm, fun H8 s8 => rep_bl ?_⟩⟩⟩
        have t8 := t7.same s8
        refine ⟨_, rfl, ⟨⟨v, d, rfl, t8.dq, t8.sm, fun H9 s9 => rep_bl ⟨rfl, _, rfl, iteE (nS _ _ rfl) ?_⟩⟩⟩⟩
        have t9 := t8.same s9
        refine ⟨_, rfl, t9.rep ⟨_, rfl, rfl, _, rfl, iteE (nS _ _ rfl) ?_⟩⟩
        exact ⟨⟨_, rfl⟩, sH.trans (s4.trans (s5.trans (s6.trans (s7.trans (s8.trans s9)))))⟩
      · obtain ⟨⟨tu', rfl⟩, sH⟩ := p
        have t3 := t2.same sH
        refine ⟨_, rfl, ⟨⟨Dd, v, d, rfl, t3, fun H9 b9 e9 => ⟨_, rfl, iteE rfl ?_⟩⟩⟩⟩
        have vb : v ≠ .ref b := fun z => nb ((t3.one (by decide) (by decide)).at_ b z)
        obtain ⟨x, y, eb, rr⟩ := hb2.same sH
        refine fin H9 c2 _ _ _ _ ⟨x, y, b9 _ _ eb vb, rr⟩ a20 (by omega) fun p u e pb pv => ?_
        have nz : V.ref b ≠ .ref p := fun z => pb (V.ref.inj z).symm
        have e' := sH _ _ (u2 p u (u1 p u e nz) nz)
        rcases pv with n | wo
        · exact b9 p u e' n
        · exact e9 wo p u e'
    -- the number
    refine ⟨_, _, rfl, rfl, ⟨by decide, by decide, by decide⟩, ?_⟩
    refine ⟨_, rfl, _, rfl, _, rfl, ?_⟩
    dsimp only [tCons, tC, tNil, tCall]
    refine take_end hb (by decide) (by decide) (by decide) (by decide +kernel) fun ra xa Ha ra0 ra1 hba aa0 aa1 ua => ?_
    refine ⟨_, rfl, _, rfl, ?_⟩
    dsimp only [tCons, tC, tNil, tCall]
    refine take_end hba aa0 (by omega) (by decide) (by decide +kernel) fun rb xb Hb rb0 rb1 hbb ab0 ab1 ub => ?_
    refine ⟨_, _, rfl, rfl, _, rfl, _, _, rfl, rfl, ⟨by decide, by decide, by decide⟩, _, _, rfl, rfl, .inl (by constructor <;> decide), ?_⟩
    dsimp only [tCons, tC, tNil, tCall]
    refine take_end hbb ab0 (by omega) (by decide) (by decide +kernel) fun rc xc Hc rc0 rc1 hbc ac0 ac1 uc => ?_
    refine ⟨z100 (by show 5 ≤ 1000; decide), fun p3 n3 => ?_⟩
    generalize g3 : upd _ p3 _ = H3
    obtain ⟨s3, e3⟩ := newlyK g3 n3
    refine ⟨_, rfl, ?_⟩
    dsimp only [tCons, tC, tNil, tCall]
    refine take_end (n := 5) (hbc.same s3) ac0 (by omega) (by decide) (by decide) fun r4 x4 H4 r40 r41 hb4 a40 a41 u4 => ?_
    obtain ⟨obc, ebc⟩ := hbc.there
    have e4 := u4 _ _ e3 fun z => ne_of_none ebc n3 (V.ref.inj z)
    obtain ⟨y4, hy4, my4⟩ := atI_at (xs := [V.int 0, V.int (-1), V.int ra, V.int (1 - rb), V.int rc]) r40 (by show r4 < 5; exact r41)
    have U4 : But H H4 (.ref b) := ua.trans (ub.trans (uc.trans ((same_butK s3).trans u4)))
    obtain ⟨nu, rfl, hnu⟩ : ∃ i : Int, y4 = .int i ∧ i.natAbs < 10 ^ 31 := by
      have k1 : (10 : Int) ^ (29 : Int).toNat < 10 ^ 30 := by decide +kernel
      have k2 : (2 : Int) * 10 ^ (9 : Int).toNat < 10 ^ 30 := by decide +kernel
      have k3 : (10 : Int) ^ 30 < 10 ^ 31 := by decide +kernel
      have k4 : ∀ i : Int, -(10 ^ 30) ≤ i → i ≤ 10 ^ 30 → i.natAbs < 10 ^ 31 := fun i h1 h2 => by
        have k5 : (10 : Int) ^ 30 = 1000000000000000000000000000000 := by decide +kernel
        have k6 : (10 : Nat) ^ 31 = 10000000000000000000000000000000 := by decide +kernel
        rw [k5] at h1 h2
        rw [k6]
        omega
      have k7 : (0 : Int) ≤ 10 ^ 30 := by decide +kernel
      simp only [List.mem_cons, List.not_mem_nil, or_false] at my4
      generalize (10 : Int) ^ (29 : Int).toNat = N29 at ra1 rb1 k1
      generalize (2 : Int) * 10 ^ (9 : Int).toNat = N9 at rc1 k2
      have k8 : (1 : Int) ≤ 10 ^ 30 := by decide +kernel
      rcases my4 with rfl | rfl | rfl | rfl | rfl
      all_goals refine ⟨_, rfl, k4 _ ?_ ?_⟩
      all_goals omega
    refine ⟨p3, _, r4, _, rfl, rfl, SqL.of e4, hy4, ?_⟩
    clear hy4 my4 e4
    -- the worth
    have cc4 : K01.CC 4 = 42700 := by decide
    have bb4 : K01.BB 4 ≤ 200000 := by decide +kernel
    refine ⟨_, rfl, DWorthP.mk ⟨b, x4, rfl, hb4, a40, by rw [cc4]; omega, fun vw dw Hw cw gw wo hbw aw0 aw1 uw => ?_⟩⟩
    rw [cc4] at aw1
    obtain ⟨o4, eb4⟩ := hb4.there
    obtain ⟨ow, ebw⟩ := hbw.there
    have Uw : But H Hw (.ref b) := U4.trans uw
    have tpw := (gd_th gw).tp
    obtain ⟨S, _, zw, _, sdw, smw, shw, wdw, dpw⟩ := gw.ex
    have bS : b ∉ S := fun m => by
      have z : H4 b = none := sdw b m
      rw [eb4] at z
      cases z
    have SH : ∀ p ∈ S, H p = none := fun p m => new_old U4 eb4 (sdw p m)
    -- the odd one
    refine ⟨_, rfl, BentP.mk (n := 4) ⟨b, cw, .non, .none, [], rfl, hbw, aw0, by omega, .non, nofun, rfl, rfl, rfl, by decide, fun vo dO Ho co tO hbo ao0 ao1 uo => ?_⟩⟩
    obtain ⟨oo, ebo⟩ := hbo.there
    have Uo : But H Ho (.ref b) := Uw.trans uo
    -- name, text
    refine ⟨_, rfl, _, rfl, _, rfl, _, rfl, NameP.mk ⟨b, co, rfl, hbo, ao0, by omega, fun xn Hn cn nmn hbn an0 an1 un => ?_⟩⟩
    refine ⟨_, rfl, TextP.mk ⟨b, cn, rfl, hbn, an0, by omega, fun xt Ht ct okt l60 hbt at0 at1 ut => ?_⟩⟩
    have Ut : But Hw Ht (.ref b) := uo.trans (un.trans ut)
    have U2t : But H Ht (.ref b) := Uw.trans Ut
    have zt : Dz Ht vw dw S := zw.keep fun p m o e => Ut p o e fun z => by
      cases z
      exact bS m
    -- the bent worth
    refine ⟨_, rfl, _, rfl, BentP.mk (n := 4) ⟨b, ct, vw, dw, S, rfl, hbt, at0, by omega, zt, bS, wo, smw, shw, dpw, fun vb db Hb cb tB hbb2 ab0 ab1 ub => ?_⟩⟩
    obtain ⟨ot, ebt⟩ := hbt.there
    obtain ⟨obb, ebb⟩ := hbb2.there
    have Ub : But H Hb (.ref b) := U2t.trans ub
    refine ⟨z100 (by show 6 ≤ 1000; decide), fun pL nL => ?_⟩
    generalize gL : upd _ pL _ = G
    obtain ⟨sL, eL⟩ := newlyK gL nL
    have hbG := hbb2.same sL
    have UG : But H G (.ref b) := Ub.trans (same_butK sL)
    -- all of them, as they stand at G
    have tW : Th (fun p => p ∈ S) G vw dw 900000 20 := ⟨⟨S, zt.keep fun p m o e => sL _ _ (ub p o e fun z => by
      cases z
      exact bS m), fun p m => m⟩, smw, shw, by omega, by omega, tpw⟩
    have nbo : ¬ (fun p => p ∈ ([] : List Addr) ∨ Hw p = none) b := fun z => by
      rcases z with z | z
      · cases z
      · rw [ebw] at z
        cases z
    have w0 : W .none = 4 := by simp only [W]
    have toG : But Ho G (.ref b) := un.trans (ut.trans (ub.trans (same_butK sL)))
    have tOG : Th (fun p => p ∈ ([] : List Addr) ∨ Hw p = none) G vo dO 900000 20 := (tO.wide (B' := 900000) (k' := 20) (fun p h => h) (by omega) (by decide)).keep fun p u dp e => toG p u e fun z => by
      cases z
      exact nbo dp
    have nbb : ¬ (fun p => p ∈ S ∨ Ht p = none) b := fun z => by
      rcases z with z | z
      · exact bS z
      · rw [ebt] at z
        cases z
    have tBG : Th (fun p => p ∈ S ∨ Ht p = none) G vb db 900000 20 := (tB.wide (B' := 900000) (k' := 20) (fun p h => h) (by omega) (by decide)).same sL
    have oA : ∀ p, vo = .ref p → Hw p = none ∧ ∃ o, Ho p = some o := fun p e => by
      have m := (tO.wide (B' := 900000) (k' := 20) (fun p h => h) (by omega) (by decide)).one (by decide) (by decide)
      refine ⟨(m.at_ p e).resolve_left (fun z => by cases z), ?_⟩
      obtain ⟨⟨So, zo, mo⟩, _⟩ := tO
      subst e
      cases zo with
      | tup h _ _ => exact ⟨_, h⟩
      | lst h _ _ => exact ⟨_, h⟩
      | dic h _ _ => exact ⟨_, h⟩
    have bA : ∀ p, vb = .ref p → (p ∈ S ∨ Ht p = none) ∧ ∃ o, Hb p = some o := fun p e => by
      have m := (tB.wide (B' := 900000) (k' := 20) (fun p h => h) (by omega) (by decide)).one (by decide) (by decide)
      refine ⟨m.at_ p e, ?_⟩
      obtain ⟨⟨So, zo, mo⟩, _⟩ := tB
      subst e
      cases zo with
      | tup h _ _ => exact ⟨_, h⟩
      | lst h _ _ => exact ⟨_, h⟩
      | dic h _ _ => exact ⟨_, h⟩
    have ebG : ∃ o, G b = some o := ⟨_, sL _ _ ebb⟩
    have pLb : pL ≠ b := fun z => by
      rw [z, ebb] at nL
      cases nL
    have pLo : vo ≠ .ref pL := fun z => by
      obtain ⟨_, o, e⟩ := oA pL z
      have e2 := (un.trans (ut.trans ub)) pL o e fun y => pLb (V.ref.inj y).symm
      rw [nL] at e2
      cases e2
    have pLv : vb ≠ .ref pL := fun z => by
      obtain ⟨_, o, e⟩ := bA pL z
      rw [nL] at e
      cases e
    -- what each thing is, what it may change
    have each : ∀ (i : Nat) (x : V), ([V.int nu, vw, vo, V.str xn, V.str xt, vb] : List V)[i]? = some x → ∃ (d : PyData) (Dd : Addr → Prop), Th Dd G x d 900000 20 ∧ ¬ Dd b ∧ (∀ p, Dd p → ¬ (2 < i ∧ vo = .ref p)) ∧
        (∀ p, ¬ (2 < i + 1 ∧ vo = .ref p) → ¬ (5 < i + 1 ∧ vb = .ref p) → (x ≠ .ref p ∨ worthOk 4 d = true)) := fun i x hx => by
      match i, hx with
      | 0, hx =>
        cases hx
        exact ⟨_, fun _ => False, (th_int hnu).wide (fun p h => h) (by decide) (by decide), fun z => z, fun p z => z.elim, fun p _ _ => .inl nofun⟩
      | 1, hx =>
        cases hx
        exact ⟨dw, _, tW, bS, fun p _ z => by omega, fun p _ _ => .inr wo⟩
      | 2, hx =>
        cases hx
        exact ⟨dO, _, tOG, nbo, fun p _ z => by omega, fun p z _ => .inl fun y => z ⟨by omega, y⟩⟩
      | 3, hx =>
        cases hx
        exact ⟨_, fun _ => False, (th_str (nmn.more (by decide))).wide (fun p h => h) (by decide) (by decide), fun z => z, fun p z => z.elim, fun p _ _ => .inl nofun⟩
      | 4, hx =>
        cases hx
        exact ⟨_, fun _ => False, (th_str ⟨fun z hz => sign_128 (okt z hz), l60⟩).wide (fun p h => h) (by decide) (by decide), fun z => z, fun p z => z.elim, fun p _ _ => .inl nofun⟩
      | 5, hx =>
        cases hx
        refine ⟨db, _, tBG, nbb, fun p m z => ?_, fun p _ z => .inl fun y => z ⟨by omega, y⟩⟩
        obtain ⟨z1, o, z2⟩ := oA p z.2
        have pb : p ≠ b := fun y => by
          rw [y, ebw] at z1
          cases z1
        rcases m with m | m
        · obtain ⟨o', e'⟩ := zw.there p m
          rw [z1] at e'
          cases e'
        · have e2 := (un.trans ut) p o z2 fun y => pb (V.ref.inj y).symm
          rw [show Ht p = none from m] at e2
          cases e2
      | i + 6, hx => exact absurd (List.getElem?_eq_some_iff.mp hx).1 (by show ¬ i + 6 < 6; omega)
    refine ⟨pL, rfl, ⟨_, SqL.of eL⟩, for_list (xs := [V.int nu, vw, vo, V.str xn, V.str xt, vb]) (fun i σ H' => (∃ m od th k lo hi tu, σ = [some (.ref b), m, some (.int nu), some vw, od, th, k, lo, hi, tu]) ∧ ∃ ci, BoxAt H' b ci ∧ 0 ≤ ci ∧ ci ≤ 100000 + 6 * (i : Int) ∧
        ∀ p u, G p = some u → p ≠ b → ¬ (2 < i ∧ vo = .ref p) → ¬ (5 < i ∧ vb = .ref p) → H' p = some u) ⟨⟨_, _, _, _, _, _, _, rfl⟩, cb, hbG, ab0, by omega, fun p u e _ _ _ => e⟩ (fun i σ H' hi p => ?_) (fun i x σ H' hx p => ?_) (fun σ H' p => ?_)⟩
    · obtain ⟨_, ci, _, _, _, k⟩ := p
      exact SqL.of (k pL _ eL pLb (fun z => pLo z.2) fun z => pLv z.2)
    · obtain ⟨⟨m, od, th, k, lo, hi, tu, rfl⟩, ci, hbi, c0', c1', kp⟩ := p
      have i6 : i < 6 := (List.getElem?_eq_some_iff.mp hx).1
      obtain ⟨d, Dd, tG, nDb, m1, m2⟩ := each i x hx
      refine BodyP.mk ⟨b, ci, m, _, _, od, k, lo, hi, tu, x, d, Dd, rfl, hbi, c0', by omega, tG.keep fun p u dp e => kp p u e (fun z => nDb (by rw [← z]; exact dp)) (m1 p dp) (fun z => by omega), nDb, fun H2 c2 k2 lo2 hi2 tu2 hb2 z0 z1 kk => ?_⟩
      refine ⟨⟨_, _, _, _, _, _, _, rfl⟩, c2, hb2, z0, by omega, fun p u e pb n1 n2 => ?_⟩
      exact kk p u (kp p u e pb (fun z => n1 ⟨by omega, z.2⟩) fun z => n2 ⟨by omega, z.2⟩) pb (m2 p n1 n2)
    · obtain ⟨⟨m, od, th, k, lo, hi, tu, rfl⟩, ci, hbi, c0', c1', kp⟩ := p
      refine q H' fun p u e np => ?_
      have pb : p ≠ b := fun z => np (by rw [z])
      refine kp p u (UG p u e np) pb (fun z => ?_) fun z => ?_
      · obtain ⟨z1, _⟩ := oA p z.2
        have := Uw p u e np
        rw [z1] at this
        cases this
      · rcases (bA p z.2).1 with m | m
        · have := SH p m
          rw [e] at this
          cases this
        · have := U2t p u e np
          rw [show Ht p = none from m] at this
          cases this
end
end K01

set_option Elab.async false
set_option linter.all false
set_option maxRecDepth 100000
set_option maxHeartbeats 8000000
/-! k01, u: the law -/
namespace K01
open PySem PySem.Spec L2 KK
open PyProof.Rows hiding St

def spLaw (K : PySem.W.Frag) : Sp := fun vs H Q _ => ∃ (a : Addr) (ns : List Int), vs = [.ref a] ∧ SqL K H a (ns.map V.int) ∧ ∀ H', Q (.bl true) H'
section
variable {P : Program} {w : World} {K : PySem.W.Frag} {mg : Str → Option Value} {base : Heap}
theorem scLaw : FnScope ["_law_script", "_law_k"] ["_law_script"] (defScope (top 39)) := ⟨rfl, rfl, rfl, by decide +kernel, rfl, by decide +kernel, by decide +kernel⟩
theorem okLaw {f : Addr} {fd : FuncData} (c0 : SaysK more fa fn K) (F : FnT K 39 "law" f fd) (T : Tx K mg) : FnG P w K mg base CX0 13 f fd ["_law_script"] (spLaw K) := by
  obtain ⟨fdC, FC⟩ : ∃ fd, FnT K 22 "_law_cell" (He.ga K "_law_cell") fd := law_at c0 8 rfl
  obtain ⟨fdB, FB⟩ : ∃ fd, FnT K 23 "_law_box" (He.ga K "_law_box") fd := law_at c0 9 rfl
  obtain ⟨fdR, FR⟩ : ∃ fd, FnT K 38 "_law_right" (He.ga K "_law_right") fd := law_at c0 24 rfl
  have BC : Binds K fdC ["_law_script", "_law_k"] [] := FC.bindsN fun _ _ _ _ _ _ us hl => match us, hl with | [_, _], _ => rfl
  have BB : Binds K fdB ["_law_cell_here"] [] := FB.bindsN fun _ _ _ _ _ _ us hl => match us, hl with | [_], _ => rfl
  have BR : Binds K fdR ["_law_box_here"] [] := FR.bindsN fun _ _ _ _ _ _ us hl => match us, hl with | [_], _ => rfl
  have GC := okCell (P := P) (w := w) (mg := mg) (base := base) FC T
  have GB := okBox (P := P) (w := w) (mg := mg) (base := base) FB T
  have GR := okRight (P := P) (w := w) (mg := mg) (base := base) c0 FR T
  refine fn_ofG F scLaw (fun vs H Q E h => ?_) (fun cdv A outer s H vs Q E hr hg h => ?_)
  · obtain ⟨a, ns, rfl, _⟩ := h
    rfl
  · obtain ⟨a, ns, rfl, hS, q⟩ := h
    have hr1 := hr.mono (show 1 ≤ 12 by decide)
    refine ⟨_, PSs.nox (pss_cons (ps_for PassesOwn.never rfl (pi_range1 (by rfl) (T.fre "range" (by simp [frees])) (pa_cons (pe_callB (call_max2 rfl) (by rfl) (T.fre "max" (by simp [frees])) (by decide +kernel) (pa_cons pe_int (pa_cons (pe_callB (call_min2 rfl) (by rfl) (T.fre "min" (by simp [frees])) (by decide +kernel)
          (pa_cons pe_int (pa_cons (pe_callB call_len_seq (by rfl) (T.fre "len" (by simp [frees])) PySem.boot_len (pa_cons (pv 0) pa_nil)) pa_nil))) pa_nil))) pa_nil)) (pg_name (i := 1) scLaw.nd rfl (Or.inl rfl))
        (pss_one (ps_if (pt_not (pt_val (pe_callG GR hr hg (by rfl) (T.mgF "_law_right" (by decide +kernel)) FR.kp BR .nil pass0 (pa_cons (pe_callG GB hr1 hg (by rfl) (T.mgF "_law_box" (by decide +kernel)) FB.kp BB .nil pass0
          (pa_cons (pe_callG GC hr1 hg (by rfl) (T.mgF "_law_cell" (by decide +kernel)) FC.kp BC .nil pass0 (pa_cons (pv 0) (pa_cons (pv 1) pa_nil))) pa_nil)) pa_nil)))) (pss_one (ps_ret pe_bl)) pss_nil)))
      (pss_one (ps_ret pe_bl))), ?_⟩
    refine ⟨_, rfl, a, _, rfl, .inl hS, _, _, rfl, _, _, rfl, ?_⟩
    have j8 : ∀ L : Int, 0 ≤ (if (if L < 12 then L else 12) > 3 then (if L < 12 then L else 12) else 3) ∧ (if (if L < 12 then L else 12) > 3 then (if L < 12 then L else 12) else 3) ≤ 12 := by
      intro L
      split <;> split <;> omega
    refine ⟨_, rfl, Int.le_trans (by decide) (j8 _).1, Int.lt_of_le_of_lt (j8 _).2 (by decide), for_range (fun i σ H' => (∃ s1, σ = [some (.ref a), s1]) ∧ Same H H') ⟨⟨_, rfl⟩, fun _ _ e => e⟩ (fun i σ H' hi p => ?_) (fun σ H' p => ?_)⟩
    · obtain ⟨⟨s1, rfl⟩, sH⟩ := p
      have i8 : i < 12 := Nat.lt_of_lt_of_le hi (Int.toNat_le.mpr (j8 _).2)
      refine ⟨_, rfl, _, rfl, a, ns, 0 + (i : Int), rfl, sqL_same hS sH, by omega, by omega, fun z => ?_⟩
      refine ⟨z, rfl, fun p x y np x0 y0 y1 => ?_⟩
      refine ⟨⟨p, rfl, ⟨x, y, upd_same, x0, y0, y1⟩, fun H2 b2 => ⟨_, rfl, iteE rfl ?_⟩⟩⟩
      refine ⟨⟨_, rfl⟩, fun d u e => b2 d u (laidK np d u (sH d u e)) fun z => ?_⟩
      cases z
      rw [sH _ _ e] at np
      cases np
    · exact q H'
theorem facts {h : Heap} {f : Addr} (X : K.In h) (G : h.Ns mainGlobals mg) (hfa : mg ("law" : Str) = some (.ref f)) (c : SaysK more fa fn K) :
    ∃ fd : FuncData, (∀ (s : Shared) (v : Value), BindsTo s fd ⟨[v], []⟩ [("_law_script", v)]) ∧ ∀ base : Heap, K.In base → base.Ns mainGlobals mg → FnG P w K mg base CX0 13 f fd ["_law_script"] (spLaw K) := by
  have T := tx_of X G c
  obtain ⟨fd, F⟩ : ∃ fd, FnT K 39 "law" (He.ga K "law") fd := law_at c 25 rfl
  have e := hfa.symm.trans (T.mgF "law" (by decide +kernel))
  cases e
  have b := FunD.bindsA (ps := ["_law_script"]) F fun _ _ _ _ _ _ us hl => match us, hl with | [_], _ => rfl
  exact ⟨fd, fun s v => b s [v] rfl, fun base _ _ => okLaw c F T⟩
end
end K01

set_option Elab.async false
set_option linter.all false
set_option maxRecDepth 100000
set_option maxHeartbeats 0
open PySem PySem.W PySem.Calls PyProof.Rows
theorem PySem.Challenge.cw_innerlook_k01_kinds_of_any_thing_holds : PySem.Challenge.rw_innerlook_k01_kinds_of_any_thing.Holds := by
  w_on; o_law
  refine HandSHeadRun.head_any (r := OpenLaw.row PySem.Challenge.rw_innerlook_k01_kinds_of_any_thing) (q := view (OpenLaw.row PySem.Challenge.rw_innerlook_k01_kinds_of_any_thing).prog [39]) (H := K01.hk) (ob := K01.ob) (M := 9000) (loose := K01.loose) (d := HandSHeadRun.topDef (OpenLaw.row PySem.Challenge.rw_innerlook_k01_kinds_of_any_thing).prog 39) (kwd := []) K01.ob_eq
    (by kernel_rfl) (fun s => by kernel_rfl) K01.run (by kernel_rfl) (by kernel_rfl) (by kernel_rfl) (by rfl) (by first | assumption | decide +kernel) (by decide +kernel) ⟨rfl, rfl, rfl, rfl, rfl, by decide +kernel⟩ ?hw ?hc
  case hw => w_witness2
  case hc =>
    refine KK.walk_K (l := PySem.Challenge.rw_innerlook_k01_kinds_of_any_thing) (n := 63) (k := 13) (x := "_law_script") rfl (by decide) (by kernel_rfl) ⟨rfl, by decide, by decide⟩ ?F
    intro w mg fa h Y G hmg0
    obtain ⟨K, KX, c⟩ := Y
    have hmg : mg ("law" : PySem.Str) = some (.ref fa) := by
      have e : (HandSHeadRun.topDef (OpenLaw.row PySem.Challenge.rw_innerlook_k01_kinds_of_any_thing).prog 39).name = ("law" : PySem.Str) := by kernel_rfl
      rw [← e]
      exact hmg0
    obtain ⟨fd, hb, hF⟩ := K01.facts (P := (PySem.Challenge.rw_innerlook_k01_kinds_of_any_thing).prog) (w := w) KX G hmg c
    exact ⟨K, fd, K01.spLaw K, KX, hb, fun H a ns hl _ _ hS => ⟨a, ns, rfl, hS, fun _ => rfl⟩, hF⟩

